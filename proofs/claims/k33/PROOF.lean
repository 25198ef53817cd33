import PyProof.Rows.All
import Wide.All
import OpenK.AllK
import Wide.FinOn
import Lean
import PyProof.EqAt
import PyProof.EqKinds
import PyProof.TupleCall
import PySem.Challenge.RW_moodtree_k33_what_is_picked
set_option Elab.async false
set_option linter.all false
set_option maxRecDepth 100000
set_option maxHeartbeats 4000000
namespace L2
open PySem PySem.Spec PyProof.Rows
noncomputable abbrev ae8 := @List.mem_append_right
noncomputable abbrev ae9 := @if_neg
noncomputable abbrev afa := @if_pos
noncomputable abbrev afb := @List.mem_cons_self
noncomputable abbrev afc := @List.getElem?_eq_getElem
noncomputable abbrev afd := @List.mem_cons_of_mem
noncomputable abbrev afe := @List.mem_cons
noncomputable abbrev afg := @Nat.le_refl
noncomputable abbrev afh := @Nat.le_of_ble_eq_true
noncomputable abbrev afi := @List.append_assoc
noncomputable abbrev afj := @List.length_map
noncomputable abbrev afk := @List.getD_eq_getElem?_getD
noncomputable abbrev afl := @List.mem_append_left
noncomputable abbrev afm := @List.mem_append
noncomputable abbrev afn := @Heap.get?_push_of_some
noncomputable abbrev afo := @of_decide_eq_true
noncomputable abbrev afp := @of_decide_eq_false
noncomputable abbrev afq := @PySem.W.mg_of
noncomputable abbrev afr := @Bool.false_ne_true
noncomputable abbrev afs := @wpAny_bind
noncomputable abbrev afu := @Heap.lt_size
noncomputable abbrev afv := @Option.some.inj
noncomputable abbrev afw := @Int.emod_lt_of_pos
noncomputable abbrev afx := @List.map_cons
noncomputable abbrev afy := @List.length_append
noncomputable abbrev afz := @List.size_toArray
noncomputable abbrev afA := @List.getElem?_eq_some_iff
noncomputable abbrev afB := @Int.emod_nonneg
noncomputable abbrev afC := @List.mem_map
noncomputable abbrev afD := @List.mem_singleton
noncomputable abbrev afE := @Heap.get?_push_size
noncomputable abbrev afF := @List.cons_append
noncomputable abbrev afG := @Nat.zero_le
noncomputable abbrev afH := @List.getElem?_map
noncomputable abbrev afI := @List.length_cons
noncomputable abbrev afJ := @Bool.and_eq_true
noncomputable abbrev afK := @List.not_mem_nil
noncomputable abbrev afL := @List.lookup_cons
noncomputable abbrev afM := @List.mem_of_getElem?
noncomputable abbrev afN := @Nat.lt_of_lt_of_le
noncomputable abbrev afO := @Nat.ne_of_lt
noncomputable abbrev afP := @sizeLine_eq
noncomputable abbrev afQ := @List.append_nil
noncomputable abbrev afR := @List.map_map
noncomputable abbrev afS := @List.Sublist.refl
noncomputable abbrev afT := @List.Sublist.append
noncomputable abbrev afU := @Nat.le_trans
noncomputable abbrev afV := @wpAny_pure
noncomputable abbrev afW := @Int.toNat_natCast
noncomputable abbrev afX := @List.perm_append_comm
noncomputable abbrev afY := @decide_eq_false
noncomputable abbrev afZ := @List.nodup_append
noncomputable abbrev af0 := @wpS_bind
noncomputable abbrev af1 := @List.Perm.append_left
noncomputable abbrev af2 := @Bool.false_eq_true
noncomputable abbrev af3 := @PySem.W.mg_none_of
noncomputable abbrev af4 := @List.mem_filter
noncomputable abbrev af5 := @List.mem_range
noncomputable abbrev af6 := @List.all_eq_true
noncomputable abbrev af7 := @PySem.mem_of_lookup
noncomputable abbrev af8 := @List.take_add_one
noncomputable abbrev af9 := @Nat.le_of_lt
noncomputable abbrev aga := @List.take_length
noncomputable abbrev agb := @List.filterMap_cons
noncomputable abbrev agc := @List.map_congr_left
noncomputable abbrev agd := @wpS_pure
noncomputable abbrev age := @List.nodup_cons
noncomputable abbrev agf := @List.sublist_append_right
noncomputable abbrev agg := @List.length_filter_le
noncomputable abbrev agh := @List.reverse_cons
noncomputable abbrev agi := @PyProof.Rows.callWith_type1
noncomputable abbrev agj := @List.length_nil
noncomputable abbrev agk := @Array.length_toList
noncomputable abbrev agl := @List.replicate_succ
noncomputable abbrev agm := @List.getElem?_range
noncomputable abbrev agn := @wpAny_mono
noncomputable abbrev ago := @List.any_cons
noncomputable abbrev agp := @List.getElem?_append_right
noncomputable abbrev agq := @List.getElem_mem
noncomputable abbrev agr := @List.length_replicate
noncomputable abbrev ags := @List.pairwise_cons
noncomputable abbrev agt := @Int.zero_add
noncomputable abbrev agu := @List.flatMap_cons
noncomputable abbrev agv := @beq_eq_false_iff_ne
noncomputable abbrev agw := @decide_eq_true
noncomputable abbrev agx := @List.perm_middle
noncomputable abbrev agy := @List.nodup_nil
noncomputable abbrev agz := @beq_self_eq_true
noncomputable abbrev agA := @wpAny_Call_Name_kw
noncomputable abbrev agB := @List.filter_append
noncomputable abbrev agC := @wpAny_passesOwn
noncomputable abbrev agD := @Array.getElem?_toList
noncomputable abbrev agE := @if_false
noncomputable abbrev agF := @List.flatten_cons
noncomputable abbrev agG := @List.ext_getElem?
noncomputable abbrev agH := @List.flatMap_def
noncomputable abbrev agI := @List.filter_cons_of_neg
noncomputable abbrev agJ := @List.filter_cons_of_pos
noncomputable abbrev agK := @wpAny_getItem_str_slice
noncomputable abbrev agL := @PySem.W.kia_one
noncomputable abbrev agM := @List.nil_append
noncomputable abbrev agN := @List.range_succ
noncomputable abbrev agO := @List.take_of_length_le
noncomputable abbrev agP := @wpAny_truthy_bool
noncomputable abbrev agQ := @decide_eq_true_eq
noncomputable abbrev agR := @List.length_range
noncomputable abbrev agS := @if_true
noncomputable abbrev agT := @List.getElem?_eq_none
noncomputable abbrev agU := @List.length_take
noncomputable abbrev agV := @Nat.lt_irrefl
noncomputable abbrev agW := @Nat.le_succ
noncomputable abbrev agX := @List.flatMap_append
noncomputable abbrev agY := @List.getElem?_append_left
noncomputable abbrev agZ := @List.filter_nil
noncomputable abbrev ag0 := @List.map_append
noncomputable abbrev ag1 := @wpS_forRange
noncomputable abbrev ag2 := @List.Perm.refl
noncomputable abbrev ag3 := @List.all_eq_false
noncomputable abbrev ag4 := @wpAny_holding
noncomputable abbrev ag5 := @List.all_cons
noncomputable abbrev Key := Sum Int Str
noncomputable def xB : Key -> Value -> Bool
 | .inl k, v => Value.isInt k v
 | .inr x, v => Value.isStrOf x v
noncomputable def aai (w : World) : Key -> Int
 | .inl k => hashInt k
 | .inr x => hashStr w x
theorem cQ : ∀ {k : Key} {v : Value}, xB k v = true -> (∃ i t, k = Sum.inl i /\ v = Value.int i t) \/ (∃ x t, k = Sum.inr x /\ v = Value.str x t)
 | .inl i, v, h => by
   obtain ⟨t, e⟩ := Value.isInt_shape (k := i) (v := v) h
   exact .inl ⟨i, t, rfl, e⟩
 | .inr x, v, h => by
   obtain ⟨t, e⟩ := Value.isStrOf_shape (x := x) (v := v) h
   exact .inr ⟨x, t, rfl, e⟩
theorem GD (i : Int) (t : Tok) : xB (.inl i) (.int i t) = true := by simp [xB, Value.isInt]
theorem GF (x : Str) (t : Tok) : xB (.inr x) (.str x t) = true := by simp [xB, Value.isStrOf]
theorem SX (a b : Int) : decide ((Sum.inl a : Key) = Sum.inl b) = (a == b) := by
 by_cases e : a = b
 . subst e; simp
 . have h : ¬ (Sum.inl a : Key) = Sum.inl b := fun q => e (Sum.inl.inj q)
   rw [afY h]
   exact (agv.mpr e).symm
theorem SY (a b : Str) : decide ((Sum.inr a : Key) = Sum.inr b) = decide (a = b) := by
 by_cases e : a = b
 . subst e; simp
 . have h : ¬ (Sum.inr a : Key) = Sum.inr b := fun q => e (Sum.inr.inj q)
   rw [afY h, afY e]
theorem S6 (a : Int) (b : Str) : decide ((Sum.inl a : Key) = Sum.inr b) = false := afY (fun q => nomatch q)
theorem S7 (a : Str) (b : Int) : decide ((Sum.inr a : Key) = Sum.inl b) = false := afY (fun q => nomatch q)
noncomputable def dW (prog : Program) (w : World) : PySem.KeyKind prog w Key where
 is := xB
 hash := aai w
 inj := fun v a b ha hb => by
   rcases cQ ha with ⟨i, t, rfl, rfl⟩ | ⟨x, t, rfl, rfl⟩
   . rcases cQ hb with ⟨j, u, rfl, e⟩ | ⟨y, u, rfl, e⟩
     . injection e with e1 _; rw [e1]
     . exact nomatch e
   . rcases cQ hb with ⟨j, u, rfl, e⟩ | ⟨y, u, rfl, e⟩
     . exact nomatch e
     . injection e with e1 _; rw [e1]
 byValue := fun k v h => by
   rcases cQ h with ⟨i, t, rfl, rfl⟩ | ⟨x, t, rfl, rfl⟩ <;> rfl
 pyHash := fun hv h => by
   rcases cQ hv with ⟨i, t, rfl, rfl⟩ | ⟨x, t, rfl, rfl⟩
   . exact wpAny_pyHash_int h
   . exact wpAny_pyHash_str h
 eqBool := fun hu hv h => by
   rcases cQ hu with ⟨i, t, rfl, rfl⟩ | ⟨x, t, rfl, rfl⟩
   . rcases cQ hv with ⟨j, u, rfl, rfl⟩ | ⟨y, u, rfl, rfl⟩
     . rw [SX] at h; exact wpAny_eqBool_int h
     . rw [S6] at h; exact SeqAt.EqAt.int_str i t y u _ _ _ _ h
   . rcases cQ hv with ⟨j, u, rfl, rfl⟩ | ⟨y, u, rfl, rfl⟩
     . rw [S7] at h; exact SeqAt.EqAt.str_int x t j u _ _ _ _ h
     . rw [SY] at h; exact wpAny_eqBool_str h
 «strs» := fun k x t v h => by
   rcases cQ h with ⟨i, u, rfl, e⟩ | ⟨y, u, rfl, e⟩
   . exact nomatch e
   . injection e with e1 _
     subst e1
     cases v <;> rfl
theorem Bg (prog : Program) (w : World) (i : Int) (t : Tok) : (dW prog w).is (.inl i) (.int i t) = true := GD i t
theorem Bh (prog : Program) (w : World) (x : Str) (t : Tok) : (dW prog w).is (.inr x) (.str x t) = true := GF x t
inductive V where
 | non | bl (b : Bool) | int (i : Int) | str (x : Str) | IK (b : Array UInt8) | Zw (b : UInt64) | ref (a : Addr) | ty (n : String)
 deriving DecidableEq
noncomputable def RelV : V -> Value -> Prop
 | .non, u => u = Value.none
 | .bl b, u => u = Value.bool b
 | .int i, u => ∃ t, u = Value.int i t
 | .str x, u => ∃ t, u = Value.str x t
 | .IK b, u => ∃ t, u = Value.bytes b t
 | .Zw b, u => ∃ t, u = Value.float b t
 | .ref a, u => u = Value.ref a
 | .ty n, u => u = Value.type n
noncomputable abbrev Vals : List V -> List Value -> Prop := Paired RelV
theorem Vals.length {xs : List V} {us : List Value} (r : Vals xs us) : xs.length = us.length := Paired.length r
theorem Vals.get : ∀ {xs : List V} {us : List Value} {i : Nat} {x : V}, Vals xs us -> xs[i]? = some x -> ∃ u, us[i]? = some u /\ RelV x u
 | _, _, _, _, .nil, e => by simp at e
 | _, _, 0, _, .cons r _, e => by simp at e; subst e; exact ⟨_, rfl, r⟩
 | _, _, i + 1, x, .cons _ t, e => by
   obtain ⟨u, h1, h2⟩ := Vals.get (i := i) (x := x) t (by simpa using e)
   exact ⟨u, by simpa using h1, h2⟩
theorem Vals.set {x : V} {u : Value} (r : RelV x u) : ∀ {xs : List V} {us : List Value} (i : Nat), Vals xs us -> Vals (xs.set i x) (us.set i u)
 | _, _, _, .nil => .nil
 | _, _, 0, .cons _ t => .cons r t
 | _, _, i + 1, .cons q t => .cons q (Vals.set r i t)
theorem Vals.append : ∀ {xs ys : List V} {us ws : List Value}, Vals xs us -> Vals ys ws -> Vals (xs ++ ys) (us ++ ws)
 | _, _, _, _, .nil, s => s
 | _, _, _, _, .cons r t, s => .cons r (Vals.append t s)
theorem Vals.take : ∀ {xs : List V} {us : List Value} (n : Nat), Vals xs us -> Vals (xs.take n) (us.take n)
 | _, _, 0, _ => .nil
 | _, _, _ + 1, .nil => .nil
 | _, _, n + 1, .cons r t => .cons r (Vals.take n t)
theorem Vals.drop : ∀ {xs : List V} {us : List Value} (n : Nat), Vals xs us -> Vals (xs.drop n) (us.drop n)
 | _, _, 0, r => r
 | _, _, _ + 1, .nil => .nil
 | _, _, n + 1, .cons _ t => Vals.drop n t
noncomputable def wk : Option V -> Option Value -> Prop
 | some v, some u => RelV v u
 | none, none => True
 | _, _ => False
noncomputable def KV {κ : Type} : List (κ × V) -> List (κ × Value) -> Prop := Paired fun (p : κ × V) (q : κ × Value) => p.1 = q.1 /\ RelV p.2 q.2
noncomputable def kV : Key -> V
 | .inl i => .int i
 | .inr x => .str x
inductive HO where
 | lst (xs : List V)
 | tup (xs : List V)
 | dK (kvs : List (Key × V)) | dT (kvs : List (List Key × V))
 | set (S : Int -> Bool) (n : Nat)
 | ins (C dx : Addr) (fs : List (Str × V))
 | own (x : Addr)
 | xd (fs : List (Str × V))
 | met (f x : Addr)
 | rng (lo hi : Int)
 | dH (o : Obj) (u : HO)
 | S8 (ps : Array Value)
 | tabs (q : Str)
 | GH (q : Str)
 | ext (φ : Heap -> Prop)
noncomputable abbrev Hp := Addr -> Option HO
noncomputable def upd (H : Hp) (a : Addr) (o : HO) : Hp := fun b => if b = a then some o else H b
theorem aN {H : Hp} {a : Addr} {o : HO} : upd H a o a = some o := by unfold upd; rw [afa rfl]
theorem az {H : Hp} {a b : Addr} {o : HO} (h : b ≠ a) : upd H a o b = H b := by unfold upd; rw [ae9 h]
theorem W8 {H : Hp} {a b : Addr} {o u : HO} (h : H a = some o) (h' : H b = some u) (d : o ≠ u) : a ≠ b := by
 intro e; subst e; rw [h] at h'; exact d (afv h')
theorem aE {H : Hp} {a b : Addr} {o : HO} (h : H a = some o) (h' : H b = none) : a ≠ b := by
 intro e; subst e; rw [h] at h'; cases h'
section
variable (P : Program) (w : World)
noncomputable def d9 (H : Hp) (h : Heap) (a : Addr) : HO -> Prop
 | .lst xs => xs.length <= sizeLine /\ ∃ (its : List Value) (n : Nat), Vals xs its /\ h.get? a = some { cls := .type "list", data := .seq its.toArray n }
 | .tup xs => xs.length <= sizeLine /\ ∃ its : List Value, Vals xs its /\ IsTup h a its.toArray
 | .dK kvs => kvs.length <= sizeLine /\ (a == sysModules) = false /\ ∃ vs, KV kvs vs /\ h.DictOf (dW P w) a vs
 | .dT kvs => kvs.length <= sizeLine /\ (a == sysModules) = false /\ ∃ xs : List (List Key × Addr × Value),
     Paired (fun (p : List Key × V) (q : List Key × Addr × Value) => p.1 = q.1 /\ H q.2.1 = some (.tup (p.1.map kV)) /\ RelV p.2 q.2.2) kvs xs ∧
     ∃ o es ep, h.get? a = some o /\ o.ExactDict /\ o.data = .dict es ep /\ es.toList = xs.map (entryOfKey (tupleKind (dW P w))) /\ (xs.map (·.1)).Nodup
 | .set S n => h.SetOf (intKind P w) a S n
 | .ins C dx fs => H dx = some (.own a) /\ fs.length <= 1000 /\ dx ≠ a /\ h.get? a = some (PySem.W.instObj C dx) ∧
     ∃ mA, h.Ns1 dx mA /\ (∀ f, wk (fs.lookup f) (mA f)) /\ PySem.Within mA (fs.map (·.1))
 | .own _ => ∃ o, h.get? a = some o
 | .xd fs => ∃ mA, h.Ns1 a mA /\ ∀ f, wk (fs.lookup f) (mA f)
 | .rng lo hi => ∃ t u v, h.get? a = some { cls := .type "range", data := .fields #[.int lo t, .int hi u, .int 1 v] }
 | .dH o u => h.get? a = some o /\ d9 H h a u
 | .S8 ps => h.get? a = some { cls := .none, data := .fields ps }
 | .tabs q => ∃ ps : Array Value, h.get? a = some { cls := .none, data := .fields ps } /\ TriplesOk ps.toList /\ ∀ pos cv, codeAmong pos ps.toList = some cv -> ∃ c, cv = .ref c /\ H c = some (.GH q)
 | .GH q => ∃ o vs t, h.get? a = some o /\ o.data = .fields vs /\ vs[1]? = some (.str q t)
 | .met f x => h.get? a = some (PySem.W.methodObj (.ref f) (.ref x))
 | .ext φ => φ h /\ (∃ o, h.get? a = some o) /\ ∀ h1 h2 : Heap, φ h1 -> (∀ o, h1.get? a = some o -> h2.get? a = some o) -> φ h2
noncomputable def oA (H : Hp) (h : Heap) : Prop := ∀ a o, H a = some o -> d9 P w H h a o
end
section
variable {P : Program} {w : World} {H H' : Hp} {h h' : Heap} {a : Addr} {o : HO}
theorem d9.lt (x : d9 P w H h a o) : a < h.objs.size := by
 cases o with
 | lst xs => obtain ⟨_, _, _, _, e⟩ := x; exact afu e
 | tup xs => obtain ⟨_, _, _, p⟩ := x; exact p.lt
 | dK kvs => obtain ⟨_, _, _, _, o, _, _, e, _⟩ := x; exact afu e
 | dT kvs => obtain ⟨_, _, _, _, o, _, _, e, _⟩ := x; exact afu e
 | set S n => obtain ⟨o, _, _, _, e, _⟩ := x; exact afu e
 | ins C dx fs => obtain ⟨_, _, _, e, _⟩ := x; exact afu e
 | own y => obtain ⟨_, e⟩ := x; exact afu e
 | xd fs => obtain ⟨_, ⟨_, _, _, e, _⟩, _⟩ := x; exact afu e
 | rng lo hi => obtain ⟨_, _, _, e⟩ := x; exact afu e
 | dH ob u => obtain ⟨e, _⟩ := x; exact afu e
 | S8 ps => exact afu (show h.get? a = some _ from x)
 | tabs q => obtain ⟨_, e, _⟩ := x; exact afu e
 | GH q => obtain ⟨_, _, _, e, _⟩ := x; exact afu e
 | met f y => exact afu (show h.get? a = some _ from x)
 | ext φ => obtain ⟨_, ⟨_, e⟩, _⟩ := x; exact afu e
theorem Paired.S9 {α β : Type} {F G : α -> β -> Prop} : ∀ {l₁ : List α} {l₂ : List β}, Paired F l₁ l₂ -> (∀ a b, F a b -> G a b) -> Paired G l₁ l₂
 | _, _, .nil, _ => .nil
 | _, _, .cons r t, f => .cons (f _ _ r) (Paired.S9 t f)
theorem d9.ye (x : d9 P w H h a o) (k : ∀ b u, (b = a \/ H b = some (.own a)) -> h.get? b = some u -> h'.get? b = some u)
   (ho : ∀ b, H b = some (.own a) -> H' b = some (.own a)) (ht : ∀ b xs, H b = some (.tup xs) -> H' b = some (.tup xs)) (iD : ∀ b q, H b = some (.GH q) -> H' b = some (.GH q) := by intro _ _ q; exact q) : d9 P w H' h' a o := by
 induction o with
 | lst xs => obtain ⟨z, its, n, r, e⟩ := x; exact ⟨z, its, n, r, k _ _ (.inl rfl) e⟩
 | tup xs => obtain ⟨z, its, r, ob, e, c⟩ := x; exact ⟨z, its, r, ob, k _ _ (.inl rfl) e, c⟩
 | dK kvs => obtain ⟨z, y, vs, r, ob, es, ep, e, c⟩ := x; exact ⟨z, y, vs, r, ob, es, ep, k _ _ (.inl rfl) e, c⟩
 | dT kvs =>
   obtain ⟨z, y, xs, r, ob, es, ep, e, c⟩ := x
   exact ⟨z, y, xs, Paired.S9 r fun p q z => ⟨z.1, ht _ _ z.2.1, z.2.2⟩, ob, es, ep, k _ _ (.inl rfl) e, c⟩
 | set S n => obtain ⟨ob, es, ep, t, e, c⟩ := x; exact ⟨ob, es, ep, t, k _ _ (.inl rfl) e, c⟩
 | ins C dx fs =>
   obtain ⟨d, z, ne, e, mA, ⟨od, es, ep, e2, c⟩, r⟩ := x
   exact ⟨ho _ d, z, ne, k _ _ (.inl rfl) e, mA, ⟨od, es, ep, k _ _ (.inr d) e2, c⟩, r⟩
 | own y => obtain ⟨ob, e⟩ := x; exact ⟨ob, k _ _ (.inl rfl) e⟩
 | xd fs => obtain ⟨mA, ⟨od, es, ep, e, c⟩, r⟩ := x; exact ⟨mA, ⟨od, es, ep, k _ _ (.inl rfl) e, c⟩, r⟩
 | rng lo hi => obtain ⟨t, u, v, e⟩ := x; exact ⟨t, u, v, k _ _ (.inl rfl) e⟩
 | dH ob u ih => obtain ⟨e, q⟩ := x; exact ⟨k _ _ (.inl rfl) e, ih q⟩
 | S8 ps =>
   have e : h.get? a = some { cls := .none, data := .fields ps } := x
   show h'.get? a = some { cls := .none, data := .fields ps }
   exact k a _ (.inl rfl) e
 | met f y =>
   have e : h.get? a = some (PySem.W.methodObj (.ref f) (.ref y)) := x
   show h'.get? a = some (PySem.W.methodObj (.ref f) (.ref y))
   exact k a _ (.inl rfl) e
 | tabs q => obtain ⟨ps, e, tr, cs⟩ := x; exact ⟨ps, k _ _ (.inl rfl) e, tr, fun pos cv z => let ⟨c, e1, e2⟩ := cs pos cv z; ⟨c, e1, iD _ _ e2⟩⟩
 | GH q => obtain ⟨ob, vs, t, e, r⟩ := x; exact ⟨ob, vs, t, k _ _ (.inl rfl) e, r⟩
 | ext φ => obtain ⟨p, ⟨o, e⟩, st⟩ := x; exact ⟨st _ _ p fun o q => k _ _ (.inl rfl) q, ⟨o, k _ _ (.inl rfl) e⟩, st⟩
theorem oA.lt (x : oA P w H h) (e : H a = some o) : a < h.objs.size := (x a o e).lt
theorem oA.fresh (x : oA P w H h) (e : h.objs.size <= a) : H a = none := by
 cases q : H a with
 | none => rfl
 | some u => exact absurd (afN (x.lt q) e) (agV _)
theorem oA.kept (x : oA P w H h) (k : ∀ b u, h.get? b = some u -> h'.get? b = some u) : oA P w H h' := fun a o e =>
 (x a o e).ye (fun b u _ q => k b u q) (fun _ q => q) fun _ _ q => q
theorem oA.laid (x : oA P w H h) (k : ∀ b u, h.get? b = some u -> h'.get? b = some u) (hp : h.objs.size <= a) (new : d9 P w (upd H a o) h' a o) : oA P w (upd H a o) h' := fun b u e => by
 have hn := x.fresh hp
 by_cases hb : b = a
 . subst hb; rw [aN] at e; cases e; exact new
 . rw [az hb] at e
   exact (x b u e).ye (fun c v _ q => k c v q) (fun c q => by rw [az (aE q hn)]; exact q) (fun c xs q => by rw [az (aE q hn)]; exact q) fun c z q => by rw [az (aE q hn)]; exact q
end
noncomputable def Rd (H : Hp) (a : Addr) (u : HO) : Prop := H a = some u \/ ∃ o, H a = some (.dH o u)
theorem Rd.ok {P : Program} {w : World} {H : Hp} {h : Heap} {a : Addr} {u : HO} (r : Rd H a u) (x : oA P w H h) : d9 P w H h a u := by
 rcases r with r | ⟨o, r⟩
 . exact x a u r
 . obtain ⟨_, q⟩ := x a _ r
   exact q
noncomputable def W9 : Option HO -> Prop
 | some (.lst _) => True
 | some (.dK _) => True
 | some (.dT _) => True
 | some (.set _ _) => True
 | some (.ins _ _ _) => True
 | some (.ext _) => True
 | some (.tabs _) => True
 | _ => False
section
variable {P : Program} {w : World} {H : Hp} {h h' : Heap} {x e : Addr} {o' : HO}
theorem oA.write (ok : oA P w H h) (mu : W9 (H x)) (he : e = x \/ H e = some (.own x)) (k : ∀ b u, b ≠ e -> h.get? b = some u -> h'.get? b = some u) (WO : ∃ u, h'.get? e = some u)
   (new : d9 P w (upd H x o') h' x o') : oA P w (upd H x o') h' := fun b u q => by
 have Xa : ∀ c y, H c = some (.own y) -> c ≠ x := fun c y r z => by subst z; rw [r] at mu; exact mu
 have aak : ∀ c xs, H c = some (.tup xs) -> c ≠ x := fun c xs r z => by subst z; rw [r] at mu; exact mu
 have aal : ∀ c q, H c = some (.GH q) -> c ≠ x := fun c q r z => by subst z; rw [r] at mu; exact mu
 by_cases hb : b = x
 . subst hb; rw [aN] at q; cases q; exact new
 . rw [az hb] at q
   by_cases Tc : b = e
   . have q' : H b = some (.own x) := by
       rcases he with z | z
       . exact absurd (Tc.trans z) hb
       . rw [Tc]; exact z
     rw [q] at q'; cases q'
     obtain ⟨v, hv⟩ := WO
     exact ⟨v, by rw [Tc]; exact hv⟩
   . refine (ok b u q).ye (fun c v hc r => k c v ?_ r) (fun c r => by rw [az (Xa c b r)]; exact r) (fun c xs r => by rw [az (aak c xs r)]; exact r) fun c z r => by rw [az (aal c z r)]; exact r
     rcases hc with rfl | hc
     . exact Tc
     . rintro rfl
       rcases he with z | z
       . exact Xa c b hc z
       . rw [hc] at z; cases z; exact hb rfl
end
structure Un (fs ex : List Addr) (H H' : Hp) (h h' : Heap) : Prop where
 keep : ∀ b o, h.get? b = some o -> H b = none -> b ∉ fs -> b ∉ ex -> h'.get? b = some o
 slot : ∀ b o, h.get? b = some o -> H b = none -> b ∈ fs -> b ∉ ex -> ∃ sl, h'.get? b = some { o with slots := sl }
 free : ∀ b o, h.get? b = some o -> H b = none -> b ∉ ex -> H' b = none
 there : ∀ b o, h.get? b = some o -> b ∉ ex -> ∃ o', h'.get? b = some o'
 yf : ∀ b xs, H b = some (.tup xs) -> H' b = some (.tup xs)
 fG : ∀ b o u, H b = some (.dH o u) -> H' b = some (.dH o u)
 yg : ∀ b ps, H b = some (.S8 ps) -> ∃ more, H' b = some (.S8 (ps ++ more))
section
variable {fs fs' ex ex' : List Addr} {H H1 H2 : Hp} {h h1 h2 h' : Heap} {a x e : Addr} {o : HO}
theorem Un.any (u : Un fs ex H H1 h h1) {b : Addr} {ob : Obj} (q : h.get? b = some ob) (n : H b = none) (hx : b ∉ ex) : ∃ sl, h1.get? b = some { ob with slots := sl } := by
 by_cases hb : b ∈ fs
 . exact u.slot b ob q n hb hx
 . exact ⟨ob.slots, u.keep b ob q n hb hx⟩
theorem Un.kept (k : ∀ b u, h.get? b = some u -> h'.get? b = some u) : Un fs ex H H h h' :=
 ⟨fun b ob q _ _ _ => k b ob q, fun b ob q _ _ _ => ⟨ob.slots, k b ob q⟩, fun _ _ _ n _ => n, fun b ob q _ => ⟨ob, k b ob q⟩, fun _ _ q => q, fun _ _ _ q => q, fun _ ps q => ⟨#[], by rw [q]; simp⟩⟩
theorem Un.refl : Un fs ex H H h h := Un.kept fun _ _ q => q
theorem Un.laid (k : ∀ b u, h.get? b = some u -> h'.get? b = some u) (hp : h.objs.size <= a) (hn : H a = none) : Un fs ex H (upd H a o) h h' where
 keep := fun b u q _ _ _ => k b u q
 slot := fun b u q _ _ _ => ⟨u.slots, k b u q⟩
 free := fun b u q n _ => by rw [az (afO (afN (afu q) hp))]; exact n
 there := fun b u q _ => ⟨u, k b u q⟩
 yf := fun b xs q => by rw [az (aE q hn)]; exact q
 fG := fun b u xs q => by rw [az (aE q hn)]; exact q
 yg := fun b ps q => ⟨#[], by rw [az (aE q hn), q]; simp⟩
theorem Un.write (mu : W9 (H x)) (he : e = x \/ H e = some (.own x)) (k : ∀ b u, b ≠ e -> h.get? b = some u -> h'.get? b = some u) (WO : ∃ u, h'.get? e = some u) : Un fs ex H (upd H x o) h h' := by
 have hx : ∀ b, H b = none -> b ≠ x := fun b n z => by subst z; rw [n] at mu; exact mu
 have hb : ∀ b, H b = none -> b ≠ e := fun b n z => by
   subst z
   rcases he with r | r
   . exact hx b n r
   . rw [n] at r; cases r
 have hm : ∀ b u, H b = some u -> ¬ W9 (some u) -> b ≠ x := fun b u q nm z => by subst z; rw [q] at mu; exact nm mu
 refine ⟨fun b u q n _ _ => k b u (hb b n) q, fun b u q n _ _ => ⟨u.slots, k b u (hb b n) q⟩, fun b u q n _ => by rw [az (hx b n)]; exact n, fun b u q _ => ?_,
   fun b xs q => by rw [az (hm b _ q fun z => z)]; exact q, fun b u xs q => by rw [az (hm b _ q fun z => z)]; exact q, fun b ps q => ⟨#[], by rw [az (hm b _ q fun z => z), q]; simp⟩⟩
 by_cases Tc : b = e
 . subst Tc; exact WO
 . exact ⟨u, k b u Tc q⟩
end
noncomputable def Zx (h : Heap) (H : Hp) : List Addr := (List.range h.objs.size).filter fun a => (H a).isSome
noncomputable def wm (h : Heap) (H : Hp) : Heap := PySem.W.hideAll h (Zx h H)
theorem GJ (h : Heap) (H : Hp) : (wm h H).objs.size = h.objs.size := PySem.W.hideAll_size _ _
theorem IX {h : Heap} {H : Hp} {b : Addr} {o : Obj} (e : h.get? b = some o) (n : H b = none) : (wm h H).get? b = some o :=
 PySem.W.hideAll_get _ e fun hm => by
   have q : (H b).isSome = true := (af4.mp hm).2
   rw [n] at q; simp at q
theorem MG {h : Heap} {H : Hp} {b : Addr} {o : Obj} (e : (wm h H).get? b = some o) : h.get? b = some o /\ H b = none := by
 have e' : h.get? b = some o := PySem.W.of_hideAll (Zx h H) e
 refine ⟨e', ?_⟩
 cases q : H b with
 | none => rfl
 | some x =>
   have hm : b ∈ Zx h H := af4.mpr ⟨af5.mpr (afu e'), by simp [q]⟩
   have z : (wm h H).get? b = none := PySem.W.hideAll_none (Zx h H) hm
   rw [z] at e; cases e
noncomputable def MH (g h : Heap) (L : Addr) : List (Addr × Obj) := (List.range h.objs.size).filterMap fun a => if a = L \/ (g.get? a).isSome = true then none else (h.get? a).map fun o => (a, o)
noncomputable def rest (g h : Heap) (L d : Addr) : List (Addr × Obj) := (MH g h L).filter fun p => decide (p.1 ≠ d)
structure Mod (K : PySem.W.Frag) (mg : Str -> Option Value) (base : Heap) : Prop where
 Zy : K.In base
 glob : base.Ns mainGlobals mg
 blt : ∃ mb, base.Ns builtinsNs mb /\ ∀ x : Str, x ≠ "__name__" -> mb x = bootBuiltins x
 nolimit : base.NoLimit
structure Cx where
 prog : Program
 w : World
 K : PySem.W.Frag
 mg : Str -> Option Value
 base : Heap
 A : Around
 N : List Str
 s₀ : Shared
 H₀ : Hp
 env : Env
 outer : List Env
 stack : List Env
 ex : List Addr
 fn : Str -> Bool
 calm : Bool
 pn : List (Addr × Obj)
 xe : Value -> Shared -> Prop
noncomputable def IL (l : List Env) : List Addr := l.filterMap (·.frame)
noncomputable abbrev Cx.fs (X : Cx) : List Addr := IL X.outer
noncomputable def Td (sc : Scope) (x : Str) : Prop := sc.names.lookup x = some .local \/ sc.names.lookup x = some .cell \/ sc.names.lookup x = some .free
noncomputable def Loc (sc : Scope) (x : Str) : Prop := sc.names.lookup x = some .local \/ sc.names.lookup x = some .cell
noncomputable def Look (env : Env) (h : Heap) (m : Str -> Option Value) (x : Str) (u : Value) : Prop :=
 (env.kindOf x = some .local /\ m x = some u) \/ ((env.kindOf x = some .cell \/ env.kindOf x = some .free) /\ ∃ c, env.cells.lookup x = some c /\ h.IsCell c (some u))
structure Cx.Ok (X : Cx) : Prop where
 mod : Mod X.K X.mg X.base
 kind : X.env.scope.kind = .function
 glob : X.env.globals = mainGlobals
 blt : X.env.builtins = builtinsNs
 above : X.s₀.heap.objs.size <= X.env.locals
 inj : ∀ x y c, X.env.cells.lookup x = some c -> X.env.cells.lookup y = some c -> x = y
 has : ∀ x, (X.env.kindOf x = some .cell \/ X.env.kindOf x = some .free) -> ∃ c, X.env.cells.lookup x = some c
 Xb : ∀ x c, X.fn x = true -> X.env.cells.lookup x = some c -> X.s₀.heap.objs.size <= c
 hd : X.calm = true -> X.A.handled = none
 frames : X.A.frames = some X.stack
 Zz : X.stack = X.outer \/ (X.stack = X.env :: X.outer /\ X.env.frame = some X.env.locals)
 exf : ∀ b ∈ X.ex, b ≠ X.env.locals /\ ∀ x c, X.env.cells.lookup x = some c -> c ≠ b
 bs : ∀ b o, X.base.get? b = some o -> X.s₀.heap.get? b = some o /\ X.H₀ b = none
 My : X.base.objs.size <= X.s₀.heap.objs.size
 IY : ∀ b o, X.base.get? b = some o -> b ∉ X.ex
 MJ : ∀ b ∈ X.ex, b ∉ X.fs
 sW : X.s₀.heap.FunFrames X.base X.outer
 Te : ∀ b ∈ X.fs, X.H₀ b = none
structure Inv (X : Cx) (pins : List (Addr × Obj)) (σ : List (Option V)) (H : Hp) (s : Shared) : Prop where
 ok : X.Ok
 os : s.os = X.s₀.os
 bare : AllBare s.gens
 base : Un X.fs X.ex X.H₀ H X.s₀.heap s.heap
 loc : ∃ m, s.heap.Ns X.env.locals m /\ ∀ (i : Nat) (x : Str) (v : V), X.N[i]? = some x -> σ[i]? = some (some v) -> Td X.env.scope x -> ∃ u, RelV v u /\ Look X.env s.heap m x u
 cell : ∀ x c, X.env.cells.lookup x = some c -> ∃ v, s.heap.IsCell c v
 free : H X.env.locals = none
 ly : ∀ x c, X.env.cells.lookup x = some c -> H c = none
 pin : ∀ p ∈ X.pn ++ pins, s.heap.get? p.1 = some p.2 /\ H p.1 = none /\ p.1 ≠ X.env.locals /\ p.1 ∉ X.fs /\ ∀ v, p.2.data ≠ .cell v
 dw : oA X.prog X.w H s.heap
 len : σ.length = X.N.length
section
variable {X : Cx} {pins : List (Addr × Obj)} {σ : List (Option V)} {H H' : Hp} {s : Shared} {h' : Heap}
theorem Cx.Ok.aam (ok : X.Ok) {b : Addr} {o : Obj} (e : X.base.get? b = some o) : b ∉ X.fs := fun hb => by
 have := (ok.sW.mem hb).1
 rw [e] at this; cases this
theorem Inv.bs (I : Inv X pins σ H s) : ∀ b o, X.base.get? b = some o -> s.heap.get? b = some o /\ H b = none := fun b o e =>
 ⟨I.base.keep b o (I.ok.bs b o e).1 (I.ok.bs b o e).2 (I.ok.aam e) (I.ok.IY b o e), I.base.free b o (I.ok.bs b o e).1 (I.ok.bs b o e).2 (I.ok.IY b o e)⟩
theorem Inv.bk (I : Inv X pins σ H s) : ∀ b o, X.base.get? b = some o -> s.heap.get? b = some o := fun b o e => (I.bs b o e).1
theorem Inv.mod (I : Inv X pins σ H s) : Mod X.K X.mg X.base := I.ok.mod
theorem Inv.Bd (I : Inv X pins σ H s) : X.K.In s.heap := I.ok.mod.Zy.keeps I.bk
theorem Inv.nolimit (I : Inv X pins σ H s) : s.heap.NoLimit := I.ok.mod.nolimit.keeps I.bk
theorem Inv.lt (I : Inv X pins σ H s) : X.env.locals < s.heap.objs.size := let ⟨_, hn, _⟩ := I.loc; hn.lt
theorem Inv.sz (I : Inv X pins σ H s) : X.s₀.heap.objs.size <= s.heap.objs.size := afU I.ok.above (af9 I.lt)
theorem Inv.aan (I : Inv X pins σ H s) {a : Addr} (h : s.heap.objs.size <= a) : a ∉ X.fs := fun hb => by
 obtain ⟨_, o, ho, _⟩ := I.ok.sW.mem hb
 exact absurd (afN (afu ho) (afU I.sz h)) (agV _)
theorem Inv.Tf (I : Inv X pins σ H s) : ∀ x c, X.env.cells.lookup x = some c -> c ≠ X.env.locals := fun x c e z => by
 obtain ⟨v, o, ho, hd⟩ := I.cell x c e
 obtain ⟨m, ⟨o', es, ep, MK, ML, _⟩, _⟩ := I.loc
 rw [z, MK] at ho; cases ho; rw [ML] at hd; cases hd
theorem Inv.sW (I : Inv X pins σ H s) : s.heap.FunFrames X.base X.outer := by
 have all : ∀ (l : List Env), (∀ b ∈ IL l, b ∈ X.fs) -> X.s₀.heap.FunFrames X.base l -> s.heap.FunFrames X.base l := by
   intro l
   induction l with
   | nil => intro _ _; trivial
   | cons env r ih =>
     intro hs hl
     obtain ⟨hk, ⟨L, o, hf, hn, ho, hd⟩, hr⟩ := hl
     have hL : L ∈ X.fs := hs L (by unfold IL; rw [agb, hf]; exact afb)
     obtain ⟨sl, e⟩ := I.base.slot L o ho (I.ok.Te L hL) hL fun z => I.ok.MJ L z hL
     exact ⟨hk, ⟨L, _, hf, hn, e, hd⟩, ih (fun b hb => hs b (by unfold IL; rw [agb, hf]; exact afd _ hb)) hr⟩
 exact all X.outer (fun _ hb => hb) I.ok.sW
theorem Inv.stack (I : Inv X pins σ H s) : s.heap.FunFrames X.base X.stack := by
 rcases I.ok.Zz with e | ⟨e, hf⟩
 . rw [e]; exact I.sW
 . rw [e]
   obtain ⟨m, hn, _⟩ := I.loc
   refine .cons (by rw [I.ok.kind]; decide) hf hn ?_ I.sW
   exact Heap.get?_none_of_le (afU I.ok.My I.ok.above)
theorem Inv.yh (I : Inv X pins σ H s) : ∀ b ∈ IL X.stack, b ∈ X.env.locals :: X.fs := fun b hb => by
 rcases I.ok.Zz with e | ⟨e, hf⟩
 . rw [e] at hb; exact afd _ hb
 . rw [e] at hb
   unfold IL at hb
   rw [agb, hf] at hb
   exact hb
theorem Inv.yi (I : Inv X pins σ H s) : ∀ b ∈ IL X.stack, H b = none := fun b hb => by
 rcases afe.mp (I.yh b hb) with e | hb
 . rw [e]; exact I.free
 . obtain ⟨_, o, ho, _⟩ := I.ok.sW.mem hb
   exact I.base.free b o ho (I.ok.Te b hb) fun z => I.ok.MJ b z hb
theorem Inv.step {g' : Array GenState} {t' : Nat} {d' : Drawn} {ch : List Addr} (I : Inv X pins σ H s)
   (RZ : ∀ b ∈ ch, (b ∈ X.ex \/ X.s₀.heap.objs.size <= b) /\ b ≠ X.env.locals /\ (∀ x c, X.env.cells.lookup x = some c -> c ≠ b) /\ ∀ p ∈ X.pn ++ pins, p.1 ≠ b)
   (keep : ∀ b o, b ≠ X.env.locals -> b ∉ X.fs -> b ∉ ch -> s.heap.get? b = some o -> H b = none -> h'.get? b = some o)
   (slot : ∀ b o, b ≠ X.env.locals -> b ∈ X.fs -> b ∉ ch -> s.heap.get? b = some o -> H b = none -> ∃ sl, h'.get? b = some { o with slots := sl }) (free : ∀ b o, b ∉ ch -> s.heap.get? b = some o -> H b = none -> H' b = none)
   (there : ∀ b o, b ∉ ch -> s.heap.get? b = some o -> ∃ o', h'.get? b = some o')
   (yf : ∀ b xs, H b = some (.tup xs) -> H' b = some (.tup xs)) (fG : ∀ b o u, H b = some (.dH o u) -> H' b = some (.dH o u)) (yg : ∀ b ps, H b = some (.S8 ps) -> ∃ more, H' b = some (.S8 (ps ++ more)))
   (ns : ∀ m, s.heap.Ns X.env.locals m -> h'.Ns X.env.locals m) (dw : oA X.prog X.w H' h') (hg : AllBare g') :
   Inv X pins σ H' { s with heap := h', gens := g', drawn := d', toks := t' } := by
 have neL : ∀ b o, X.s₀.heap.get? b = some o -> b ≠ X.env.locals := fun b o e => afO (afN (afu e) I.ok.above)
 have ZC : ∀ b o, X.s₀.heap.get? b = some o -> b ∉ X.ex -> b ∉ ch := fun b o e hx hb => by
   rcases (RZ b hb).1 with z | z
   . exact hx z
   . exact absurd (afN (afu e) z) (agV _)
 have cellK : ∀ x c, X.env.cells.lookup x = some c -> ∀ v, s.heap.IsCell c v -> h'.IsCell c v := fun x c e v ⟨o, ho, hd⟩ => by
   have Xc : c ∉ ch := fun z => (RZ c z).2.2.1 x c e rfl
   by_cases hc : c ∈ X.fs
   . obtain ⟨sl, q⟩ := slot c o (I.Tf x c e) hc Xc ho (I.ly x c e)
     exact ⟨_, q, hd⟩
   . exact ⟨o, keep c o (I.Tf x c e) hc Xc ho (I.ly x c e), hd⟩
 refine ⟨I.ok, I.os, hg, ⟨fun b o e n hb hx => ?_, fun b o e n hb hx => ?_, fun b o e n hx => ?_, fun b o e hx => ?_, fun b xs e => yf b xs (I.base.yf b xs e), fun b o xs e => fG b o xs (I.base.fG b o xs e), fun b ps e => ?_⟩, ?_, fun x c e => ?_, ?_, fun x c e => ?_, fun p hp => ?_, dw, I.len⟩
 . exact keep b o (neL b o e) hb (ZC b o e hx) (I.base.keep b o e n hb hx) (I.base.free b o e n hx)
 . obtain ⟨sl, e1⟩ := I.base.slot b o e n hb hx
   obtain ⟨sl', e2⟩ := slot b _ (neL b o e) hb (ZC b o e hx) e1 (I.base.free b o e n hx)
   exact ⟨sl', e2⟩
 . obtain ⟨o', e1⟩ := I.base.there b o e hx
   exact free b o' (ZC b o e hx) e1 (I.base.free b o e n hx)
 . obtain ⟨o', e1⟩ := I.base.there b o e hx
   exact there b o' (ZC b o e hx) e1
 . obtain ⟨m1, e1⟩ := I.base.yg b ps e
   obtain ⟨m2, e2⟩ := yg b _ e1
   exact ⟨m1 ++ m2, by rw [e2, Array.append_assoc]⟩
 . obtain ⟨m, hn, hl⟩ := I.loc
   refine ⟨m, ns m hn, fun i x v e1 e2 e3 => ?_⟩
   obtain ⟨u, r, l⟩ := hl i x v e1 e2 e3
   refine ⟨u, r, ?_⟩
   rcases l with l | ⟨k, c, e, z⟩
   . exact .inl l
   . exact .inr ⟨k, c, e, cellK x c e _ z⟩
 . obtain ⟨v, z⟩ := I.cell x c e
   exact ⟨v, cellK x c e v z⟩
 . obtain ⟨m, ⟨o, _, _, ho, _⟩, _⟩ := I.loc
   exact free _ o (fun z => (RZ _ z).2.1 rfl) ho I.free
 . obtain ⟨v, o, ho, hd⟩ := I.cell x c e
   exact free c o (fun z => (RZ c z).2.2.1 x c e rfl) ho (I.ly x c e)
 . obtain ⟨e, n, ne, nf, d⟩ := I.pin p hp
   have Xc : p.1 ∉ ch := fun z => (RZ p.1 z).2.2.2 p hp rfl
   exact ⟨keep p.1 p.2 ne nf Xc e n, free p.1 p.2 Xc e n, ne, nf, d⟩
theorem Inv.un {t' : Nat} (I : Inv X pins σ H s) (u : Un X.fs [] H H' s.heap h') (dw : oA X.prog X.w H' h') : Inv X pins σ H' { s with heap := h', toks := t' } := by
 obtain ⟨m, ⟨o, es, ep, ho, r⟩, _⟩ := id I.loc
 obtain ⟨sl, hL⟩ := u.any ho I.free (by simp)
 exact I.step (g' := s.gens) (d' := s.drawn) (ch := []) (fun _ z => nomatch z) (fun b o _ hb _ e n => u.keep b o e n hb (by simp)) (fun b o _ hb _ e n => u.slot b o e n hb (by simp)) (fun b o _ e n => u.free b o e n (by simp)) (fun b o _ e => u.there b o e (by simp)) u.yf u.fG u.yg (fun m' hm => by
   obtain ⟨o', es', ep', MK, r'⟩ := hm
   rw [ho] at MK; cases MK
   exact ⟨_, es', ep', hL, r'⟩) dw I.bare
theorem Inv.call {g' : Array GenState} {t' : Nat} {d' : Drawn} {ch : List Addr} (I : Inv X pins σ H s) (u : Un (IL X.stack) ch H H' s.heap h') (dw : oA X.prog X.w H' h') (hg : AllBare g')
   (RZ : ∀ b ∈ ch, (b ∈ X.ex \/ X.s₀.heap.objs.size <= b) /\ b ≠ X.env.locals /\ (∀ x c, X.env.cells.lookup x = some c -> c ≠ b) /\ ∀ p ∈ X.pn ++ pins, p.1 ≠ b) :
   Inv X pins σ H' { s with heap := h', gens := g', drawn := d', toks := t' } := by
 obtain ⟨m, ⟨o, es, ep, ho, r⟩, _⟩ := id I.loc
 obtain ⟨sl, hL⟩ := u.any ho I.free fun z => (RZ _ z).2.1 rfl
 exact I.step (ch := ch) RZ (fun b o hL hb hc e n => u.keep b o e n (fun z => (afe.mp (I.yh b z)).elim hL hb) hc) (fun b o _ _ hc e n => u.any e n hc) (fun b o hc e n => u.free b o e n hc) (fun b o hc e => u.there b o e hc) u.yf u.fG u.yg (fun m' hm => by
   obtain ⟨o', es', ep', MK, r'⟩ := hm
   rw [ho] at MK; cases MK
   exact ⟨_, es', ep', hL, r'⟩) dw hg
theorem Inv.turned {t' : Nat} {it : Addr} (I : Inv X pins σ H s) (k : ∀ b o, b ≠ it -> s.heap.get? b = some o -> h'.get? b = some o) (hn : H it = none) (hL : it ≠ X.env.locals)
   (h1 : it ∈ X.ex \/ X.s₀.heap.objs.size <= it) (h2 : ∀ x c, X.env.cells.lookup x = some c -> c ≠ it) (h3 : ∀ p ∈ X.pn ++ pins, p.1 ≠ it) : Inv X pins σ H { s with heap := h', toks := t' } := by
 have nit : ∀ b u, H b = some u -> b ≠ it := fun b u e z => by rw [z, hn] at e; cases e
 refine I.step (g' := s.gens) (d' := s.drawn) (ch := [it]) (fun b hb => ?_) (fun b o _ _ hc e _ => k b o (fun z => hc (by simp [z])) e) (fun b o _ _ hc e _ => ⟨o.slots, k b o (fun z => hc (by simp [z])) e⟩) (fun _ _ _ _ n => n)
   (fun b o hc e => ⟨o, k b o (fun z => hc (by simp [z])) e⟩) (fun _ _ e => e) (fun _ _ _ e => e) (fun b ps e => ⟨#[], by rw [e]; simp⟩) (fun m hm => ?_) (fun b u e => ?_) I.bare
 . have e : b = it := by simpa using hb
   subst e
   exact ⟨h1, hL, h2, h3⟩
 . obtain ⟨o, es, ep, ho, r⟩ := hm
   exact ⟨o, es, ep, k _ o (Ne.symm hL) ho, r⟩
 . refine (I.dw b u e).ye (fun c v hc q => k c v ?_ q) (fun _ q => q) fun _ _ q => q
   rcases hc with z | z
   . rw [z]; exact nit b u e
   . exact nit c _ z
theorem Inv.tok (I : Inv X pins σ H s) (t : Nat) : Inv X pins σ H { s with toks := t } := I.un (h' := s.heap) (t' := t) Un.refl I.dw
theorem Inv.kept {t' : Nat} (I : Inv X pins σ H s) (k : ∀ b u, s.heap.get? b = some u -> h'.get? b = some u) : Inv X pins σ H { s with heap := h', toks := t' } := I.un (Un.kept k) (I.dw.kept k)
theorem Inv.laid {a : Addr} {o : HO} {t' : Nat} (I : Inv X pins σ H s) (k : ∀ b u, s.heap.get? b = some u -> h'.get? b = some u) (hp : s.heap.objs.size <= a) (new : d9 X.prog X.w (upd H a o) h' a o) :
   Inv X pins σ (upd H a o) { s with heap := h', toks := t' } := I.un (Un.laid k hp (I.dw.fresh hp)) (I.dw.laid k hp new)
theorem Inv.write {x e : Addr} {o : HO} {t' : Nat} (I : Inv X pins σ H s) (mu : W9 (H x)) (he : e = x \/ H e = some (.own x)) (k : ∀ b u, b ≠ e -> s.heap.get? b = some u -> h'.get? b = some u) (WO : ∃ u, h'.get? e = some u)
   (new : d9 X.prog X.w (upd H x o) h' x o) : Inv X pins σ (upd H x o) { s with heap := h', toks := t' } := I.un (Un.write mu he k WO) (I.dw.write mu he k WO new)
theorem Inv.tH {iE : List (Addr × Obj)} (I : Inv X pins σ H s) (h : ∀ p ∈ iE, s.heap.get? p.1 = some p.2 /\ H p.1 = none /\ p.1 ≠ X.env.locals /\ p.1 ∉ X.fs /\ ∀ v, p.2.data ≠ .cell v) : Inv X iE σ H s :=
 ⟨I.ok, I.os, I.bare, I.base, I.loc, I.cell, I.free, I.ly, fun p hp => (afm.mp hp).elim (fun z => I.pin p (afl _ z)) (h p), I.dw, I.len⟩
theorem Bj {N : List Str} (hN : N.Nodup) {i j : Nat} {x : Str} (a : N[i]? = some x) (b : N[j]? = some x) : i = j := by
 obtain ⟨h1, e1⟩ := afA.mp a
 obtain ⟨h2, e2⟩ := afA.mp b
 exact (List.getElem_inj hN).mp (e1.trans e2.symm)
theorem GK {M : Model} {A : Around} {E : Value -> Shared -> Prop} {i : Nat} {x : Str} {v : V} {u : Value} {Q : Unit -> Shared -> Prop} (I : Inv X pins σ H s) (hN : X.N.Nodup) (hi : X.N[i]? = some x) (hx : Loc X.env.scope x) (r : RelV v u)
   (h : ∀ s', Inv X pins (σ.set i (some v)) H s' -> (∃ a, Heap.SameBut a s.heap s'.heap /\ (a = X.env.locals \/ X.env.cells.lookup x = some a)) -> Q () s') (hf : X.fn x = true \/ X.env.scope.names.lookup x = some .local := by first | exact .inl rfl | exact .inr rfl | assumption) : wpAny M A (storeName X.env x u) Q E s := by
 obtain ⟨m, hn, hl⟩ := id I.loc
 have aaq : (X.env.scope.kind == .class || (X.env.scope.kind == .module && X.env.locals != X.env.globals)) = false := by rw [I.ok.kind]; rfl
 have Xd : i < σ.length := by rw [I.len]; exact (afA.mp hi).1
 have Tf := I.Tf
 have tracked : ∀ {a : Addr} {h' : Heap}, (∃ o, s.heap.get? a = some o /\ H a = none) -> Heap.SameBut a s.heap h' -> oA X.prog X.w H h' := fun {a h'} ha hs b ob e => by
   obtain ⟨_, _, Bk⟩ := ha
   refine (I.dw b ob e).ye (fun c w' hc q => (hs.2 c ?_).trans q) (fun _ q => q) fun _ _ q => q
   rintro rfl
   rcases hc with rfl | hc
   . rw [Bk] at e; cases e
   . rw [Bk] at hc; cases hc
 rcases hx with hk | hk
 . refine wpAny_storeName_local hk hn (fun h' hn' hs => ?_) aaq
   obtain ⟨oL, _, _, ZD, _⟩ := id hn
   refine h _ ⟨I.ok, I.os, I.bare, ⟨fun b o e n hb hx => ?_, fun b o e n hb hx => ?_, I.base.free, fun b o e hx => ?_, I.base.yf, I.base.fG, I.base.yg⟩, ⟨_, hn', fun j y v' e1 e2 e3 => ?_⟩, fun y c e => ?_, I.free, I.ly, fun p hp => ?_, tracked ⟨oL, ZD, I.free⟩ hs, by simpa using I.len⟩ ⟨_, hs, .inl rfl⟩
   . exact (hs.2 b (afO (afN (afu e) I.ok.above))).trans (I.base.keep b o e n hb hx)
   . obtain ⟨sl, e1⟩ := I.base.slot b o e n hb hx
     exact ⟨sl, (hs.2 b (afO (afN (afu e) I.ok.above))).trans e1⟩
   . obtain ⟨o', e1⟩ := I.base.there b o e hx
     exact ⟨o', (hs.2 b (afO (afN (afu e) I.ok.above))).trans e1⟩
   . by_cases hj : j = i
     . subst hj
       rw [hi] at e1; cases e1
       rw [List.getElem?_set_self Xd] at e2
       cases e2
       exact ⟨u, r, .inl ⟨hk, by simp⟩⟩
     . rw [List.getElem?_set_ne (Ne.symm hj)] at e2
       obtain ⟨u', r', q⟩ := hl j y v' e1 e2 e3
       refine ⟨u', r', ?_⟩
       rcases q with ⟨k, e⟩ | ⟨k, c, e, z⟩
       . refine .inl ⟨k, ?_⟩
         have : y ≠ x := fun e => hj (Bj hN e1 (e ▸ hi))
         simp [this, e]
       . exact .inr ⟨k, c, e, z.sameBut hs (Tf y c e)⟩
   . obtain ⟨w', z⟩ := I.cell y c e
     exact ⟨w', z.sameBut hs (Tf y c e)⟩
   . obtain ⟨e, n, ne, nf, d⟩ := I.pin p hp
     exact ⟨(hs.2 p.1 ne).trans e, n, ne, nf, d⟩
 . have hfn : X.fn x = true := by
     rcases hf with z | z
     . exact z
     . rw [z] at hk; cases hk
   obtain ⟨c, hc⟩ := I.ok.has x (.inl hk)
   obtain ⟨w', z⟩ := I.cell x c hc
   refine wpAny_storeName_cell I.ok.kind hk hc z (fun h' IZ hs => ?_)
   obtain ⟨oc, WQ, aas⟩ := id z
   refine h { s with heap := h' } ⟨I.ok, I.os, I.bare, ⟨fun b o e n hb hx => ?_, fun b o e n hb hx => ?_, I.base.free, fun b o e hx => ?_, I.base.yf, I.base.fG, I.base.yg⟩, ⟨m, hn.sameBut hs (Ne.symm (Tf x c hc)), fun j y v' e1 e2 e3 => ?_⟩, fun y c' e => ?_, I.free, I.ly, fun p hp => ?_, tracked ⟨oc, WQ, I.ly x c hc⟩ hs, by simpa using I.len⟩ ⟨c, hs, .inr hc⟩
   . exact (hs.2 b (afO (afN (afu e) (I.ok.Xb x c hfn hc)))).trans (I.base.keep b o e n hb hx)
   . obtain ⟨sl, e1⟩ := I.base.slot b o e n hb hx
     exact ⟨sl, (hs.2 b (afO (afN (afu e) (I.ok.Xb x c hfn hc)))).trans e1⟩
   . obtain ⟨o', e1⟩ := I.base.there b o e hx
     exact ⟨o', (hs.2 b (afO (afN (afu e) (I.ok.Xb x c hfn hc)))).trans e1⟩
   . by_cases hj : j = i
     . subst hj
       rw [hi] at e1; cases e1
       rw [List.getElem?_set_self Xd] at e2
       cases e2
       exact ⟨u, r, .inr ⟨.inl hk, c, hc, IZ⟩⟩
     . rw [List.getElem?_set_ne (Ne.symm hj)] at e2
       obtain ⟨u', r', q⟩ := hl j y v' e1 e2 e3
       refine ⟨u', r', ?_⟩
       rcases q with q | ⟨k, c', e, z'⟩
       . exact .inl q
       . refine .inr ⟨k, c', e, z'.sameBut hs ?_⟩
         rintro rfl
         exact hj (Bj hN e1 (I.ok.inj _ _ _ e hc ▸ hi))
   . by_cases hcc : c' = c
     . subst hcc; exact ⟨_, IZ⟩
     . obtain ⟨w2, z2⟩ := I.cell y c' e
       exact ⟨w2, z2.sameBut hs hcc⟩
   . obtain ⟨e, n, ne, nf, d⟩ := I.pin p hp
     refine ⟨(hs.2 p.1 ?_).trans e, n, ne, nf, d⟩
     intro q
     rw [q, WQ] at e
     have q' : oc = p.2 := afv e
     exact d w' (by rw [← q']; exact aas)
theorem Bl {M : Model} {A : Around} {E : Value -> Shared -> Prop} {i : Nat} {x : Str} {v : V} {u : Value} {Q : Unit -> Shared -> Prop} (I : Inv X pins σ H s) (hN : X.N.Nodup) (hi : X.N[i]? = some x) (hx : Loc X.env.scope x) (r : RelV v u)
   (h : ∀ s', Inv X pins (σ.set i (some v)) H s' -> Q () s') (hf : X.fn x = true \/ X.env.scope.names.lookup x = some .local := by first | exact .inl rfl | exact .inr rfl | assumption) : wpAny M A (storeName X.env x u) Q E s :=
 GK I hN hi hx r (fun s' I' _ => h s' I') hf
end
noncomputable abbrev XK := Value -> Option Addr -> Hp -> Prop
noncomputable abbrev St := List (Option V)
noncomputable abbrev VK := V -> Hp -> Prop
noncomputable abbrev TE := St -> Hp -> VK -> Prop
noncomputable abbrev TT := St -> Hp -> (Bool -> Hp -> Prop) -> Prop
noncomputable abbrev TA := St -> Hp -> (List V -> Hp -> Prop) -> Prop
structure Ends where
 nx : St -> Hp -> Prop
 rt : VK
 bk : St -> Hp -> Prop := fun _ _ => False
 ct : St -> Hp -> Prop := fun _ _ => False
noncomputable abbrev TS := Ends -> St -> Hp -> Prop
noncomputable def EP (X : Cx) (pins : List (Addr × Obj)) (σ : St) (Q : VK) (u : Value) (s' : Shared) : Prop := ∃ v H', Inv X pins σ H' s' /\ RelV v u /\ Q v H'
noncomputable def TP (X : Cx) (pins : List (Addr × Obj)) (σ : St) (Q : Bool -> Hp -> Prop) (b : Bool) (s' : Shared) : Prop := ∃ H', Inv X pins σ H' s' /\ Q b H'
noncomputable def AP (X : Cx) (pins : List (Addr × Obj)) (σ : St) (Q : List V -> Hp -> Prop) (us : List Value) (s' : Shared) : Prop := ∃ vs H', Inv X pins σ H' s' /\ Vals vs us /\ Q vs H'
noncomputable def SP (X : Cx) (pins : List (Addr × Obj)) (D : Ends) (f : Flow) (s' : Shared) : Prop :=
 match f with
 | .next => ∃ σ' H', Inv X pins σ' H' s' /\ D.nx σ' H'
 | .brk => ∃ σ' H', Inv X pins σ' H' s' /\ D.bk σ' H'
 | .cont => ∃ σ' H', Inv X pins σ' H' s' /\ D.ct σ' H'
 | .ret u => ∃ v σ' H', Inv X pins σ' H' s' /\ RelV v u /\ D.rt v H'
noncomputable def PE (X : Cx) (e : Expr) (t : TE) : Prop :=
 ∀ (pins : List (Addr × Obj)) (s : Shared) (σ : St) (H : Hp) (Q : VK), Inv X pins σ H s -> t σ H Q -> wpAny (model X.prog X.w) X.A (eval e X.env) (EP X pins σ Q) X.xe s
noncomputable def PT (X : Cx) (e : Expr) (t : TT) : Prop :=
 ∀ (pins : List (Addr × Obj)) (s : Shared) (σ : St) (H : Hp) (Q : Bool -> Hp -> Prop), Inv X pins σ H s -> t σ H Q -> wpAny (model X.prog X.w) X.A (isTrue e X.env (eval e X.env)) (TP X pins σ Q) X.xe s
noncomputable def PW (X : Cx) (e : Expr) (t : TT) : Prop :=
 ∀ (whole : Sem Value) (pins : List (Addr × Obj)) (s : Shared) (σ : St) (H : Hp) (Q : Bool -> Hp -> Prop), Inv X pins σ H s -> t σ H Q -> wpAny (model X.prog X.w) X.A (isTrue e X.env whole) (TP X pins σ Q) X.xe s
noncomputable def PA (X : Cx) (es : List Expr) (t : TA) : Prop :=
 ∀ (pos : Pos) (pins : List (Addr × Obj)) (s : Shared) (σ : St) (H : Hp) (Q : List V -> Hp -> Prop), Inv X pins σ H s -> t σ H Q -> wpAny (model X.prog X.w) X.A (spliced (backTo pos (starEach es X.env))) (AP X pins σ Q) X.xe s
noncomputable def PS (X : Cx) (st : Stmt) (t : TS) : Prop :=
 ∀ (pins : List (Addr × Obj)) (s : Shared) (σ : St) (H : Hp) (D : Ends), Inv X pins σ H s -> t D σ H -> wpAny (model X.prog X.w) X.A (exec st X.env) (SP X pins D) X.xe s
noncomputable def Dm (X : Cx) (st : List Stmt) (t : TS) : Prop :=
 ∀ (pins : List (Addr × Obj)) (s : Shared) (σ : St) (H : Hp) (D : Ends), Inv X pins σ H s -> t D σ H -> wpAny (model X.prog X.w) X.A (execs st X.env) (SP X pins D) X.xe s
theorem dU {α : Type} {t : Sem α} {Q Q' : α -> Shared -> Prop} {M : Model} {A : Around} {E : Value -> Shared -> Prop} {s : Shared} (h : wpAny M A t Q E s) (hQ : ∀ a s, Q a s -> Q' a s) : wpAny M A t Q' E s := agn h hQ fun _ _ x => x
section
variable {X : Cx}
theorem bin {a b : Expr} {ta tb : TE} (ha : PE X a ta) (hb : PE X b tb) {pins : List (Addr × Obj)} {s : Shared} {σ : St} {H : Hp} {R : V -> V -> Hp -> Prop} (I : Inv X pins σ H s) (h : ta σ H fun x H1 => tb σ H1 fun y H2 => R x y H2)
   {α : Type} {Q : α -> Shared -> Prop} {f : Value -> Value -> Sem α}
   (hf : ∀ v u s2 x y H2, Inv X pins σ H2 s2 -> RelV x v -> RelV y u -> R x y H2 -> wpAny (model X.prog X.w) X.A (f v u) Q X.xe s2) :
   wpAny (model X.prog X.w) X.A (eval a X.env) (fun v s₁ => wpAny (model X.prog X.w) X.A (eval b X.env) (fun u s₂ => wpAny (model X.prog X.w) X.A (f v u) Q X.xe s₂) X.xe s₁) X.xe s := by
 refine dU (ha pins s σ H _ I h) fun v s1 zz => ?_
 obtain ⟨x, H1, I1, r1, q1⟩ := zz
 refine dU (hb pins s1 σ H1 _ I1 q1) fun u s2 zz => ?_
 obtain ⟨y, H2, I2, r2, q2⟩ := zz
 exact hf v u s2 x y H2 I2 r1 r2 q2
noncomputable def aat (i : Nat) : TE := fun σ H Q => ∃ v, σ[i]? = some (some v) /\ Q v H
noncomputable def tC (v : V) : TE := fun _ H Q => Q v H
theorem lz {i : Nat} {x : Str} {pos : Pos} (hN : X.N[i]? = some x) (hv : Td X.env.scope x) (hd : (x == ("__debug__" : Str)) = false := by decide) (iD : (x == ("__classdict__" : Str)) = false := by decide) : PE X (.Name x pos) (aat i) := by
 intro pins s σ H Q I h
 obtain ⟨v, e, h⟩ := h
 obtain ⟨m, hn, hl⟩ := I.loc
 obtain ⟨u, r, l⟩ := hl i x v hN e hv
 have fin : EP X pins σ Q u s := ⟨v, H, I, r, h⟩
 rcases l with ⟨hk, hm⟩ | ⟨hk, c, hc, sj⟩
 . exact wpAny_Name (wpAny_loadName_local I.ok.kind hk hn hm fin) hd
 . rcases hk with hk | hk
   . exact wpAny_Name (wpAny_loadName_cell I.ok.kind hk hc sj fin) hd
   . exact wpAny_Name (wpAny_loadName_free I.ok.kind hk hc sj fin iD) hd
theorem Tg {i j pos} : PE X (.Constant (.int i) j pos) (tC (.int i)) := fun _ _ _ H _ I h => wpAny_Constant_int ⟨.int i, H, I.tok _, ⟨_, rfl⟩, h⟩
theorem Xe {b j pos} : PE X (.Constant (.bool b) j pos) (tC (.bl b)) := fun _ _ _ H _ I h => Constant_bool ⟨.bl b, H, I, rfl, h⟩
theorem Ti {x j pos} : PE X (.Constant (.str x) j pos) (tC (.str x)) := fun _ _ _ H _ I h => Calls.Constant_str ⟨.str x, H, I.tok _, ⟨_, rfl⟩, h⟩
noncomputable def Gl (X : Cx) (x : Str) : Prop := X.env.kindOf x = some .globalImplicit
theorem tK {E : Value -> Shared -> Prop} {pins : List (Addr × Obj)} {s : Shared} {σ : St} {H : Hp} {x : Str} {u : Value} {pos : Pos} {Q : Value -> Shared -> Prop} (I : Inv X pins σ H s) (hg : Gl X x) (hm : X.mg x = some u) (h : Q u s)
   (hd : (x == ("__debug__" : Str)) = false := by decide) : wpAny (model X.prog X.w) X.A (eval (.Name x pos) X.env) Q E s :=
 Calls.Name_function_global I.ok.kind hg (Calls.loadGlobal_global (by rw [I.ok.glob]; exact I.mod.glob.keeps I.bk) hm h) hd
theorem lA {E : Value -> Shared -> Prop} {pins : List (Addr × Obj)} {s : Shared} {σ : St} {H : Hp} {x : Str} {u : Value} {pos : Pos} {Q : Value -> Shared -> Prop} (I : Inv X pins σ H s) (hg : Gl X x) (hm : X.mg x = none) (hv : bootBuiltins x = some u) (h : Q u s)
   (hn : x ≠ "__name__" := by decide) (hd : (x == ("__debug__" : Str)) = false := by decide) : wpAny (model X.prog X.w) X.A (eval (.Name x pos) X.env) Q E s := by
 obtain ⟨mb, h1, h2⟩ := I.mod.blt
 exact Calls.Name_function_global I.ok.kind hg (Calls.loadGlobal_builtin (by rw [I.ok.glob]; exact I.mod.glob.keeps I.bk) hm (by rw [I.ok.blt]; exact h1.keeps I.bk) ((h2 x hn).trans hv) h) hd
theorem MN {x : Str} {v : V} {u : Value} {pos : Pos} (hg : Gl X x) (hm : X.mg x = some u) (r : RelV v u) (hd : (x == ("__debug__" : Str)) = false := by decide) : PE X (.Name x pos) (tC v) :=
 fun _ _ _ H _ I h => tK I hg hm ⟨v, H, I, r, h⟩ hd
theorem MP {x : Str} {v : V} {u : Value} {pos : Pos} (hg : Gl X x) (hm : X.mg x = none) (hv : bootBuiltins x = some u) (r : RelV v u) (hn : x ≠ "__name__" := by decide) (hd : (x == ("__debug__" : Str)) = false := by decide) : PE X (.Name x pos) (tC v) :=
 fun _ _ _ H _ I h => lA I hg hm hv ⟨v, H, I, r, h⟩ hn hd
variable {a b : Expr} {ta tb : TE} {pos : Pos}
noncomputable def PC (X : Cx) (op : CmpOp) (a b : Expr) (t : TE) : Prop :=
 ∀ (pins : List (Addr × Obj)) (s : Shared) (σ : St) (H : Hp) (Q : VK), Inv X pins σ H s -> t σ H Q →
   wpAny (model X.prog X.w) X.A (eval a X.env) (fun v s₁ => wpAny (model X.prog X.w) X.A (eval b X.env) (fun u s₂ => wpAny (model X.prog X.w) X.A (compareOp op v u) (EP X pins σ Q) X.xe s₂) X.xe s₁) X.xe s
theorem I0 (b : Expr) {op : CmpOp} (h : op ≠ .In) (h2 : op ≠ .NotIn) : behindInMarks op b = false := by
 have e1 : (op == CmpOp.In) = false := by cases op <;> first | rfl | exact absurd rfl h
 have e2 : (op == CmpOp.NotIn) = false := by cases op <;> first | rfl | exact absurd rfl h2
 cases b <;> simp [behindInMarks, e1, e2]
noncomputable def tB (t : TE) : TT := fun σ H Q => t σ H fun x H1 => ∃ c, x = .bl c /\ Q c H1
theorem aau {op : CmpOp} {t : TE} (h : PC X op a b t) (h1 : behindInMarks op b = false := by first | exact I0 _ (by decide) (by decide) | rfl) : PT X (.Compare a [op] [b] pos) (tB t) := by
 intro pins s σ H Q I hw
 refine wpAny_isTrue_Compare1 (dU (h pins s σ H _ I hw) fun v s1 h1 => dU h1 fun u s2 h2 => dU h2 fun c s3 zz => ?_) h1
 obtain ⟨x, H1, I1, r1, q1⟩ := zz
 obtain ⟨d, rfl, q⟩ := q1
 cases r1
 exact agP ⟨H1, I1, q⟩
theorem Tj {e : Expr} {t : TE} (h : PE X e t) (he : ∀ whole, isTrue e X.env whole = (do let v ← whole; standAt e.pos; holding [v] (truthy v)) := by intro _; rfl) : PT X e (tB t) := by
 intro pins s σ H Q I hw
 refine isTrue_plain (dU (h pins s σ H _ I hw) fun v s1 zz => ?_) (he _)
 obtain ⟨x, H1, I1, r1, q1⟩ := zz
 obtain ⟨d, rfl, q⟩ := q1
 cases r1
 exact agP ⟨H1, I1, q⟩
variable {tA ZE : TT} {rest : List Expr}
noncomputable def aav (t u : TT) : TT := fun σ H Q => t σ H fun c H1 => if c = true then u σ H1 Q else Q false H1
noncomputable def tOr (t u : TT) : TT := fun σ H Q => t σ H fun c H1 => if c = true then Q true H1 else u σ H1 Q
noncomputable def aaw (t : TT) : TT := fun σ H Q => t σ H fun c H1 => Q (!c) H1
theorem MQ (ha : PT X a tA) : PW X (.BoolOp .And [a] pos) tA := by
 intro wh pins s σ H Q I h
 refine isTrue_and (dU (ha pins s σ H Q I h) fun c s1 e => ?_)
 cases c with
 | true => exact isTrue_and_nil e
 | false => exact e
theorem Tp (ha : PT X a tA) : PW X (.BoolOp .Or [a] pos) tA := by
 intro wh pins s σ H Q I h
 refine isTrue_or (dU (ha pins s σ H Q I h) fun c s1 e => ?_)
 cases c with
 | false => exact isTrue_or_nil e
 | true => exact e
theorem Tq (ha : PT X a tA) (hb : PW X (.BoolOp .And (b :: rest) pos) ZE) : PW X (.BoolOp .And (a :: b :: rest) pos) (aav tA ZE) := by
 intro wh pins s σ H Q I h
 refine isTrue_and (dU (ha pins s σ H _ I h) fun c s1 zz => ?_)
 obtain ⟨H1, I1, q1⟩ := zz
 cases c with
 | true => exact hb wh pins s1 σ H1 Q I1 q1
 | false => exact ⟨H1, I1, q1⟩
theorem Xf (ha : PT X a tA) (hb : PW X (.BoolOp .Or (b :: rest) pos) ZE) : PW X (.BoolOp .Or (a :: b :: rest) pos) (tOr tA ZE) := by
 intro wh pins s σ H Q I h
 refine isTrue_or (dU (ha pins s σ H _ I h) fun c s1 zz => ?_)
 obtain ⟨H1, I1, q1⟩ := zz
 cases c with
 | true => exact ⟨H1, I1, q1⟩
 | false => exact hb wh pins s1 σ H1 Q I1 q1
theorem Tr (ha : PT X a tA) : PT X (.UnaryOp .Not a pos) (aaw tA) := by
 intro pins s σ H Q I h
 exact isTrue_not (ha pins s σ H (fun c H1 => Q (!c) H1) I h)
noncomputable def Xg (ta tb : TE) : TE := fun σ H Q => ta σ H fun x H1 => ∃ c, x = .bl c /\ if c = true then tb σ H1 Q else Q (.bl false) H1
noncomputable def Xh (ta : TE) : TE := fun σ H Q => ta σ H fun x H1 => ∃ c, x = .bl c /\ Q (.bl (!c)) H1
theorem Tt {op} {t : TE} (h : PE X a t) : PE X (.BoolOp op [a] pos) t := fun pins s σ H Q I hw => BoolOp_one (h pins s σ H Q I hw)
theorem Tv (ha : PE X a ta) (hb : PE X (.BoolOp .And (b :: rest) pos) tb) : PE X (.BoolOp .And (a :: b :: rest) pos) (Xg ta tb) := by
 intro pins s σ H Q I h
 refine BoolOp_and (dU (ha pins s σ H _ I h) fun v s1 zz => ?_)
 obtain ⟨x, H1, I1, r1, q1⟩ := zz
 obtain ⟨c, rfl, q1⟩ := q1
 cases r1
 refine agP ?_
 cases c with
 | true => exact hb pins s1 σ H1 Q I1 q1
 | false => exact ⟨.bl false, H1, I1, rfl, q1⟩
theorem Tw (ha : PE X a ta) : PE X (.UnaryOp .Not a pos) (Xh ta) := by
 intro pins s σ H Q I h
 refine UnaryOp_ (dU (ha pins s σ H _ I h) fun v s1 zz => ?_)
 obtain ⟨x, H1, I1, r1, q1⟩ := zz
 obtain ⟨c, rfl, q1⟩ := q1
 cases r1
 exact not_of (agP ⟨.bl (!c), H1, I1, rfl, q1⟩)
end
noncomputable def kh (K : PySem.W.Frag) (H : Hp) (a : Addr) (xs : List V) : Prop :=
 Rd H a (.lst xs) ∨
   ∃ (o : Obj) (its : Array Value) (n : Nat), K.lookup a = some o /\ o.cls = .type "list" /\ o.dict = none /\ o.data = .seq its n /\ its.size <= sizeLine /\ Vals xs its.toList
noncomputable def sX (K : PySem.W.Frag) (H : Hp) (a : Addr) (xs : List V) : Prop :=
 Rd H a (.tup xs) ∨
   ∃ (o : Obj) (its : Array Value) (n : Nat), K.lookup a = some o /\ o.cls = .type "tuple" /\ o.data = .seq its n /\ its.size <= sizeLine /\ Vals xs its.toList
noncomputable def aax : Value -> Option V
 | .none => some .non
 | .bool b => some (.bl b)
 | .int i _ => some (.int i)
 | .str x _ => some (.str x)
 | .bytes b _ => some (.IK b)
 | .float b _ => some (.Zw b)
 | .ref a => some (.ref a)
 | .type n => some (.ty n)
 | _ => none
theorem RelV.abs {x : V} {u : Value} (r : RelV x u) : aax u = some x := by
 cases x with
 | non => cases r; rfl
 | bl _ => cases r; rfl
 | int _ => obtain ⟨t, rfl⟩ := r; rfl
 | str _ => obtain ⟨t, rfl⟩ := r; rfl
 | IK _ => obtain ⟨t, rfl⟩ := r; rfl
 | Zw _ => obtain ⟨t, rfl⟩ := r; rfl
 | ref _ => cases r; rfl
 | ty _ => cases r; rfl
theorem RelV.inj {x y : V} {u : Value} (r : RelV x u) (q : RelV y u) : x = y := afv (r.abs.symm.trans q.abs)
theorem Vals.inj {xs ys : List V} {us : List Value} (h : Vals xs us) (q : Vals ys us) : xs = ys := by
 induction h generalizing ys with
 | nil => cases q; rfl
 | cons r _ i => cases q with
   | cons r' t' => rw [r.inj r', i t']
section
variable {X : Cx} {pins : List (Addr × Obj)} {σ : St} {H : Hp} {s : Shared} {a : Addr} {xs ys : List V}
theorem kh.of {K : PySem.W.Frag} (h : H a = some (.lst xs)) : kh K H a xs := .inl (.inl h)
theorem sX.of {K : PySem.W.Frag} (h : H a = some (.tup xs)) : sX K H a xs := .inl (.inl h)
theorem Inv.list (I : Inv X pins σ H s) (h : kh X.K H a xs) : ∃ its : List Value, Vals xs its /\ PlainL s.heap a its.toArray /\ xs.length <= sizeLine := by
 rcases h with h | ⟨o, its, n, hk, hc, hd, hs, hz, r⟩
 . obtain ⟨z, its, n, r, e⟩ := h.ok I.dw
   exact ⟨its, r, ⟨_, n, e, rfl, rfl, rfl⟩, z⟩
 . refine ⟨its.toList, r, ⟨o, n, I.Bd a o hk, hc, hd, by simpa using hs⟩, ?_⟩
   have e := r.length
   simp only [agk] at e
   omega
theorem Inv.tuple (I : Inv X pins σ H s) (h : sX X.K H a xs) : ∃ its : List Value, Vals xs its /\ IsTup s.heap a its.toArray /\ xs.length <= sizeLine := by
 rcases h with h | ⟨o, its, n, hk, hc, hs, hz, r⟩
 . obtain ⟨z, its, r, p⟩ := h.ok I.dw
   exact ⟨its, r, p, z⟩
 . refine ⟨its.toList, r, ⟨o, I.Bd a o hk, hc, n, by simpa using hs⟩, ?_⟩
   have e := r.length
   simp only [agk] at e
   omega
theorem Inv.uv (I : Inv X pins σ H s) (h : kh X.K H a xs) (h' : kh X.K H a ys) : xs = ys := by
 obtain ⟨its, r, ⟨o, n, e, _, _, d⟩, _⟩ := I.list h
 obtain ⟨its', r', ⟨o', n', e', _, _, d'⟩, _⟩ := I.list h'
 rw [e] at e'; cases e'
 rw [d] at d'
 injection d' with d1 _
 have : its = its' := by simpa using congrArg Array.toList d1
 subst this
 exact r.inj r'
theorem Inv.GL (I : Inv X pins σ H s) (h : sX X.K H a xs) (h' : sX X.K H a ys) : xs = ys := by
 obtain ⟨its, r, ⟨o, e, _, n, d⟩, _⟩ := I.tuple h
 obtain ⟨its', r', ⟨o', e', _, n', d'⟩, _⟩ := I.tuple h'
 rw [e] at e'; cases e'
 rw [d] at d'
 injection d' with d1 _
 have : its = its' := by simpa using congrArg Array.toList d1
 subst this
 exact r.inj r'
end
noncomputable abbrev Cx.wish (X : Cx) (E : Value -> Shared -> Prop) : Cx := { X with xe := E }
noncomputable abbrev Cx.Mz (X : Cx) : Cx := X.wish fun _ _ => False
theorem Cx.Ok.wish {X : Cx} (ok : X.Ok) (E : Value -> Shared -> Prop) : (X.wish E).Ok :=
 ⟨ok.mod, ok.kind, ok.glob, ok.blt, ok.above, ok.inj, ok.has, ok.Xb, ok.hd, ok.frames, ok.Zz, ok.exf, ok.bs, ok.My, ok.IY, ok.MJ, ok.sW, ok.Te⟩
theorem Cx.Ok.lB {X : Cx} {E : Value -> Shared -> Prop} (ok : (X.wish E).Ok) : X.Ok :=
 ⟨ok.mod, ok.kind, ok.glob, ok.blt, ok.above, ok.inj, ok.has, ok.Xb, ok.hd, ok.frames, ok.Zz, ok.exf, ok.bs, ok.My, ok.IY, ok.MJ, ok.sW, ok.Te⟩
section
variable {X : Cx} {pins : List (Addr × Obj)} {σ : St} {H : Hp} {s : Shared} {E : Value -> Shared -> Prop}
theorem Inv.wish (I : Inv X pins σ H s) (E : Value -> Shared -> Prop) : Inv (X.wish E) pins σ H s := ⟨I.ok.wish E, I.os, I.bare, I.base, I.loc, I.cell, I.free, I.ly, I.pin, I.dw, I.len⟩
theorem Inv.lB (I : Inv (X.wish E) pins σ H s) : Inv X pins σ H s := ⟨I.ok.lB, I.os, I.bare, I.base, I.loc, I.cell, I.free, I.ly, I.pin, I.dw, I.len⟩
theorem SP.lB {D : Ends} {f : Flow} {s' : Shared} (h : SP (X.wish E) pins D f s') : SP X pins D f s' := by
 cases f with
 | next => obtain ⟨σ', H', I, q⟩ := h; exact ⟨σ', H', I.lB, q⟩
 | brk => obtain ⟨σ', H', I, q⟩ := h; exact ⟨σ', H', I.lB, q⟩
 | cont => obtain ⟨σ', H', I, q⟩ := h; exact ⟨σ', H', I.lB, q⟩
 | ret u => obtain ⟨v, σ', H', I, r, q⟩ := h; exact ⟨v, σ', H', I.lB, r, q⟩
theorem Dm.Mz {st : List Stmt} {t : TS} (h : Dm X.Mz st t) : Dm X st t := fun pins s σ H D I hw =>
 agn (h pins s σ H D (I.wish _) hw) (fun _ _ q => q.lB) fun _ _ z => False.elim z
end
section
variable {X : Cx} {st : Stmt} {rest : List Stmt} {t u : TS} {e : Expr} {te : TE} {pos : Pos}
noncomputable def Xi : TS := fun D σ H => D.nx σ H
noncomputable def aay (t u : TS) : TS := fun D σ H => t { D with nx := u D } σ H
theorem MR : Dm X [] Xi := fun _ _ σ H _ I h => wpAny_execs_nil ⟨σ, H, I, h⟩
theorem Ja (h1 : PS X st t) (h2 : Dm X rest u) : Dm X (st :: rest) (aay t u) := by
 intro pins s σ H D I h
 refine wpAny_execs_cons (dU (h1 pins s σ H { D with nx := u D } I h) fun f s1 q => ?_)
 cases f with
 | next =>
   obtain ⟨σ', H', I', q⟩ := q
   exact h2 pins s1 σ' H' D I' q
 | ret v => exact q
 | brk => exact q
 | cont => exact q
noncomputable def Tz : TS := fun D σ H => D.bk σ H
theorem Jb : PS X (.Break pos) Tz := fun _ _ σ H _ I h => wpAny_Break ⟨σ, H, I, h⟩
theorem Inv.quiet {pins : List (Addr × Obj)} {σ : St} {H : Hp} {s : Shared} (I : Inv X pins σ H s) : interactive X.env = false := by simp [interactive, I.ok.kind]
noncomputable def Xj (te : TE) : TS := fun D σ H => te σ H fun _ H1 => D.nx σ H1
theorem MS (he : PE X e te) (hs : swapsWith e none pos.line X.env = pure false := by rfl) : PS X (.Expr e pos) (Xj te) := by
 intro pins s σ H D I h
 exact wpAny_Expr_any (dU (he pins s σ H _ I h) fun v s1 ⟨x, H1, I1, r1, q1⟩ => ⟨σ, H1, I1, q1⟩) I.quiet hs
noncomputable def aaz (te : TE) : TS := fun D σ H => te σ H D.rt
theorem TF (he : PE X e te) : PS X (.Return (some e) pos) (aaz te) := by
 intro pins s σ H D I h
 exact wpAny_Return_some (dU (he pins s σ H _ I h) fun v s1 ⟨x, H1, I1, r1, q1⟩ => ⟨x, σ, H1, I1, r1, q1⟩)
noncomputable def aaA (c : TT) (t u : TS) : TS := fun D σ H => c σ H fun b H1 => if b = true then t D σ H1 else u D σ H1
theorem Xk {c : Expr} {a b : List Stmt} {tc : TT} (hc : PT X c tc) (ha : Dm X a t) (hb : Dm X b u) : PS X (.If c a b pos) (aaA tc t u) := by
 intro pins s σ H D I h
 refine wpAny_If (dU (hc pins s σ H _ I h) fun d s1 zz => ?_)
 obtain ⟨H1, I1, q1⟩ := zz
 cases d with
 | true => exact ha pins s1 σ H1 D I1 q1
 | false => exact hb pins s1 σ H1 D I1 q1
end
noncomputable abbrev TG := V -> St -> Hp -> (St -> Hp -> Prop) -> Prop
noncomputable abbrev TH := List V -> St -> Hp -> (St -> Hp -> Prop) -> Prop
noncomputable def PG (X : Cx) (target : Expr) (t : TG) : Prop :=
 ∀ (pins : List (Addr × Obj)) (s : Shared) (σ : St) (H : Hp) (v : V) (u : Value) (Q : St -> Hp -> Prop), Inv X pins σ H s -> RelV v u -> t v σ H Q →
   wpAny (model X.prog X.w) X.A (assign target X.env u) (fun _ s' => ∃ σ' H', Inv X pins σ' H' s' /\ Q σ' H') X.xe s
noncomputable def ZF (X : Cx) (ts : List Expr) (t : TH) : Prop :=
 ∀ (pins : List (Addr × Obj)) (s : Shared) (σ : St) (H : Hp) (vs : List V) (us : List Value) (Q : St -> Hp -> Prop), Inv X pins σ H s -> Vals vs us -> t vs σ H Q →
   wpAny (model X.prog X.w) X.A (assignInOrder ((assignEach ts X.env).map (·.2)) us) (fun _ s' => ∃ σ' H', Inv X pins σ' H' s' /\ Q σ' H') X.xe s
noncomputable abbrev TJ := V -> V -> V -> Hp -> (Hp -> Prop) -> Prop
noncomputable def Xl (X : Cx) (t : TJ) : Prop :=
 ∀ (pins : List (Addr × Obj)) (s : Shared) (σ : St) (H : Hp) (o i v : V) (ov iv u : Value) (Q : Hp -> Prop), Inv X pins σ H s -> RelV o ov -> RelV i iv -> RelV v u -> t o i v H Q →
   wpAny (model X.prog X.w) X.A (setItem ov iv u) (fun _ s' => ∃ H', Inv X pins σ H' s' /\ Q H') X.xe s
section
variable {X : Cx} {pos : Pos}
noncomputable def sq (i : Nat) : TG := fun v σ H Q => Q (σ.set i (some v)) H
theorem pJ {i : Nat} {x : Str} (hN : X.N.Nodup) (hi : X.N[i]? = some x) (hx : Loc X.env.scope x) (hf : X.fn x = true \/ X.env.scope.names.lookup x = some .local := by first | exact .inl rfl | exact .inr rfl | assumption) : PG X (.Name x pos) (sq i) := by
 intro pins s σ H v u Q I r h
 exact wpAny_assign_Name (Bl I hN hi hx r (fun s' I' => ⟨_, H, I', h⟩) hf)
noncomputable def TL : TH := fun vs σ H Q => vs = [] /\ Q σ H
noncomputable def Bm (t : TG) (u : TH) : TH := fun vs σ H Q => ∃ v r, vs = v :: r /\ t v σ H fun σ' H' => u r σ' H' Q
theorem MT : ZF X [] TL := by
 intro pins s σ H vs us Q I r h
 obtain ⟨e, h⟩ := h
 subst e
 cases r
 exact assignInOrder_nil ⟨σ, H, I, h⟩
theorem Bo {e : Expr} {es : List Expr} {t : TG} {u : TH} (h1 : PG X e t) (h2 : ZF X es u)
   (hs : (assignEach (e :: es) X.env).map (·.2) = assign e X.env :: (assignEach es X.env).map (·.2) := by rfl) : ZF X (e :: es) (Bm t u) := by
 intro pins s σ H vs us Q I r h
 obtain ⟨v, vr, e1, h⟩ := h
 subst e1
 cases r with
 | cons r rr =>
   rw [hs]
   refine assignInOrder_cons (dU (h1 pins s σ H _ _ _ I r h) fun _ s1 zz => ?_)
   obtain ⟨σ1, H1, I1, q1⟩ := zz
   exact h2 pins s1 σ1 H1 _ _ Q I1 rr q1
noncomputable def TN (K : PySem.W.Frag) (n : Nat) (t : TH) : TG := fun v σ H Q => ∃ a xs, v = .ref a /\ sX K H a xs /\ xs.length = n /\ t xs σ H Q
theorem TQ {es : List Expr} {k : Nat} {t : TH} {n : Nat} (hc : X.calm = true) (h : ZF X es t)
   (hn : (assignEach es X.env).length = n := by rfl) (Jc : (assignEach es X.env).findIdx? (·.1) = none := by rfl) : PG X (.Tuple es k pos) (TN X.K n t) := by
 intro pins s σ H v u Q I r hw
 obtain ⟨a, xs, e1, hq, hl, hw⟩ := hw
 subst e1
 cases r
 obtain ⟨its, rv, ht, hz⟩ := I.tuple hq
 refine assign_Tuple_tuple (I.ok.hd hc) ht (by simp [hn, ← hl, rv.length]) Jc fun h' hx => ?_
 have I1 : Inv X pins σ H { s with heap := h' } := I.kept (t' := s.toks) fun b o e => hx b o (afO (afu e)) e
 exact h pins _ σ H xs _ Q I1 (by simpa using rv) hw
noncomputable def aaB (to ti : TE) (t : TJ) : TG := fun v σ H Q => to σ H fun o H1 => ti σ H1 fun i H2 => t o i v H2 fun H3 => Q σ H3
theorem TR {o i : Expr} {to ti : TE} {t : TJ} (ho : PE X o to) (hi : PE X i ti) (hs : Xl X t)
   (ha : ∀ v, assign (.Subscript o i pos) X.env v = (do
     let ov ← holding [v] (eval o X.env)
     let iv ← holding [v, ov] (eval i X.env)
     standAt pos
     holding [v, ov, iv] (setItem ov iv v)
     release [v, ov, iv] []) := by intro _; rfl) : PG X (.Subscript o i pos) (aaB to ti t) := by
 intro pins s σ H v u Q I r h
 rw [ha]
 refine afs (ag4 (dU (ho pins s σ H _ I h) fun ov s1 zz => ?_))
 obtain ⟨x, H1, I1, r1, q1⟩ := zz
 refine afs (ag4 (dU (hi pins s1 σ H1 _ I1 q1) fun iv s2 zz => ?_))
 obtain ⟨y, H2, I2, r2, q2⟩ := zz
 refine afs (wpAny_standAt (afs (ag4 (dU (hs pins s2 σ H2 x y v ov iv u _ I2 r1 r2 r q2) fun _ s3 zz => ?_))))
 obtain ⟨H3, I3, q3⟩ := zz
 exact wpAny_release ⟨σ, H3, I3, q3⟩
noncomputable def Xm (te : TE) (g : TG) : TS := fun D σ H => te σ H fun x H1 => g x σ H1 D.nx
theorem TV {tg e : Expr} {te : TE} {g : TG} (he : PE X e te) (hg : PG X tg g) (hs : swapsWithSole [tg] e pos.line X.env = pure false := by rfl) (hw : swappedStores [tg] e X.env = pure none := by rfl)
   (h1 : (assignEach [tg] X.env).map (·.2) = [assign tg X.env] := by rfl) : PS X (.Assign [tg] e pos) (Xm te g) := by
 intro pins s σ H D I h
 refine wpAny_Assign_stores (dU (he pins s σ H _ I h) fun v s1 zz => ?_) hs hw
 obtain ⟨x, H1, I1, r1, q1⟩ := zz
 rw [h1]
 exact dU (hg pins s1 σ H1 x v _ I1 r1 q1) fun _ s2 q => q
theorem TX {i : Nat} {x : Str} {e : Expr} {te : TE} {pos' : Pos} (hN : X.N.Nodup) (hi : X.N[i]? = some x) (hx : Loc X.env.scope x) (he : PE X e te) (hs : swapsWith e (some (.Name x pos')) pos.line X.env = pure false := by rfl) (hf : X.fn x = true \/ X.env.scope.names.lookup x = some .local := by first | exact .inl rfl | exact .inr rfl | assumption) :
   PS X (.Assign [.Name x pos'] e pos) (Xm te (sq i)) := by
 intro pins s σ H D I h
 refine wpAny_Assign_Name (dU (he pins s σ H _ I h) fun v s1 zz => ?_) hs
 obtain ⟨y, H1, I1, r1, q1⟩ := zz
 exact Bl I1 hN hi hx r1 (fun s2 I2 => ⟨_, H1, I2, q1⟩) hf
end
section
variable {X : Cx} {pos : Pos}
noncomputable def TY (c : TT) (tb : TS) : TS := fun D σ H => ∃ W : Nat -> St -> Hp -> Prop, (∃ m, W m σ H) /\ ∀ m σ H, W m σ H →
 c σ H fun b H1 => if b = true then ∃ N : St -> Hp -> Prop, (∀ σ' H', N σ' H' -> ∃ m', m' < m /\ W m' σ' H') /\ tb { D with nx := N, ct := N, bk := D.nx } σ H1 else D.nx σ H1
theorem Jd {c : Expr} {body : List Stmt} {tc : TT} {tb : TS} (hp : PassesOwn (model X.prog X.w) X.A X.env X.xe) (hc : PT X c tc) (hb : Dm X body tb) : PS X (.While c body [] pos) (TY tc tb) := by
 intro pins s σ H D I h
 obtain ⟨W, ⟨m0, w0⟩, turn⟩ := h
 refine wpAny_While (codeAny_whileLoop (fun n s' => ∃ σ' H', Inv X pins σ' H' s' /\ W n σ' H') ?_ m0 ⟨σ, H, I, w0⟩)
 rintro n s1 ⟨σ1, H1, I1, w1⟩
 refine agC hp (dU (hc pins s1 σ1 H1 _ I1 (turn n σ1 H1 w1)) fun b s2 zz => ?_)
 obtain ⟨H2, I2, q2⟩ := zz
 cases b with
 | true =>
   obtain ⟨N, hN, q2⟩ := q2
   rw [afa rfl]
   refine agC hp (dU (hb pins s2 σ1 H2 _ I2 q2) fun f s3 q3 => ?_)
   cases f with
   | next =>
     obtain ⟨σ3, H3, I3, n3⟩ := q3
     obtain ⟨m', hm, w3⟩ := hN σ3 H3 n3
     exact ⟨m', hm, σ3, H3, I3, w3⟩
   | cont =>
     obtain ⟨σ3, H3, I3, n3⟩ := q3
     obtain ⟨m', hm, w3⟩ := hN σ3 H3 n3
     exact ⟨m', hm, σ3, H3, I3, w3⟩
   | brk => exact q3
   | ret v => exact q3
 | false =>
   rw [ae9 afr]
   exact wpAny_execs_nil ⟨σ1, H2, I2, q2⟩
end
structure It where
 go : Nat -> Hp -> Prop
 R0 : Nat -> Hp -> V -> Hp -> Prop
 stop : Nat -> Hp -> Prop
noncomputable def gT (X : Cx) (pins : List (Addr × Obj)) (H : Hp) (b : Addr) : Prop :=
 H b = none /\ b ≠ X.env.locals /\ b ∉ X.fs /\ (b ∈ X.ex \/ X.s₀.heap.objs.size <= b) /\ (∀ x c, X.env.cells.lookup x = some c -> c ≠ b) /\ ∀ p ∈ X.pn ++ pins, p.1 ≠ b
theorem Inv.wu {X : Cx} {pins : List (Addr × Obj)} {σ : St} {H H' : Hp} {s : Shared} {b : Addr} (I : Inv X pins σ H s) (hb : s.heap.objs.size <= b) (hn : H' b = none) : gT X pins H' b := by
 refine ⟨hn, Nat.ne_of_gt (afN I.lt hb), I.aan hb, .inr (afU I.sz hb), fun x c e z => ?_, fun p hp z => ?_⟩
 . obtain ⟨v, q⟩ := I.cell x c e
   exact absurd (afN q.lt (by rw [z]; exact hb)) (agV _)
 . exact absurd (afN (afu (I.pin p hp).1) (by rw [z]; exact hb)) (agV _)
structure Turn (P : Program) (w : World) (K : PySem.W.Frag) (tg : Expr) (J : It) (fp : List Addr) (it : Addr) (tn : Nat -> Heap -> Prop) : Prop where
 mem : it ∈ fp
 obj : ∀ i h, tn i h -> ∀ b ∈ fp, ∃ o, h.get? b = some o /\ ∀ v, o.data ≠ .cell v
 keep : ∀ i h h', tn i h -> (∀ b ∈ fp, ∀ o, h.get? b = some o -> h'.get? b = some o) -> tn i h'
 item : ∀ (X : Cx), X.prog = P -> X.w = w -> X.K = K -> X.calm = true -> ∀ (i : Nat) (pins : List (Addr × Obj)) (s : Shared) (σ : St) (H : Hp) (E : Value -> Shared -> Prop), Inv X pins σ H s -> (∀ b ∈ fp, gT X pins H b) -> tn i s.heap -> J.go i H →
   wpAny (model P w) X.A (pyNext (.ref it)) (fun r s1 => ∃ u, r = some u ∧
     wpAny (model P w) X.A (letOwnedTupleGo tg (.ref it) u) (fun _ s2 => ∃ x H', Inv X pins σ H' s2 /\ RelV x u /\ J.R0 i H x H' /\ tn (i + 1) s2.heap /\ ∀ b ∈ fp, H' b = none) E s1) E s
 done : ∀ (X : Cx), X.prog = P -> X.w = w -> X.K = K -> X.calm = true -> ∀ (i : Nat) (pins : List (Addr × Obj)) (s : Shared) (σ : St) (H : Hp) (E : Value -> Shared -> Prop), Inv X pins σ H s -> (∀ b ∈ fp, gT X pins H b) -> tn i s.heap -> J.stop i H →
   wpAny (model P w) X.A (pyNext (.ref it)) (fun r s1 => r = none /\ Inv X pins σ H s1) E s
 self : ∀ (A : Around) (i : Nat) (s : Shared) (Q : Value -> Shared -> Prop) (E : Value -> Shared -> Prop), tn i s.heap -> Q (.ref it) s -> wpAny (model P w) A (pyIter (.ref it)) Q E s
noncomputable abbrev TI := St -> Hp -> (It -> Hp -> Prop) -> Prop
noncomputable def PIE (X : Cx) (pins : List (Addr × Obj)) (σ : St) (tg : Expr) (R : It -> Hp -> Prop) (ZG : Value) (s2 : Shared) : Prop :=
 ∃ (it : Addr) (fp : List Addr) (tn : Nat -> Heap -> Prop) (J : It) (H' : Hp), ZG = .ref it /\ Inv X pins σ H' s2 /\ Turn X.prog X.w X.K tg J fp it tn /\ tn 0 s2.heap /\ (∀ b ∈ fp, gT X pins H' b) /\ R J H'
noncomputable def PI (X : Cx) (tg iter : Expr) (wi : TI) : Prop :=
 ∀ (pins : List (Addr × Obj)) (s : Shared) (σ : St) (H : Hp) (R : It -> Hp -> Prop), Inv X pins σ H s -> wi σ H R →
   wpAny (model X.prog X.w) X.A (eval iter X.env) (fun v s1 => wpAny (model X.prog X.w) X.A (pyIter v) (PIE X pins σ tg R) X.xe s1) X.xe s
theorem Fx {M : Model} {A : Around} {E : Value -> Shared -> Prop} {s : Shared} {tg : Expr} {it : Addr} {u : Value} {o : Obj} {n : String} {vs : Array Value} {Q : Unit -> Shared -> Prop} (ho : s.heap.get? it = some o) (hc : o.cls = .type n) (hd : o.data = .fields vs)
   (hn : ["enumerate", "zip", "dict_itemiterator", "dict_reverseitemiterator", "odict_iterator", "itertools.zip_longest", "itertools.pairwise"].contains n = false) (hQ : Q () s) : wpAny M A (letOwnedTupleGo tg (.ref it) u) Q E s := by
 unfold letOwnedTupleGo
 cases tg <;> first
   | exact afV hQ
   | (cases u <;> first
       | exact afV hQ
       | (refine afs (wpAny_load ho ?_)
          rw [hc, hd]
          show wpAny M A (if (["enumerate", "zip", "dict_itemiterator", "dict_reverseitemiterator", "odict_iterator", "itertools.zip_longest", "itertools.pairwise"].contains n && vs[0]? == some (rawInt _)) = true then _ else _) Q E s
          rw [ae9 (by intro h; rw [hn, Bool.false_and] at h; cases h)]
          exact afV hQ))
noncomputable def Itl (K : PySem.W.Frag) (a : Addr) : It :=
 ⟨fun i H => ∃ xs x, kh K H a xs /\ xs[i]? = some x, fun i H x H' => H' = H /\ ∀ xs, kh K H a xs -> xs[i]? = some x, fun i H => ∃ xs, kh K H a xs /\ xs.length <= i⟩
noncomputable def Itt (K : PySem.W.Frag) (a : Addr) : It :=
 ⟨fun i H => ∃ xs x, sX K H a xs /\ xs[i]? = some x, fun i H x H' => H' = H /\ ∀ xs, sX K H a xs -> xs[i]? = some x, fun i H => ∃ xs, sX K H a xs /\ xs.length <= i⟩
noncomputable def ZH (lo : Int) (n : Nat) : It := ⟨fun i _ => i < n, fun i H x H' => H' = H /\ x = .int (lo + i), fun i _ => n <= i⟩
theorem GN {P : Program} {w : World} {K : PySem.W.Frag} {tg : Expr} (a it : Addr) : Turn P w K tg (Itl K a) [it] it (fun i h => h.IsListIter it a i) where
 mem := by simp
 obj := fun i h st b hb => by
   have e : b = it := by simpa using hb
   subst e
   obtain ⟨o, e, c, d⟩ := st
   exact ⟨o, e, fun v z => by rw [d] at z; cases z⟩
 keep := fun i h h' st k => st.at fun o e => k it (by simp) o e
 item := by
   intro X hP hw hK hc i pins s σ H E I hf st hg
   subst hP hw hK
   obtain ⟨xs, x, hq, hx⟩ := hg
   obtain ⟨its, rv, p, hz⟩ := I.list hq
   obtain ⟨u, hu, ru⟩ := rv.get hx
   obtain ⟨f0, f1, f2, f3, f4, f5⟩ := hf it (by simp)
   refine wpAny_pyNext_list_item st p.isList (x := u) (by simpa using hu) fun h' Be sb => ?_
   have I1 : Inv X pins σ H { s with heap := h' } := I.turned (t' := s.toks) (fun b o hb e => (sb.2 b hb).trans e) f0 f1 f3 f4 f5
   obtain ⟨o, e, c, d⟩ := id Be
   exact ⟨u, rfl, Fx (s := { s with heap := h' }) e c d (by decide) ⟨x, H, I1, ru, ⟨rfl, fun ys hy => by rw [I.uv hy hq]; exact hx⟩, Be, fun b hb => (hf b hb).1⟩⟩
 done := by
   intro X hP hw hK hc i pins s σ H E I hf st hg
   subst hP hw hK
   obtain ⟨xs, hq, hx⟩ := hg
   obtain ⟨its, rv, p, hz⟩ := I.list hq
   obtain ⟨f0, f1, f2, f3, f4, f5⟩ := hf it (by simp)
   have hl := rv.length
   exact wpAny_pyNext_list_end (I.ok.hd hc) st p.isList (by simp; omega) fun h' eb => ⟨rfl, I.turned (t' := s.toks) (fun b o hb e => eb b o hb e) f0 f1 f3 f4 f5⟩
 self := fun _ _ _ _ _ st h => wpAny_pyIter_listiter st h
theorem Dn {P : Program} {w : World} {K : PySem.W.Frag} {tg : Expr} (a it : Addr) : Turn P w K tg (Itt K a) [it] it (fun i h => h.IsTupleIter it a i) where
 mem := by simp
 obj := fun i h st b hb => by
   have e : b = it := by simpa using hb
   subst e
   obtain ⟨o, e, c, d⟩ := st
   exact ⟨o, e, fun v z => by rw [d] at z; cases z⟩
 keep := fun i h h' st k => st.at fun o e => k it (by simp) o e
 item := by
   intro X hP hw hK hc i pins s σ H E I hf st hg
   subst hP hw hK
   obtain ⟨xs, x, hq, hx⟩ := hg
   obtain ⟨its, rv, p, hz⟩ := I.tuple hq
   obtain ⟨u, hu, ru⟩ := rv.get hx
   obtain ⟨f0, f1, f2, f3, f4, f5⟩ := hf it (by simp)
   refine wpAny_pyNext_tuple_item st (show s.heap.IsTuple a its.toArray from p) (x := u) (by simpa using hu) fun h' Be sb => ?_
   have I1 : Inv X pins σ H { s with heap := h' } := I.turned (t' := s.toks) (fun b o hb e => (sb.2 b hb).trans e) f0 f1 f3 f4 f5
   obtain ⟨o, e, c, d⟩ := id Be
   exact ⟨u, rfl, Fx (s := { s with heap := h' }) e c d (by decide) ⟨x, H, I1, ru, ⟨rfl, fun ys hy => by rw [I.GL hy hq]; exact hx⟩, Be, fun b hb => (hf b hb).1⟩⟩
 done := by
   intro X hP hw hK hc i pins s σ H E I hf st hg
   subst hP hw hK
   obtain ⟨xs, hq, hx⟩ := hg
   obtain ⟨its, rv, p, hz⟩ := I.tuple hq
   obtain ⟨f0, f1, f2, f3, f4, f5⟩ := hf it (by simp)
   have hl := rv.length
   exact wpAny_pyNext_tuple_end (I.ok.hd hc) st (show s.heap.IsTuple a its.toArray from p) (by simp; omega) fun h' eb => ⟨rfl, I.turned (t' := s.toks) (fun b o hb e => eb b o hb e) f0 f1 f3 f4 f5⟩
 self := fun _ _ _ _ _ st h => wpAny_pyIter_tupleiter st h
theorem Dp {P : Program} {w : World} {K : PySem.W.Frag} {tg : Expr} (it : Addr) (lo : Int) (n : Nat) : Turn P w K tg (ZH lo n) [it] it (fun i h => IsRangeIter h it (lo + (i : Nat) * 1) ((n : Int) - (i : Nat)) 1) where
 mem := by simp
 obj := fun i h st b hb => by
   have e : b = it := by simpa using hb
   subst e
   exact ⟨_, st, fun v z => by
     have z' : Data.fields _ = Data.cell v := z
     cases z'⟩
 keep := fun i h h' st k => k it (by simp) _ st
 item := by
   intro X hP hw hK hc i pins s σ H E I hf st hg
   subst hP hw hK
   obtain ⟨f0, f1, f2, f3, f4, f5⟩ := hf it (by simp)
   have W := Walks.range (prog := X.prog) (w := X.w) (I.ok.hd hc) it lo 1 n
   refine W.item i s _ _ hg st fun v h' tk hv Be kk => ?_
   obtain ⟨t, rfl⟩ := hv
   have I1 : Inv X pins σ H { s with heap := h', toks := tk } := I.turned (fun b o hb e => kk b o (by simpa using hb) e) f0 f1 f3 f4 f5
   refine ⟨_, rfl, Fx (s := { s with heap := h', toks := tk }) (n := "range_iterator") Be rfl rfl (by decide) ⟨.int (lo + i), H, I1, ⟨t, ?_⟩, ⟨rfl, rfl⟩, Be, fun b hb => (hf b hb).1⟩⟩
   rw [Int.mul_one]
 done := by
   intro X hP hw hK hc i pins s σ H E I hf st hg
   subst hP hw hK
   obtain ⟨f0, f1, f2, f3, f4, f5⟩ := hf it (by simp)
   exact wpAny_pyNext_range_end (I.ok.hd hc) st (by have : n <= i := hg; omega) fun h' eb => ⟨rfl, I.turned (t' := s.toks) (fun b o hb e => eb b o hb e) f0 f1 f3 f4 f5⟩
 self := fun _ _ _ _ _ st h => wpAny_pyIter_rangeiter st h
section
variable {X : Cx} {tg : Expr}
noncomputable def Xn (K : PySem.W.Frag) (tl : TE) : TI := fun σ H R => tl σ H fun x H1 => ∃ a, x = .ref a /\ (∃ xs, kh K H1 a xs) /\ R (Itl K a) H1
noncomputable def aaC (K : PySem.W.Frag) (tl : TE) : TI := fun σ H R => tl σ H fun x H1 => ∃ a, x = .ref a /\ (∃ xs, sX K H1 a xs) /\ R (Itt K a) H1
theorem MV {l : Expr} {tl : TE} (hl : PE X l tl) : PI X tg l (Xn X.K tl) := by
 intro pins s σ H R I h
 refine dU (hl pins s σ H _ I h) fun v s1 zz => ?_
 obtain ⟨x, H1, I1, r1, q1⟩ := zz
 obtain ⟨a, e, ⟨xs, hq⟩, q⟩ := q1
 subst e
 cases r1
 obtain ⟨its, rv, p, hz⟩ := I1.list hq
 refine wpAny_pyIter_list p.isList ?_
 refine ⟨s1.heap.objs.size, [s1.heap.objs.size], _, _, H1, rfl, I1.kept (t' := s1.toks) fun b o e => afn _ e, GN a _, ⟨_, afE _ rfl, rfl, rfl⟩, fun b hb => ?_, q⟩
 have e : b = s1.heap.objs.size := by simpa using hb
 subst e
 exact I1.wu (afg _) (I1.dw.fresh (afg _))
theorem T3 {l : Expr} {tl : TE} (hl : PE X l tl) : PI X tg l (aaC X.K tl) := by
 intro pins s σ H R I h
 refine dU (hl pins s σ H _ I h) fun v s1 zz => ?_
 obtain ⟨x, H1, I1, r1, q1⟩ := zz
 obtain ⟨a, e, ⟨xs, hq⟩, q⟩ := q1
 subst e
 cases r1
 obtain ⟨its, rv, p, hz⟩ := I1.tuple hq
 refine wpAny_pyIter_tuple (show s1.heap.IsTuple a its.toArray from p) ?_
 refine ⟨s1.heap.objs.size, [s1.heap.objs.size], _, _, H1, rfl, I1.kept (t' := s1.toks) fun b o e => afn _ e, Dn a _, ⟨_, afE _ rfl, rfl, rfl⟩, fun b hb => ?_, q⟩
 have e : b = s1.heap.objs.size := by simpa using hb
 subst e
 exact I1.wu (afg _) (I1.dw.fresh (afg _))
theorem Bp {pins : List (Addr × Obj)} {σ : St} {H : Hp} {s : Shared} {R : It -> Hp -> Prop} {E : Value -> Shared -> Prop} {lo hi : Int} {t u v : Tok} {tk : Nat} (I : Inv X pins σ H s) (h1 : -(2 ^ 62) <= lo) (h2 : lo < 2 ^ 62) (h3 : -(2 ^ 62) <= hi) (h4 : hi < 2 ^ 62)
   (q : R (ZH lo (hi - lo).toNat) H) : wpAny (model X.prog X.w) X.A (pyIter (.ref s.heap.objs.size)) (PIE X pins σ tg R) E { s with heap := s.heap.push { cls := .type "range", data := .fields #[.int lo t, .int hi u, .int 1 v] }, toks := tk } := by
 refine wpAny_pyIter_range (IsRange.new ..) (small_one h1 h2 h3 h4) ?_
 have I1 : Inv X pins σ H { s with heap := s.heap.push { cls := .type "range", data := .fields #[.int lo t, .int hi u, .int 1 v] }, toks := tk } := I.kept fun b o e => afn _ e
 refine ⟨(s.heap.push { cls := .type "range", data := .fields #[.int lo t, .int hi u, .int 1 v] }).objs.size, [(s.heap.push { cls := .type "range", data := .fields #[.int lo t, .int hi u, .int 1 v] }).objs.size], _, _, H, rfl,
   I1.kept (t' := tk) fun b o e => afn _ e, Dp _ lo (hi - lo).toNat, ?_, fun b hb => ?_, q⟩
 . have e1 : lo + ((0 : Nat) : Int) * 1 = lo := by simp
   have e2 : (((hi - lo).toNat : Nat) : Int) - ((0 : Nat) : Int) = Builtin.Range.rangeSize lo hi 1 := by rw [rangeSize_one]; split <;> omega
   show IsRangeIter _ _ (lo + ((0 : Nat) : Int) * 1) ((((hi - lo).toNat : Nat) : Int) - ((0 : Nat) : Int)) 1
   rw [e1, e2]
   exact afE _ rfl
 . have e : b = (s.heap.push { cls := .type "range", data := .fields #[.int lo t, .int hi u, .int 1 v] }).objs.size := by simpa using hb
   subst e
   exact I1.wu (afg _) (I1.dw.fresh (afg _))
noncomputable def Xo (ta : TA) : TI := fun σ H R => ta σ H fun vs H1 => ∃ j : Int, vs = [.int j] /\ -(2 ^ 62) <= j /\ j < 2 ^ 62 /\ R (ZH 0 j.toNat) H1
noncomputable def Xp (ta : TA) : TI := fun σ H R => ta σ H fun vs H1 => ∃ i j : Int, vs = [.int i, .int j] /\ (-(2 ^ 62) <= i /\ i < 2 ^ 62 /\ -(2 ^ 62) <= j /\ j < 2 ^ 62) /\ R (ZH i (j - i).toNat) H1
theorem GO {a : Expr} {ta : TA} {p pos : Pos} (hg : Gl X "range") (hm : X.mg "range" = none) (ha : PA X [a] ta) (hs : starEach [a] X.env = [(false, eval a X.env)] := by rfl) : PI X tg (.Call (.Name "range" p) [a] [] pos) (Xo ta) := by
 intro pins s σ H R I h
 refine Call_ (lA I hg hm boot_range (agi (dU (ha pos pins s σ H _ I h) fun us s1 zz => ?_) hs rfl))
 obtain ⟨vs, H1, I1, r1, q1⟩ := zz
 obtain ⟨j, e, q1, q2, q⟩ := q1
 subst e
 cases r1 with
 | cons r rr =>
   cases rr
   obtain ⟨t, rfl⟩ := r
   exact call_range_1 (Bp I1 (by omega) (by omega) q1 q2 (by simpa using q))
theorem GP {a b : Expr} {ta : TA} {p pos : Pos} (hg : Gl X "range") (hm : X.mg "range" = none) (ha : PA X [a, b] ta) (hs : starEach [a, b] X.env = [(false, eval a X.env), (false, eval b X.env)] := by rfl) (GQ : starEach [b] X.env = [(false, eval b X.env)] := by rfl) :
   PI X tg (.Call (.Name "range" p) [a, b] [] pos) (Xp ta) := by
 intro pins s σ H R I h
 refine Call_ (lA I hg hm boot_range (agi (dU (ha pos pins s σ H _ I h) fun us s1 zz => ?_) (by rw [hs, GQ]) (by rw [GQ]; rfl)))
 obtain ⟨vs, H1, I1, r1, q1⟩ := zz
 obtain ⟨i, j, e, ⟨q1, q2, q3, q4⟩, q⟩ := q1
 subst e
 cases r1 with
 | cons r rr =>
   cases rr with
   | cons r' rr =>
     cases rr
     obtain ⟨t, rfl⟩ := r
     obtain ⟨t', rfl⟩ := r'
     exact call_range_2 (Bp I1 q1 q2 q3 q4 q)
noncomputable def aaD (wi : TI) (g : TG) (tb : TS) : TS := fun D σ H => wi σ H fun J H1 => ∃ W : Nat -> Nat -> St -> Hp -> Prop, (∃ m, W 0 m σ H1) /\ ∀ i m σ H, W i m σ H →
 (J.stop i H /\ D.nx σ H) \/ (J.go i H /\ ∃ N : St -> Hp -> Prop, (∀ σ' H', N σ' H' -> ∃ m', m' < m /\ W (i + 1) m' σ' H') /\ ∀ x H', J.R0 i H x H' -> g x σ H' fun σ2 H2 => tb { D with nx := N, ct := N, bk := D.nx } σ2 H2)
noncomputable def uw (fp : List Addr) (h : Heap) : List (Addr × Obj) := fp.filterMap fun b => (h.get? b).map fun o => (b, o)
theorem gu {fp : List Addr} {h : Heap} {b : Addr} {o : Obj} (hb : b ∈ fp) (e : h.get? b = some o) : (b, o) ∈ uw fp h := List.mem_filterMap.mpr ⟨b, hb, by rw [e]; rfl⟩
theorem GR {fp : List Addr} {h : Heap} {p : Addr × Obj} (hp : p ∈ uw fp h) : p.1 ∈ fp /\ h.get? p.1 = some p.2 := by
 obtain ⟨b, hb, e⟩ := List.mem_filterMap.mp hp
 cases q : h.get? b with
 | none => rw [q] at e; cases e
 | some o =>
   rw [q] at e
   have e' : (b, o) = p := afv e
   subst e'
   exact ⟨hb, q⟩
theorem Inv.pinned {pins : List (Addr × Obj)} {σ : St} {H : Hp} {s : Shared} {fp : List Addr} (I : Inv X pins σ H s) (hf : ∀ b ∈ fp, gT X pins H b) (ho : ∀ b ∈ fp, ∃ o, s.heap.get? b = some o /\ ∀ v, o.data ≠ .cell v) : Inv X (pins ++ uw fp s.heap) σ H s :=
 I.tH fun p hp => (afm.mp hp).elim (fun z => I.pin p (ae8 _ z)) fun z => by
   obtain ⟨hb, e⟩ := GR z
   obtain ⟨f0, f1, f2, _⟩ := hf p.1 hb
   obtain ⟨o, e', d⟩ := ho p.1 hb
   rw [e] at e'; cases e'
   exact ⟨e, f0, f1, f2, d⟩
theorem Inv.lC {pins pl : List (Addr × Obj)} {σ : St} {H : Hp} {s : Shared} (I : Inv X (pins ++ pl) σ H s) : Inv X pins σ H s := I.tH fun p hp => I.pin p (ae8 _ (afl _ hp))
theorem Je {iter : Expr} {body : List Stmt} {wi : TI} {g : TG} {tb : TS} {pos : Pos} (hp : PassesOwn (model X.prog X.w) X.A X.env X.xe) (hc : X.calm = true) (hi : PI X tg iter wi) (hg : PG X tg g) (hb : Dm X body tb)
   (hs : ∀ x, foldedSetIterable iter X.env x = pure x := by intro _; rfl) : PS X (.For tg iter body [] pos) (aaD wi g tb) := by
 intro pins s σ H D I h
 refine wpAny_For (dU (hi pins s σ H _ I h) fun v s1 h1 => dU h1 fun ZG s2 h2 => ?_) hs
 obtain ⟨it, fp, tn, J, H2, e, I2, T, st2, f2, W, ⟨m0, w0⟩, turn⟩ := h2
 subst e
 have stat : ∀ {H' : Hp}, (∀ b ∈ fp, H' b = none) -> ∀ b ∈ fp, gT X pins H' b := fun hn b hb => ⟨hn b hb, (f2 b hb).2⟩
 refine codeAny_forLoop_any (fun n s' => ∃ i σ' H', Inv X pins σ' H' s' /\ tn i s'.heap /\ (∀ b ∈ fp, H' b = none) /\ W i n σ' H') ?_ m0 ⟨0, σ, H2, I2, st2, fun b hb => (f2 b hb).1, w0⟩
 rintro n s3 ⟨i, σ3, H3, I3, Xq, fr3, w3⟩
 rcases turn i n σ3 H3 w3 with ⟨stop, qn⟩ | ⟨go, N, hN, step⟩
 . refine agC hp (dU (T.done X rfl rfl rfl hc i pins s3 σ3 H3 X.xe I3 (stat fr3) Xq stop) fun r s4 zz => ?_)
   obtain ⟨hr, I4⟩ := zz
   subst hr
   exact wpAny_execs_nil ⟨σ3, H3, I4, qn⟩
 . refine agC hp (dU (T.item X rfl rfl rfl hc i pins s3 σ3 H3 X.xe I3 (stat fr3) Xq go) fun r s4 zz => ?_)
   obtain ⟨u, hr, h4⟩ := zz
   subst hr
   refine agC hp (dU h4 fun _ s5 zz => ?_)
   obtain ⟨x, H5, I5, r5, y5, WR, ZI⟩ := zz
   have I5' := I5.pinned (stat ZI) (T.obj _ _ WR)
   refine agC hp (dU (hg _ s5 σ3 H5 x u _ I5' r5 (step x H5 y5)) fun _ s6 zz => ?_)
   obtain ⟨σ6, H6, I6, q6⟩ := zz
   refine agC hp (dU (hb _ s6 σ6 H6 _ I6 q6) fun f s7 q7 => ?_)
   have again : ∀ {σ7 : St} {H7 : Hp}, Inv X (pins ++ uw fp s5.heap) σ7 H7 s7 -> N σ7 H7 -> ∃ m, m < n /\ ∃ i σ' H', Inv X pins σ' H' s7 /\ tn i s7.heap /\ (∀ b ∈ fp, H' b = none) /\ W i m σ' H' := fun {σ7 H7} I7 n7 => by
     obtain ⟨m', hm, w7⟩ := hN σ7 H7 n7
     refine ⟨m', hm, i + 1, σ7, H7, I7.lC, T.keep _ _ _ WR fun b hb o e => (I7.pin (b, o) (ae8 _ (ae8 _ (gu hb e)))).1, fun b hb => ?_, w7⟩
     obtain ⟨o, e, d⟩ := T.obj _ _ WR b hb
     exact (I7.pin (b, o) (ae8 _ (ae8 _ (gu hb e)))).2.1
   cases f with
   | next => obtain ⟨σ7, H7, I7, n7⟩ := q7; exact again I7 n7
   | cont => obtain ⟨σ7, H7, I7, n7⟩ := q7; exact again I7 n7
   | brk => obtain ⟨σ7, H7, I7, q7⟩ := q7; exact ⟨σ7, H7, I7.lC, q7⟩
   | ret v => obtain ⟨x7, σ7, H7, I7, r7, q7⟩ := q7; exact ⟨x7, σ7, H7, I7.lC, r7, q7⟩
end
noncomputable abbrev R2 := V -> V -> Hp -> VK -> Prop
noncomputable def qV (X : Cx) (f : Value -> Value -> Sem Value) (r : R2) : Prop :=
 ∀ (pins : List (Addr × Obj)) (s : Shared) (σ : St) (H : Hp) (x y : V) (v u : Value) (Q : VK), Inv X pins σ H s -> RelV x v -> RelV y u -> r x y H Q →
   wpAny (model X.prog X.w) X.A (f v u) (EP X pins σ Q) X.xe s
noncomputable def UnR (X : Cx) (f : Value -> Sem Value) (r : V -> Hp -> VK -> Prop) : Prop :=
 ∀ (pins : List (Addr × Obj)) (s : Shared) (σ : St) (H : Hp) (x : V) (v : Value) (Q : VK), Inv X pins σ H s -> RelV x v -> r x H Q →
   wpAny (model X.prog X.w) X.A (f v) (EP X pins σ Q) X.xe s
noncomputable def pK (X : Cx) (f : Value) (r : List V -> Hp -> VK -> Prop) : Prop :=
 ∀ (pins : List (Addr × Obj)) (s : Shared) (σ : St) (H : Hp) (xs : List V) (us : List Value) (Q : VK), Inv X pins σ H s -> Vals xs us -> r xs H Q →
   wpAny (model X.prog X.w) X.A (call f us) (EP X pins σ Q) X.xe s
noncomputable def ZJ (r : R2) (ta tb : TE) : TE := fun σ H Q => ta σ H fun x H1 => tb σ H1 fun y H2 => r x y H2 Q
noncomputable def tUn (r : V -> Hp -> VK -> Prop) (ta : TE) : TE := fun σ H Q => ta σ H fun x H1 => r x H1 Q
noncomputable def rI (C : Int -> Int -> Prop) (g : Int -> Int -> V) : R2 := fun x y H Q => ∃ i j, x = .int i /\ y = .int j /\ C i j /\ Q (g i j) H
noncomputable def T4 (g : Int -> Int -> V) : R2 := fun x y H Q => ∃ i j, x = .int i /\ y = .int j /\ Q (g i j) H
noncomputable def rU (g : Int -> V) : V -> Hp -> VK -> Prop := fun x H Q => ∃ i, x = .int i /\ Q (g i) H
section
variable {X : Cx} {a b c : Expr} {ta tb tc : TE} {pos : Pos}
theorem T5 (ha : PE X a ta) (hb : PE X b tb) {pins : List (Addr × Obj)} {s : Shared} {σ : St} {H : Hp} {R : V -> V -> Hp -> Prop} (I : Inv X pins σ H s)
   (h : ta σ H fun x H1 => tb σ H1 fun y H2 => R x y H2) {Q : Value -> Shared -> Prop} {f : Value -> Value -> Sem Value}
   (hf : ∀ v u s2 x y H2, Inv X pins σ H2 s2 -> RelV x v -> RelV y u -> R x y H2 -> wpAny (model X.prog X.w) X.A (f v u) Q X.xe s2) :
   wpAny (model X.prog X.w) X.A (eval a X.env) (fun v s₁ => wpAny (model X.prog X.w) X.A (eval b X.env) (fun u s₂ => wpAny (model X.prog X.w) X.A (f v u) Q X.xe s₂) X.xe s₁) X.xe s := by
 refine dU (ha pins s σ H _ I h) fun v s1 zz => ?_
 obtain ⟨x, H1, I1, r1, q1⟩ := zz
 refine dU (hb pins s1 σ H1 _ I1 q1) fun u s2 zz => ?_
 obtain ⟨y, H2, I2, r2, q2⟩ := zz
 exact hf v u s2 x y H2 I2 r1 r2 q2
theorem Jf {op : Operator} {r : R2} (ho : qV X (binaryOp op) r) (ha : PE X a ta) (hb : PE X b tb) : PE X (.BinOp a op b pos) (ZJ r ta tb) := by
 intro pins s σ H Q I h
 exact wpAny_BinOp (T5 ha hb I h fun v u s2 x y H2 I2 rx ry q => ho pins s2 σ H2 x y v u Q I2 rx ry q)
theorem Xr {op : UnaryOp} {r : V -> Hp -> VK -> Prop} (ho : UnR X (unaryOp op) r) (ha : PE X a ta) : PE X (.UnaryOp op a pos) (tUn r ta) := by
 intro pins s σ H Q I h
 exact UnaryOp_ (dU (ha pins s σ H _ I h) fun v s1 ⟨x, H1, I1, r1, q1⟩ => ho pins s1 σ H1 x v Q I1 r1 q1)
theorem ZK {f : Value -> Value -> Sem Value} {C : Int -> Int -> Prop} {g : Int -> Int -> Int}
   (rule : ∀ (i j : Int) (t u : Tok) (s : Shared) (Q : Value -> Shared -> Prop) (E : Value -> Shared -> Prop), C i j -> Q (.int (g i j) s.toks) { s with toks := s.toks + 1 } -> wpAny (model X.prog X.w) X.A (f (.int i t) (.int j u)) Q E s) :
   qV X f (rI C fun i j => .int (g i j)) := by
 intro pins s σ H x y v u Q I rx ry h
 obtain ⟨i, j, rfl, rfl, hc, q⟩ := h
 obtain ⟨t, rfl⟩ := rx
 obtain ⟨t', rfl⟩ := ry
 exact rule i j t t' s _ _ hc ⟨.int (g i j), H, I.tok _, ⟨_, rfl⟩, q⟩
theorem Xs {f : Value -> Value -> Sem Value} {g : Int -> Int -> Int}
   (rule : ∀ (i j : Int) (t u : Tok) (s : Shared) (Q : Value -> Shared -> Prop) (E : Value -> Shared -> Prop), Q (.int (g i j) s.toks) { s with toks := s.toks + 1 } -> wpAny (model X.prog X.w) X.A (f (.int i t) (.int j u)) Q E s) :
   qV X f (T4 fun i j => .int (g i j)) := by
 intro pins s σ H x y v u Q I rx ry h
 obtain ⟨i, j, rfl, rfl, q⟩ := h
 obtain ⟨t, rfl⟩ := rx
 obtain ⟨t', rfl⟩ := ry
 exact rule i j t t' s _ _ ⟨.int (g i j), H, I.tok _, ⟨_, rfl⟩, q⟩
theorem T6 {f : Value -> Value -> Sem Value} {g : Int -> Int -> Bool}
   (rule : ∀ (i j : Int) (t u : Tok) (s : Shared) (Q : Value -> Shared -> Prop) (E : Value -> Shared -> Prop), Q (.bool (g i j)) s -> wpAny (model X.prog X.w) X.A (f (.int i t) (.int j u)) Q E s) :
   qV X f (T4 fun i j => .bl (g i j)) := by
 intro pins s σ H x y v u Q I rx ry h
 obtain ⟨i, j, rfl, rfl, q⟩ := h
 obtain ⟨t, rfl⟩ := rx
 obtain ⟨t', rfl⟩ := ry
 exact rule i j t t' s _ _ ⟨.bl (g i j), H, I, rfl, q⟩
noncomputable def Xu (i j : Int) : Prop := 0 < j /\ j < 1073741824
noncomputable def Xv (i j : Int) : Prop := 0 <= j /\ j <= 1000000 /\ i.natAbs < 2 ^ 64
noncomputable def MX (i j : Int) : Prop := (-(2 ^ 64) < i /\ i < 2 ^ 64) \/ (-(2 ^ 64) < j /\ j < 2 ^ 64)
theorem MX.ok {i j : Int} (h : MX i j) : IntMulOk i j := by
 rcases h with ⟨h1, h2⟩ | ⟨h1, h2⟩
 . exact .of_left (intBits_le_64 h1 h2)
 . exact .of_right (intBits_le_64 h1 h2)
theorem T7 : qV X (binaryOp .Add) (T4 fun i j => .int (i + j)) := Xs fun _ _ _ _ _ _ _ q => add_int q
theorem T8 : qV X (binaryOp .Sub) (T4 fun i j => .int (i - j)) := Xs fun _ _ _ _ _ _ _ q => sub_int q
theorem T9 : qV X (binaryOp .Mult) (rI MX fun i j => .int (i * j)) := ZK fun _ _ _ _ _ _ _ hc q => mul_int q hc.ok
theorem MY : qV X (binaryOp .FloorDiv) (rI Xu fun i j => .int (i / j)) := ZK fun i j _ _ _ _ _ hc q => by
 have h1 : (0 : Int) < j := hc.1
 have h2 : j < 1073741824 := hc.2
 exact floordiv_int (by omega) (by rw [Int.fdiv_eq_ediv_of_nonneg i (by omega)]; exact q) (.inl (PyProof.noPylong_small (by omega)))
theorem Ua : qV X (binaryOp .Mod) (rI (fun _ j => 0 < j) fun i j => .int (i % j)) := ZK fun i j _ _ _ _ _ hc q => by
 have h1 : (0 : Int) < j := hc
 exact mod_int' (by omega) (by rw [Int.fmod_eq_emod_of_nonneg i (by omega)]; exact q)
theorem Ub : qV X (binaryOp .Pow) (rI Xv fun i j => .int (i ^ j.toNat)) := ZK fun _ _ _ _ _ _ _ hc q => pow_int_small hc.1 hc.2.1 hc.2.2 q
theorem unI {f : Value -> Sem Value} {g : Int -> Int}
   (rule : ∀ (i : Int) (t : Tok) (s : Shared) (Q : Value -> Shared -> Prop) (E : Value -> Shared -> Prop), Q (.int (g i) s.toks) { s with toks := s.toks + 1 } -> wpAny (model X.prog X.w) X.A (f (.int i t)) Q E s) :
   UnR X f (rU fun i => .int (g i)) := by
 intro pins s σ H x v Q I rx h
 obtain ⟨i, rfl, q⟩ := h
 obtain ⟨t, rfl⟩ := rx
 exact rule i t s _ _ ⟨.int (g i), H, I.tok _, ⟨_, rfl⟩, q⟩
theorem Uc : UnR X (unaryOp .USub) (rU fun i => .int (-i)) := unI fun _ _ _ _ _ q => neg_int q
end
noncomputable def Xw : V -> V -> Bool
 | .non, .non => true | .non, .int _ => true | .int _, .non => true | .non, .bl _ => true | .bl _, .non => true | .non, .str _ => true | .str _, .non => true
 | .int _, .int _ => true | .bl _, .bl _ => true | .str _, .str _ => true | .IK _, .IK _ => true
 | .int _, .str _ => true | .str _, .int _ => true | .bl _, .str _ => true | .str _, .bl _ => true
 | _, _ => false
noncomputable def rEq : R2 := fun x y H Q => Xw x y = true /\ Q (.bl (decide (x = y))) H
noncomputable def rNe : R2 := fun x y H Q => Xw x y = true /\ Q (.bl (!decide (x = y))) H
theorem Fy {i j : Int} : decide (V.int i = V.int j) = (i == j) := by
 rw [Bool.eq_iff_iff]
 simp
theorem Jg {i j : Bool} : decide (V.bl i = V.bl j) = (i == j) := by
 rw [Bool.eq_iff_iff]
 simp
theorem Fz {i j : Str} : decide (V.str i = V.str j) = (i == j) := by
 rw [Bool.eq_iff_iff]
 simp
theorem FD {i j : Array UInt8} : decide (V.IK i = V.IK j) = (i.toList == j.toList) := by
 rw [Bool.eq_iff_iff]
 cases i
 cases j
 simp
section
variable {X : Cx} {a b c : Expr} {ta tb tc : TE} {pos : Pos}
theorem bU {pins : List (Addr × Obj)} {σ : St} {H : Hp} {s : Shared} {Q : VK} {k k' : Bool} (I : Inv X pins σ H s) (q : Q (.bl k) H) (e : k = k') : EP X pins σ Q (.bool k') s := by
 subst e
 exact ⟨.bl k, H, I, rfl, q⟩
theorem Jh : qV X (compareOp .Eq) rEq := by
 intro pins s σ H x y v u Q I rx ry h
 obtain ⟨hs, q⟩ := h
 cases x with
 | non =>
   cases rx
   cases y with
   | non => cases ry; exact PySem.EqNone.eq_none_none (bU I q (by simp))
   | bl j => cases ry; exact PySem.EqNone.eq_none_bool (bU I q (by simp))
   | int j => obtain ⟨t', rfl⟩ := ry; exact PySem.EqNone.eq_none_int (bU I q (by simp))
   | str j => obtain ⟨t', rfl⟩ := ry; exact PySem.EqNone.eq_none_str (bU I q (by simp))
   | _ => exact absurd (show false = true from hs) afr
 | bl i =>
   cases rx
   cases y with
   | non => cases ry; exact PySem.EqNone.eq_bool_none (bU I q (by simp))
   | bl j => cases ry; exact eq_bool (bU I q Jg)
   | str j => obtain ⟨t', rfl⟩ := ry; exact PySem.EqMixed.eq_bool_str (bU I q (by simp))
   | _ => exact absurd (show false = true from hs) afr
 | int i =>
   obtain ⟨t, rfl⟩ := rx
   cases y with
   | non => cases ry; exact PySem.EqNone.eq_int_none (bU I q (by simp))
   | int j => obtain ⟨t', rfl⟩ := ry; exact eq_int (bU I q Fy)
   | str j => obtain ⟨t', rfl⟩ := ry; exact PySem.EqMixed.eq_int_str (bU I q (by simp))
   | _ => exact absurd (show false = true from hs) afr
 | str i =>
   obtain ⟨t, rfl⟩ := rx
   cases y with
   | non => cases ry; exact PySem.EqNone.eq_str_none (bU I q (by simp))
   | bl j => cases ry; exact PySem.EqMixed.eq_str_bool (bU I q (by simp))
   | int j => obtain ⟨t', rfl⟩ := ry; exact PySem.EqMixed.eq_str_int (bU I q (by simp))
   | str j => obtain ⟨t', rfl⟩ := ry; exact eq_str (bU I q Fz)
   | _ => exact absurd (show false = true from hs) afr
 | IK i =>
   obtain ⟨t, rfl⟩ := rx
   cases y with
   | IK j => obtain ⟨t', rfl⟩ := ry; exact PySem.W.eq_bytes (bU I q FD)
   | _ => exact absurd (show false = true from hs) afr
 | _ => cases y <;> exact absurd (show false = true from hs) afr
theorem Xx : qV X (compareOp .NotEq) rNe := by
 intro pins s σ H x y v u Q I rx ry h
 obtain ⟨hs, q⟩ := h
 cases x with
 | non =>
   cases rx
   cases y with
   | non => cases ry; exact PySem.EqNone.ne_none_none (bU I q (by simp))
   | bl j => cases ry; exact PySem.EqNone.ne_none_bool (bU I q (by simp))
   | int j => obtain ⟨t', rfl⟩ := ry; exact PySem.EqNone.ne_none_int (bU I q (by simp))
   | str j => obtain ⟨t', rfl⟩ := ry; exact PySem.EqNone.ne_none_str (bU I q (by simp))
   | _ => exact absurd (show false = true from hs) afr
 | bl i =>
   cases rx
   cases y with
   | non => cases ry; exact PySem.EqNone.ne_bool_none (bU I q (by simp))
   | bl j => cases ry; exact ne_bool (bU I q (congrArg not Jg))
   | str j => obtain ⟨t', rfl⟩ := ry; exact PySem.EqMixed.ne_bool_str (bU I q (by simp))
   | _ => exact absurd (show false = true from hs) afr
 | int i =>
   obtain ⟨t, rfl⟩ := rx
   cases y with
   | non => cases ry; exact PySem.EqNone.ne_int_none (bU I q (by simp))
   | int j => obtain ⟨t', rfl⟩ := ry; exact ne_int (bU I q (congrArg not Fy))
   | str j => obtain ⟨t', rfl⟩ := ry; exact PySem.EqMixed.ne_int_str (bU I q (by simp))
   | _ => exact absurd (show false = true from hs) afr
 | str i =>
   obtain ⟨t, rfl⟩ := rx
   cases y with
   | non => cases ry; exact PySem.EqNone.ne_str_none (bU I q (by simp))
   | bl j => cases ry; exact PySem.EqMixed.ne_str_bool (bU I q (by simp))
   | int j => obtain ⟨t', rfl⟩ := ry; exact PySem.EqMixed.ne_str_int (bU I q (by simp))
   | str j => obtain ⟨t', rfl⟩ := ry; exact ne_str (bU I q (congrArg not Fz))
   | _ => exact absurd (show false = true from hs) afr
 | IK i =>
   obtain ⟨t, rfl⟩ := rx
   cases y with
   | IK j => obtain ⟨t', rfl⟩ := ry; exact PySem.W.ne_bytes (bU I q (congrArg not FD))
   | _ => exact absurd (show false = true from hs) afr
 | _ => cases y <;> exact absurd (show false = true from hs) afr
theorem Xy : qV X (compareOp .Lt) (T4 fun i j => .bl (decide (i < j))) := T6 fun _ _ _ _ _ _ _ q => lt_int q
theorem Xz : qV X (compareOp .LtE) (T4 fun i j => .bl (decide (i <= j))) := T6 fun _ _ _ _ _ _ _ q => le_int q
theorem XA : qV X (compareOp .Gt) (T4 fun i j => .bl (decide (j < i))) := T6 fun _ _ _ _ _ _ _ q => gt_int q
theorem ki (b : Expr) {op : CmpOp} (h : op ≠ .In := by decide) (h2 : op ≠ .NotIn := by decide) : behindInMarks op b = false := by
 have e1 : (op == CmpOp.In) = false := by cases op <;> first | rfl | exact absurd rfl h
 have e2 : (op == CmpOp.NotIn) = false := by cases op <;> first | rfl | exact absurd rfl h2
 cases b <;> simp [behindInMarks, e1, e2]
theorem mE {op : CmpOp} {r : R2} (ho : qV X (compareOp op) r) (ha : PE X a ta) (hb : PE X b tb) (hm : behindInMarks op b = false) : PE X (.Compare a [op] [b] pos) (ZJ r ta tb) := by
 intro pins s σ H Q I h
 exact wpAny_Compare1 (T5 ha hb I h fun v u s2 x y H2 I2 rx ry q => ho pins s2 σ H2 x y v u Q I2 rx ry q) hm
noncomputable def XC (t : TE) : TT := fun σ H Q => t σ H fun x H' => ∃ k, x = .bl k /\ Q k H'
theorem mF {op : CmpOp} {r : R2} (ho : qV X (compareOp op) r) (ha : PE X a ta) (hb : PE X b tb) (hm : behindInMarks op b = false) : PT X (.Compare a [op] [b] pos) (XC (ZJ r ta tb)) := by
 intro pins s σ H Q I h
 refine wpAny_isTrue_Compare1 (dU (ha pins s σ H _ I h) fun v s1 ⟨x, H1, I1, r1, q1⟩ => dU (hb pins s1 σ H1 _ I1 q1) fun u s2 ⟨y, H2, I2, r2, q2⟩ =>
   dU (ho pins s2 σ H2 x y v u _ I2 r1 r2 q2) fun c s3 ⟨z, H3, I3, r3, k, e, q3⟩ => ?_) hm
 subst e
 cases r3
 exact agP ⟨H3, I3, q3⟩
theorem ux : (sizeLine : Nat) < 2 ^ 63 := by rw [afP]; decide
theorem Dq : qV X (binaryOp .Add) (fun x y H Q => ∃ i j, x = .str i /\ y = .str j /\ i.length + j.length <= sizeLine /\ Q (.str (i ++ j)) H) := by
 intro pins s σ H x y v u Q I rx ry h
 obtain ⟨i, j, rfl, rfl, hz, q⟩ := h
 obtain ⟨t, rfl⟩ := rx
 obtain ⟨t', rfl⟩ := ry
 exact add_str (fun t' tk => ⟨.str (i ++ j), H, I.tok _, ⟨_, rfl⟩, q⟩) hz
theorem vals1 {x : V} {us : List Value} (r : Vals [x] us) : ∃ u, us = [u] /\ RelV x u := by
 cases r with
 | cons r1 r2 => cases r2; exact ⟨_, rfl, r1⟩
theorem GU : pK X (.type "int") (fun xs H Q => (∃ i, xs = [.int i] /\ Q (.int i) H) \/ ∃ k, xs = [.bl k] /\ Q (.int (if k then 1 else 0)) H) := by
 intro pins s σ H xs us Q I r h
 rcases h with ⟨i, rfl, q⟩ | ⟨k, rfl, q⟩
 . obtain ⟨u, rfl, t, rfl⟩ := vals1 r
   exact call_int_int ⟨.int i, H, I, ⟨_, rfl⟩, q⟩
 . obtain ⟨u, rfl, r1⟩ := vals1 r
   cases r1
   exact call_int_bool ⟨.int (if k then 1 else 0), H, I.tok _, ⟨_, rfl⟩, q⟩
theorem yj : pK X (.type "str") (fun xs H Q => ∃ i, xs = [.int i] /\ i.natAbs.log2 < 1920 /\ Q (.str (toString i)) H) := by
 intro pins s σ H xs us Q I r h
 obtain ⟨i, rfl, hz, q⟩ := h
 obtain ⟨u, rfl, t, rfl⟩ := vals1 r
 exact PySem.P.str_of_int hz ⟨.str _, H, I.tok _, ⟨_, rfl⟩, q⟩
end
structure GV (h : Heap) (x dx C : Addr) (mA : Str -> Option Value) : Prop where
 obj : h.get? x = some (PySem.W.instObj C dx)
 ns : h.Ns1 dx mA
 ne : dx ≠ x
theorem GW {h : Heap} {dx : Addr} {mA : Str -> Option Value} (n : h.Ns1 dx mA) : ∃ od, h.get? dx = some od /\ ∀ name, PySem.W.lookIn name od = some (mA name) := by
 obtain ⟨o, es, ep, ho, hd, hk, _, hm⟩ := n
 refine ⟨o, ho, fun name => ?_⟩
 have e := hm name
 unfold nsFind findBy at e
 rw [← Array.find?_toList] at e
 unfold PySem.W.lookIn
 rw [hd]
 dsimp only
 split
 . rename_i y q
   rw [q] at e
   exact congrArg some e
 . rename_i q
   rw [q] at e
   have a : es.toList.any (·.refKey) = false := by
     rw [List.any_eq_false]
     intro y hy
     obtain ⟨z, t, aaG⟩ := hk y (Array.mem_toList_iff.mp hy)
     simp [DictEntry.refKey, aaG]
   have a' : ¬ es.toList.any (·.refKey) = true := by rw [a]; exact afr
   rw [ae9 a']
   exact congrArg some e
theorem GV.look {h : Heap} {x dx C : Addr} {mA : Str -> Option Value} (I : GV h x dx C mA) : ∃ od, PySem.W.InstAt h x (PySem.W.instObj C dx) C (some od) /\ ∀ name, PySem.W.lookIn name od = some (mA name) :=
 let ⟨od, ho, hl⟩ := GW I.ns
 ⟨od, ⟨I.obj, rfl, rfl, ho⟩, hl⟩
section
variable {prog : Program} {w : World} {A : Around} {E : Value -> Shared -> Prop} {s : Shared} {K : PySem.W.Frag} {x dx C f : Addr} {mA : Str -> Option Value} {name : Str} {v : Value}
theorem get_map {expr : Bool} {Q : Value -> Shared -> Prop} (X : K.In s.heap) (I : GV s.heap x dx C mA) (hg : PySem.W.plainGet K C name = true) (hh : PySem.W.hasDictIn K C = true)
   (ha : PySem.W.findIn K (.ref C) name = some none) (hv : mA name = some v) (hv' : PySem.W.handedIn v = true) (h : Q v { s with toks := s.toks + 1 }) :
   wpAny (model prog w) A (getAttr (.ref x) name expr) Q E s := by
 obtain ⟨od, J, hl⟩ := I.look
 exact PySem.W.get_value X J (PySem.W.plainGet_of hg).1 (PySem.W.findObj_own hh ha rfl (by rw [hl, hv])) hv' h
theorem MZ {ns : List Str} {Q : Unit -> Shared -> Prop} (X : K.In s.heap) (I : GV s.heap x dx C mA)
   (hs : PySem.W.findIn K (.ref C) "__setattr__" = some (some (.builtin "object.__setattr__"))) (hp : PySem.W.plainOver K C = true) (ht : PySem.W.takerIn K C name = some none) (hh : PySem.W.hasDictIn K C = true)
   (hw : PySem.Within mA ns) (hsz : ns.length <= sizeLine)
   (h : ∀ h', GV h' x dx C (fun y => if y = name then some v else mA y) -> Heap.SameBut dx s.heap h' -> Q () { s with heap := h', toks := s.toks + 2 }) :
   wpAny (model prog w) A (setAttr (.ref x) name v) Q E s := by
 obtain ⟨od, J, hl⟩ := I.look
 refine PySem.W.set_plain X J hs (PySem.W.osa_open (s := { s with toks := s.toks + 1 }) (r := none) X J hp ht fun b => ?_)
 obtain ⟨cd, hc, ML⟩ := PySem.W.any_some hh
 have hx : s.heap.get? x = some ⟨.ref C, some dx, .plain, #[]⟩ := I.obj
 refine afs (afV (afs (afs (wpAny_loadPart hx (afs (PySem.W.Looks.here (s := { s with toks := s.toks + 1 }) (PySem.W.looks_clsIn X hc) ?_))))))
 rw [ML]
 refine afV (a := some dx) (afs (afV (afs ?_)))
 refine wpAny_nsSet1 (s := { s with toks := s.toks + 1 }) I.ns fun h' ZL GQ => ?_
 obtain ⟨oD, esD, epD, hoD, hdD, hcD⟩ := ZL.count (PySem.Within.cons name v hw)
 refine afs (wpAny_lookBehind hoD (by rw [hdD]; exact pastItsLine_dict (afU hcD (by rw [afI]; omega))) ?_)
 exact afV (h _ ⟨(GQ.2 _ (Ne.symm I.ne)).trans I.obj, ZL, I.ne⟩ GQ)
theorem Ji {R : Result -> Shared -> Prop} {vs : List Value} {kw : List (Str × Value)} (X : K.In s.heap) (hm : PySem.W.makesIn K C = true)
   (hi : PySem.W.findIn K (.ref C) "__init__" = some (some (.ref f))) (hf : PySem.W.typeIn K (.ref f) = some (.type "function"))
   (h : codeAny (model prog w) (A.under (.builtin "type.__call__" ⟨.ref C :: vs, kw⟩)) (.call (.ref f) ⟨.ref (s.heap.objs.size + 1) :: vs, kw⟩) (PySem.W.InitBack (s.heap.objs.size + 1) R)
     { s with heap := (s.heap.push PySem.W.emptyDict).push (PySem.W.instObj C s.heap.objs.size) }) :
   codeAny (model prog w) A (.call (.ref C) ⟨vs, kw⟩) R s := by
 obtain ⟨hh, g, d, t, os⟩ := s
 exact PySem.W.make_core (PySem.W.makes_of X hm) (PySem.W.looks_findIn X hi) (fun self => PySem.W.bind_fn X self hf) (.inl rfl) h
end
noncomputable def iF (f : Str) (v : V) : List (Str × V) -> List (Str × V)
 | [] => [(f, v)]
 | (g, x) :: r => if g = f then (g, v) :: r else (g, x) :: iF f v r
theorem sr (f g : Str) (v : V) : ∀ fs : List (Str × V), (iF f v fs).lookup g = if g = f then some v else fs.lookup g
 | [] => by
   show List.lookup g [(f, v)] = _
   by_cases h : g = f
   . have hb : (g == f) = true := beq_iff_eq.mpr h
     simp only [List.lookup, hb, afa h]
   . have hb : (g == f) = false := agv.mpr h
     simp only [List.lookup, hb, ae9 h]
 | (k, x) :: r => by
   have ih := sr f g v r
   rw [show iF f v ((k, x) :: r) = (if k = f then (k, v) :: r else (k, x) :: iF f v r) from rfl]
   by_cases hk : k = f
   . rw [afa hk]
     by_cases h : g = k
     . have hb : (g == k) = true := beq_iff_eq.mpr h
       simp only [List.lookup, hb, afa (h.trans hk)]
     . have hb : (g == k) = false := agv.mpr h
       simp only [List.lookup, hb, ae9 (fun e : g = f => h (e.trans hk.symm))]
   . rw [ae9 hk]
     by_cases h : g = k
     . have hb : (g == k) = true := beq_iff_eq.mpr h
       simp only [List.lookup, hb, ae9 (fun e : g = f => hk (h.symm.trans e))]
     . have hb : (g == k) = false := agv.mpr h
       simp only [List.lookup, hb]
       exact ih
theorem qW (f : Str) (v : V) : ∀ fs : List (Str × V), f ∈ (iF f v fs).map (·.1) /\ ∀ g, g ∈ fs.map (·.1) -> g ∈ (iF f v fs).map (·.1)
 | [] => ⟨by simp [iF], fun g h => by simp at h⟩
 | (k, x) :: r => by
   obtain ⟨i1, i2⟩ := qW f v r
   rw [show iF f v ((k, x) :: r) = (if k = f then (k, v) :: r else (k, x) :: iF f v r) from rfl]
   by_cases hk : k = f
   . rw [afa hk]
     subst hk
     exact ⟨by simp, fun g h => by simpa using h⟩
   . rw [ae9 hk]
     refine ⟨?_, fun g h => ?_⟩
     . rw [afx]
       exact afd _ i1
     . rw [afx] at h ⊢
       rcases afe.mp h with e | e
       . exact afe.mpr (.inl e)
       . exact afd _ (i2 g e)
theorem su (f : Str) (v : V) : ∀ fs : List (Str × V), (iF f v fs).length <= fs.length + 1
 | [] => by simp [iF]
 | (k, x) :: r => by
   have ih := su f v r
   rw [show iF f v ((k, x) :: r) = (if k = f then (k, v) :: r else (k, x) :: iF f v r) from rfl]
   by_cases hk : k = f
   . rw [afa hk, afI, afI]; omega
   . rw [ae9 hk, afI, afI]; omega
theorem wk.some_of {v : V} {o : Option Value} (r : wk (some v) o) : ∃ u, o = some u /\ RelV v u := by
 cases o with
 | none => exact (show False from r).elim
 | some u => exact ⟨u, rfl, r⟩
theorem GX {v : V} {u : Value} (r : RelV v u) : PySem.W.handedIn u = true := by
 cases v with
 | non => cases (show u = Value.none from r); rfl
 | bl b => cases (show u = Value.bool b from r); rfl
 | int i => obtain ⟨t, e⟩ := (show ∃ t, u = Value.int i t from r); cases e; rfl
 | str x => obtain ⟨t, e⟩ := (show ∃ t, u = Value.str x t from r); cases e; rfl
 | IK b => obtain ⟨t, e⟩ := (show ∃ t, u = Value.bytes b t from r); cases e; rfl
 | Zw b => obtain ⟨t, e⟩ := (show ∃ t, u = Value.float b t from r); cases e; rfl
 | ref a => cases (show u = Value.ref a from r); rfl
 | ty n => cases (show u = Value.type n from r); rfl
section
variable {P : Program} {w : World} {H H' : Hp} {h h' : Heap} {a C dx : Addr} {fs fs' : List (Str × V)}
theorem FE (dw : oA P w H h) (e : H a = some (.ins C dx fs)) : ∃ mA, GV h a dx C mA /\ (∀ f, wk (fs.lookup f) (mA f)) /\ PySem.Within mA (fs.map (·.1)) /\ fs.length <= 1000 /\ H dx = some (.own a) := by
 obtain ⟨d, z, ne, ob, mA, n, r, q⟩ := (show d9 P w H h a (.ins C dx fs) from dw a _ e)
 exact ⟨mA, ⟨ob, n, ne⟩, r, q, z, d⟩
end
structure wc (K : PySem.W.Frag) (C : Addr) : Prop where
 pg : PySem.W.plainGet K C Str.empty = true
 hd : PySem.W.hasDictIn K C = true
 po : PySem.W.plainOver K C = true
 sa : PySem.W.findIn K (.ref C) "__setattr__" = some (some (.builtin "object.__setattr__"))
theorem wc.get {K : PySem.W.Frag} {C : Addr} (c : wc K C) (f : Str) : PySem.W.plainGet K C f = true := c.pg
noncomputable def bB (K : PySem.W.Frag) (C : Addr) (f : Str) : Prop := PySem.W.findIn K (.ref C) f = some none
theorem bB.XD {K : PySem.W.Frag} {C : Addr} {f : Str} (n : bB K C f) : PySem.W.takerIn K C f = some none := by
 unfold PySem.W.takerIn
 rw [show PySem.W.findIn K (.ref C) f = some none from n]
 rfl
section
variable {X : Cx} {pins : List (Addr × Obj)} {σ : St} {H : Hp} {s : Shared} {a C dx : Addr} {fs : List (Str × V)} {f : Str} {v : V} {A : Around} {E : Value -> Shared -> Prop}
theorem Dr {b : Bool} {Q : Value -> Shared -> Prop} (I : Inv X pins σ H s) (e : H a = some (.ins C dx fs)) (c : wc X.K C) (n : bB X.K C f) (l : fs.lookup f = some v)
   (h : ∀ u s', Inv X pins σ H s' -> RelV v u -> Q u s') : wpAny (model X.prog X.w) A (getAttr (.ref a) f b) Q E s := by
 obtain ⟨mA, O, r, _, _, _⟩ := FE I.dw e
 obtain ⟨u, hu, ru⟩ := wk.some_of (v := v) (o := mA f) (by rw [← l]; exact r f)
 exact get_map I.Bd O (c.get f) c.hd n hu (GX ru) (h u _ (I.tok _) ru)
theorem Ds {y : V} {u : Value} {Q : Unit -> Shared -> Prop} (I : Inv X pins σ H s) (e : H a = some (.ins C dx fs)) (c : wc X.K C) (n : bB X.K C f) (hl : fs.length < 1000) (ry : RelV y u)
   (h : ∀ s', Inv X pins σ (upd H a (.ins C dx (iF f y fs))) s' -> Q () s') : wpAny (model X.prog X.w) A (setAttr (.ref a) f u) Q E s := by
 obtain ⟨mA, O, r, wi, _, ho⟩ := FE I.dw e
 have hz : (fs.map (·.1)).length <= sizeLine := by rw [afj, afP]; omega
 refine MZ I.Bd O c.sa c.po n.XD c.hd wi hz fun h' O' sb => h _ ?_
 have hd : ∃ o, h'.get? dx = some o := let ⟨o, _, _, e', _⟩ := O'.ns; ⟨o, e'⟩
 refine I.write (x := a) (e := dx) (by rw [e]; exact True.intro) (.inr ho) (fun b q hb z => (sb.2 b hb).trans z) hd ?_
 refine ⟨by rw [az O.ne]; exact ho, ?_, O.ne, O'.obj, _, O'.ns, fun g => ?_, fun g hg => ?_⟩
 . have := su f y fs; omega
 . show wk ((iF f y fs).lookup g) (if g = f then some u else mA g)
   rw [sr]
   by_cases q : g = f
   . rw [afa q, afa q]; exact ry
   . rw [ae9 q, ae9 q]; exact r g
 . by_cases q : g = f
   . rw [q]; exact (qW f y fs).1
   . refine (qW f y fs).2 g (wi g fun z => hg ?_)
     show (if g = f then some u else mA g) = none
     rw [ae9 q]; exact z
theorem Inv.made (I : Inv X pins σ H s) : Inv X pins σ (upd (upd H s.heap.objs.size (.own (s.heap.objs.size + 1))) (s.heap.objs.size + 1) (.ins C s.heap.objs.size []))
   { s with heap := (s.heap.push PySem.W.emptyDict).push (PySem.W.instObj C s.heap.objs.size) } := by
 have e1 : (s.heap.push PySem.W.emptyDict).get? s.heap.objs.size = some PySem.W.emptyDict := afE s.heap rfl
 have e2 : ((s.heap.push PySem.W.emptyDict).push (PySem.W.instObj C s.heap.objs.size)).get? (s.heap.objs.size + 1) = some (PySem.W.instObj C s.heap.objs.size) := by
   have := afE (s.heap.push PySem.W.emptyDict) (o := PySem.W.instObj C s.heap.objs.size) rfl
   rwa [Heap.size_push] at this
 have e3 : (s.heap.push PySem.W.emptyDict).Ns s.heap.objs.size (fun _ => none) := ⟨PySem.W.emptyDict, #[], _, e1, rfl, (fun e he => absurd he (by simp)), fun _ => rfl⟩
 have I1 := I.laid (a := s.heap.objs.size) (o := .own (s.heap.objs.size + 1)) (h' := s.heap.push PySem.W.emptyDict) (t' := s.toks) (fun b u q => afn _ q) (afg _) ⟨_, e1⟩
 refine I1.laid (a := s.heap.objs.size + 1) (o := .ins C s.heap.objs.size []) (t' := s.toks) (fun b u q => afn _ q) (Nat.le_of_eq (Heap.size_push _ _)) ?_
 have ne : s.heap.objs.size ≠ s.heap.objs.size + 1 := afO (Nat.lt_succ_self _)
 refine ⟨by rw [az ne, aN], afG _, ne, e2, fun _ => none, (Heap.Ns1.of_empty e3).at fun o q => afn _ q, fun _ => True.intro, fun y hy => absurd rfl hy⟩
theorem M0 {prog : Program} {w : World} {env : Env} {e : Expr} {f : Str} {pos : Pos} {s : Shared} {Q : Value -> Shared -> Prop} (hb : attributeBase e f env (eval e env) = eval e env)
   (h : wpAny (model prog w) A (eval e env) (fun o s₁ => wpAny (model prog w) A (getAttr o f true) Q E s₁) E s) : wpAny (model prog w) A (eval (.Attribute e f pos) env) Q E s :=
 Attribute_any_ h (by rw [arm_eval_Attribute, hb])
end
noncomputable def aaH (K : PySem.W.Frag) (ta : TE) (f : Str) : TE := fun σ H Q => ta σ H fun x H1 => ∃ a C dx fs v, x = .ref a /\ H1 a = some (.ins C dx fs) /\ wc K C /\ bB K C f /\ fs.lookup f = some v /\ Q v H1
noncomputable def aaI (K : PySem.W.Frag) (ta tv : TE) (f : Str) : TS := fun D σ H => tv σ H fun y H1 => ta σ H1 fun x H2 => ∃ a C dx fs, x = .ref a /\ H2 a = some (.ins C dx fs) /\ wc K C /\ bB K C f /\ fs.length < 1000 ∧
 D.nx σ (upd H2 a (.ins C dx (iF f y fs)))
section
variable {X : Cx} {o e value : Expr} {f : Str} {pos pos' aaJ : Pos} {ta tv : TE}
theorem Jj (he : PE X e ta) (hb : attributeBase e f X.env (eval e X.env) = eval e X.env) : PE X (.Attribute e f pos) (aaH X.K ta f) := by
 intro pins s σ H Q I h
 refine M0 hb (dU (he pins s σ H _ I h) fun u s1 zz => ?_)
 obtain ⟨x, H1, I1, rx, a, C, dx, fs, v, ex, ea, c, n, l, q⟩ := zz
 subst ex
 obtain rfl : u = Value.ref a := rx
 exact Dr I1 ea c n l fun u' s2 I2 ru => ⟨v, H1, I2, ru, q⟩
theorem Ud (ha : PE X o ta) (hv : PE X value tv) (hs : swapsWith value (some (.Attribute o f pos')) pos.line X.env = pure false) : PS X (.Assign [.Attribute o f pos'] value pos) (aaI X.K ta tv f) := by
 intro pins s σ H D I h
 refine plainObj_wpAny_Assign_Attribute (dU (hv pins s σ H _ I h) fun u s1 ⟨y, H1, I1, ry, q⟩ => dU (ha pins s1 σ H1 _ I1 q) fun ov s2 zz => ?_) hs
 obtain ⟨x, H2, I2, rx, a, C, dx, fs, ex, ea, c, n, l, q2⟩ := zz
 subst ex
 obtain rfl : ov = Value.ref a := rx
 exact Ds I2 ea c n l ry fun s3 I3 => ⟨σ, _, I3, q2⟩
end
section
variable {X : Cx} {pins : List (Addr × Obj)} {σ : St} {H : Hp} {s : Shared} {A : Around} {E : Value -> Shared -> Prop} {Q : Value -> Shared -> Prop} {c : Value} {b : Bool}
end
structure eN (k : Nat) (A : Around) : Prop where
 hd : A.handled = none
 dp : A.depth + 3 * k + 5 < recursionLimit
 un : A.units + 16 * k + 200 < cLine
theorem eN.mono {j k : Nat} {A : Around} (r : eN k A) (h : j <= k) : eN j A := ⟨r.hd, by have := r.dp; omega, by have := r.un; omega⟩
theorem eN.deeper {k : Nat} {A : Around} (r : eN (k + 1) A) (env : Env) : eN k (A.deeper env) :=
 ⟨r.hd, by have := r.dp; show A.depth + 1 + 3 * k + 5 < _; omega, by have := r.un; show A.units + 3 + 16 * k + 200 < _; omega⟩
theorem Dt {A : Around} {C : Addr} {us : List Value} {kw : List (Str × Value)} : (A.under (.builtin "type.__call__" ⟨.ref C :: us, kw⟩)).depth = A.depth + 1 := by
 first | rfl | simp [Around.under, Code.weight, Code.isCreation, Code.isGuard, Code.isCaller, Code.frames, Code.isFrame, guardIds]
theorem Du {A : Around} {C : Addr} {us : List Value} {kw : List (Str × Value)} : (A.under (.builtin "type.__call__" ⟨.ref C :: us, kw⟩)).units = A.units + 1 := by
 first | rfl | simp [Around.under, Code.cUnits, Code.frames, Code.isFrame]
theorem eN.make {k : Nat} {A : Around} (r : eN (k + 1) A) (C : Addr) (us : List Value) (kw : List (Str × Value)) : eN k (A.under (.builtin "type.__call__" ⟨.ref C :: us, kw⟩)) :=
 ⟨r.hd, by have := r.dp; rw [Dt]; omega, by have := r.un; rw [Du]; omega⟩
theorem eN.depth {k : Nat} {A : Around} (r : eN k A) : A.depth < recursionLimit := by have := r.dp; omega
theorem eN.units {k : Nat} {A : Around} (r : eN k A) : A.units + 64 < cLine := by have := r.un; omega
noncomputable def Jk : TA := fun _ H Q => Q [] H
noncomputable def FG (ta : TE) (tr : TA) : TA := fun σ H Q => ta σ H fun x H1 => tr σ H1 fun xs H2 => Q (x :: xs) H2
section
variable {X : Cx} {e : Expr} {es : List Expr} {te : TE} {t : TA} {pos : Pos}
theorem e9 : PA X [] Jk := fun _ _ _ _ H Q I h => Calls.spliced_nil ⟨[], H, I, .nil, h⟩
theorem cD (ha : PE X e te) (hr : PA X es t) (hs : starEach (e :: es) X.env = (false, eval e X.env) :: starEach es X.env := by rfl) : PA X (e :: es) (FG te t) := by
 intro pos pins s σ H Q I h
 rw [hs]
 show wpAny _ _ (spliced ((false, eval e X.env) :: backTo pos (starEach es X.env))) _ _ s
 refine Calls.spliced_cons (dU (ha pins s σ H _ I h) fun u s1 zz => ?_)
 obtain ⟨x, H1, I1, r1, q1⟩ := zz
 exact dU (hr pos pins s1 σ H1 _ I1 q1) fun us s2 ⟨xs, H2, I2, r2, q2⟩ => ⟨x :: xs, H2, I2, .cons r1 r2, q2⟩
noncomputable def aaK (t : TA) : TE := fun σ H Q => t σ H fun xs H1 => xs.length <= sizeLine /\ ∀ p, H1 p = none -> Q (.ref p) (upd H1 p (.tup xs))
noncomputable def aaL (t : TA) : TE := fun σ H Q => t σ H fun xs H1 => xs.length <= sizeLine /\ ∀ p, H1 p = none -> Q (.ref p) (upd H1 p (.lst xs))
theorem Ue {x1} (h : PA X es t) : PE X (.Tuple es x1 pos) (aaK t) := by
 intro pins s σ H Q I hq
 refine wpAny_Tuple_spliced (dU (h pos pins s σ H _ I hq) fun us s1 ⟨xs, H1, I1, r, z, q⟩ => ⟨by rw [← r.length]; exact z, ?_⟩)
 have hf : H1 s1.heap.objs.size = none := I1.dw.fresh (afg _)
 refine ⟨.ref s1.heap.objs.size, upd H1 s1.heap.objs.size (.tup xs), I1.laid (t' := s1.toks) (fun b u e => afn _ e) (afg _) ?_, rfl, q _ hf⟩
 exact ⟨z, us, r, ⟨_, afE _ rfl, rfl, _, rfl⟩⟩
theorem Ug (h : PA X es t) : PE X (.List es pos) (aaL t) := by
 intro pins s σ H Q I hq
 refine wpAny_List_spliced (dU (h pos pins s σ H _ I hq) fun us s1 ⟨xs, H1, I1, r, z, q⟩ => ⟨by rw [← r.length]; exact z, ?_⟩)
 have hf : H1 s1.heap.objs.size = none := I1.dw.fresh (afg _)
 refine ⟨.ref s1.heap.objs.size, upd H1 s1.heap.objs.size (.lst xs), I1.laid (t' := s1.toks) (fun b u e => afn _ e) (afg _) ?_, rfl, q _ hf⟩
 exact ⟨z, us, 0, r, afE _ rfl⟩
end
noncomputable abbrev Sp := List V -> Hp -> VK -> XK -> Prop
noncomputable abbrev Jl := List Env -> Hp -> Shared -> XK -> Value -> Shared -> Prop
structure Dv (P : Program) (w : World) (K : PySem.W.Frag) (mg : Str -> Option Value) (base : Heap) (A : Around) (outer : List Env) (s : Shared) (H : Hp) : Prop where
 frames : A.frames = some outer
 mod : Mod K mg base
 bs : ∀ b o, base.get? b = some o -> s.heap.get? b = some o /\ H b = none
 My : base.objs.size <= s.heap.objs.size
 sW : s.heap.FunFrames base outer
 Te : ∀ b ∈ IL outer, H b = none
 dw : oA P w H s.heap
 bare : AllBare s.gens
noncomputable def CE (outer : List Env) (P : Program) (w : World) (H : Hp) (s : Shared) (Q : VK) (u : Value) (s' : Shared) : Prop :=
 ∃ v H', s'.os = s.os /\ AllBare s'.gens /\ Un (IL outer) [] H H' s.heap s'.heap /\ oA P w H' s'.heap /\ RelV v u /\ Q v H'
noncomputable def CR (CX : Jl) (outer : List Env) (P : Program) (w : World) (H : Hp) (s : Shared) (Q : VK) (E : XK) (r : Result) (s' : Shared) : Prop :=
 match r with
 | .ok (.ret u) => CE outer P w H s Q u s'
 | .ok _ => False
 | .error e => CX outer H s E e s'
structure bV (P : Program) (w : World) (K : PySem.W.Frag) (mg : Str -> Option Value) (base : Heap) (CX : Jl) (k : Nat) (f : Addr) (fd : FuncData) (ps : List Str) (sp : Sp) : Prop where
 len : ∀ vs H Q E, sp vs H Q E -> vs.length = ps.length
 run : ∀ (A : Around) (outer : List Env) (s : Shared) (H : Hp) (args : Args) (us : List Value) (vs : List V) (Q : VK) (E : XK), eN k A -> Dv P w K mg base A outer s H -> BindsTo s fd args (ps.zip us) -> Vals vs us -> sp vs H Q E →
   codeAny (model P w) A (.call (.ref f) args) (CR CX outer P w H s Q E) s
theorem bV.imp {P : Program} {w : World} {K : PySem.W.Frag} {mg : Str -> Option Value} {base : Heap} {CX : Jl} {k : Nat} {f : Addr} {fd : FuncData} {ps : List Str} {sp sp' : Sp} (F : bV P w K mg base CX k f fd ps sp)
   (h : ∀ vs H Q E, sp' vs H Q E -> sp vs H Q E) : bV P w K mg base CX k f fd ps sp' :=
 ⟨fun vs H Q E q => F.len vs H Q E (h _ _ _ _ q), fun A outer s H args us vs Q E hr he hb hv hs => F.run A outer s H args us vs Q E hr he hb hv (h _ _ _ _ hs)⟩
theorem Dv.make {P : Program} {w : World} {K : PySem.W.Frag} {mg : Str -> Option Value} {base : Heap} {A : Around} {outer : List Env} {s : Shared} {H : Hp} (e : Dv P w K mg base A outer s H) (C : Addr) (us : List Value) (kw : List (Str × Value)) :
   Dv P w K mg base (A.under (.builtin "type.__call__" ⟨.ref C :: us, kw⟩)) outer s H := ⟨by first | exact e.frames | (simpa [Around.under, Code.envs, Code.isFrame, pushEnvs] using e.frames), e.mod, e.bs, e.My, e.sW, e.Te, e.dw, e.bare⟩
section
variable {X : Cx} {pins : List (Addr × Obj)} {σ : St} {H : Hp} {s s' : Shared}
theorem Inv.XE (I : Inv X pins σ H s) : Dv X.prog X.w X.K X.mg X.base X.A X.stack s H :=
 ⟨I.ok.frames, I.ok.mod, I.bs, afU I.ok.My I.sz, I.stack, I.yi, I.dw, I.bare⟩
theorem Inv.after {Q : VK} {u : Value} (I : Inv X pins σ H s) (h : CE X.stack X.prog X.w H s Q u s') : EP X pins σ Q u s' := by
 obtain ⟨v, H', os, bare, un, dw, r, q⟩ := h
 obtain ⟨hh, g, d, t, WT⟩ := s'
 obtain rfl : WT = s.os := os
 exact ⟨v, H', I.call (h' := hh) (g' := g) (d' := d) (t' := t) (ch := []) un dw bare (fun b z => absurd z (by simp)), r, q⟩
end
noncomputable def R1 (sp : Sp) (Bq : List V) (E : XK) (t : TA) : TE := fun σ H Q => t σ H fun vs H1 => sp (vs ++ Bq) H1 Q E
noncomputable def XF (C : Addr) (sp : Sp) (Bq : List V) (E : XK) (t : TA) : TE := fun σ H Q => t σ H fun vs H1 => ∀ x dx, H1 x = none -> H1 dx = none -> dx ≠ x →
 sp (.ref x :: (vs ++ Bq)) (upd (upd H1 dx (.own x)) x (.ins C dx [])) (fun v H2 => v = .non /\ Q (.ref x) H2) E
noncomputable def Binds (K : PySem.W.Frag) (fd : FuncData) (ps : List Str) (ds : List Value) : Prop :=
 ∀ (s : Shared) (us : List Value), K.In s.heap -> (us ++ ds).length = ps.length -> BindsTo s fd ⟨us, []⟩ (ps.zip (us ++ ds))
theorem Binds.all {K : PySem.W.Frag} {fd : FuncData} {ps : List Str} (h : ∀ us : List Value, us.length = ps.length -> bindArgs fd ⟨us, []⟩ = pure (ps.zip us)) : Binds K fd ps [] := fun s us _ hl => by
 rw [afQ] at hl ⊢
 exact .of_eq (h us hl)
noncomputable def Passes (CX : Jl) (X : Cx) (E : XK) : Prop := ∀ (pins : List (Addr × Obj)) (σ : St) (H : Hp) (s : Shared) (e : Value) (s' : Shared), Inv X pins σ H s -> CX X.stack H s E e s' -> X.xe e s'
section
variable {X : Cx} {CX : Jl} {k : Nat} {f C : Addr} {fd : FuncData} {ps : List Str} {sp : Sp} {Bq : List V} {ds : List Value} {E : XK} {x m : Str} {p pos apos : Pos} {e o : Expr} {es : List Expr} {ta : TE} {t : TA}
theorem Jm {pins : List (Addr × Obj)} {σ : St} {H : Hp} {s : Shared} {Q : VK} {us : List Value} {vs : List V} (F : bV X.prog X.w X.K X.mg X.base CX k f fd ps sp) (hr : eN k X.A) (hb : Binds X.K fd ps ds) (hd : Vals Bq ds) (hx : Passes CX X E)
   (I : Inv X pins σ H s) (r : Vals vs us) (h : sp (vs ++ Bq) H Q E) : wpAny (model X.prog X.w) X.A (call (.ref f) us) (EP X pins σ Q) X.xe s := by
 have r2 : Vals (vs ++ Bq) (us ++ ds) := r.append hd
 have hl : (us ++ ds).length = ps.length := by rw [← r2.length]; exact F.len _ _ _ _ h
 refine wpAny_call (codeAny_mono (F.run X.A X.stack s H ⟨us, []⟩ (us ++ ds) (vs ++ Bq) Q E hr I.XE (hb s us I.Bd hl) r2 h) fun r s' hq => ?_)
 cases r with
 | error e => exact hx pins σ H s e s' I hq
 | ok fl =>
   cases fl with
   | ret u => exact I.after hq
   | next => exact False.elim hq
   | brk => exact False.elim hq
   | cont => exact False.elim hq
theorem M3 (F : bV X.prog X.w X.K X.mg X.base CX k f fd ps sp) (hr : eN k X.A) (hg : Gl X x) (hm : X.mg x = some (.ref f)) (hk : PySem.W.keepIn X.K (.ref f) = true) (hb : Binds X.K fd ps ds) (hd : Vals Bq ds) (hx : Passes CX X E)
   (ha : PA X (e :: es) t) (wA : (x == ("__debug__" : Str)) = false := by decide) (he : starEach (e :: es) X.env = (false, eval e X.env) :: starEach es X.env := by rfl) (sy : (backTo pos (starEach es X.env)).any (·.1) = false := by rfl) :
   PE X (.Call (.Name x p) (e :: es) [] pos) (R1 sp Bq E t) := by
 intro pins s σ H Q I h
 refine agA (tK I hg hm ?_ wA)
 refine PySem.W.callWith_K (h₀ := X.base) I.ok.mod.Zy hk (dU (ha pos pins s σ H _ I h) fun us s1 ⟨vs, H1, I1, r, q⟩ => ⟨I1.Bd, ?_⟩) he sy
 exact Jm F hr hb hd hx I1 r q
theorem Jo (F : bV X.prog X.w X.K X.mg X.base CX k f fd ps sp) (hr : eN k X.A) (hg : Gl X x) (hm : X.mg x = some (.ref f)) (hk : PySem.W.keepIn X.K (.ref f) = true) (hb : Binds X.K fd ps ds) (hd : Vals Bq ds) (hx : Passes CX X E)
   (wA : (x == ("__debug__" : Str)) = false := by decide) : PE X (.Call (.Name x p) [] [] pos) (R1 sp Bq E Jk) := by
 intro pins s σ H Q I h
 refine agA (tK I hg hm ?_ wA)
 exact PySem.W.callWith_K0 I.Bd hk (Jm (us := []) F hr hb hd hx I .nil h)
structure Mk (K : PySem.W.Frag) (C f : Addr) : Prop where
 makes : PySem.W.makesIn K C = true
 init : PySem.W.findIn K (.ref C) "__init__" = some (some (.ref f))
 fn : PySem.W.isFn K (.ref f) = true
 kp : PySem.W.keepIn K (.ref C) = true
theorem Jp {pins : List (Addr × Obj)} {σ : St} {H : Hp} {s : Shared} {Q : VK} {us : List Value} {vs : List V} (M : Mk X.K C f) (F : bV X.prog X.w X.K X.mg X.base CX k f fd ps sp) (hr : eN (k + 1) X.A) (hb : Binds X.K fd ps ds) (hd : Vals Bq ds)
   (hx : Passes CX X E) (I : Inv X pins σ H s) (r : Vals vs us)
   (h : ∀ x dx, H x = none -> H dx = none -> dx ≠ x -> sp (.ref x :: (vs ++ Bq)) (upd (upd H dx (.own x)) x (.ins C dx [])) (fun v H2 => v = .non /\ Q (.ref x) H2) E) :
   wpAny (model X.prog X.w) X.A (call (.ref C) us) (EP X pins σ Q) X.xe s := by
 have hq := h (s.heap.objs.size + 1) s.heap.objs.size (I.dw.fresh (agW _)) (I.dw.fresh (afg _)) (afO (Nat.lt_succ_self _))
 have I2 := Inv.made (C := C) I
 have r2 : Vals (V.ref (s.heap.objs.size + 1) :: (vs ++ Bq)) (Value.ref (s.heap.objs.size + 1) :: (us ++ ds)) := .cons rfl (r.append hd)
 have hl : (Value.ref (s.heap.objs.size + 1) :: us ++ ds).length = ps.length := by
   have e := r2.length
   rw [F.len _ _ _ _ hq] at e
   exact e.symm
 refine wpAny_call (Ji (f := f) I.Bd M.makes M.init (beq_iff_eq.mp M.fn) (codeAny_mono (F.run _ X.stack _ _ ⟨Value.ref (s.heap.objs.size + 1) :: us, []⟩ (Value.ref (s.heap.objs.size + 1) :: (us ++ ds)) _ _ E (hr.make C us [])
   (I2.XE.make C us []) (hb _ (Value.ref (s.heap.objs.size + 1) :: us) I2.Bd hl) r2 hq) fun r s' R3 => ?_))
 cases r with
 | error e => exact hx pins σ _ _ e s' I2 R3
 | ok fl =>
   cases fl with
   | ret u =>
     obtain ⟨v, H', I3, rv, ev, q3⟩ := I2.after R3
     subst ev
     exact ⟨rv, ⟨V.ref (s.heap.objs.size + 1), H', I3, rfl, q3⟩⟩
   | next => exact False.elim R3
   | brk => exact False.elim R3
   | cont => exact False.elim R3
theorem FH (M : Mk X.K C f) (F : bV X.prog X.w X.K X.mg X.base CX k f fd ps sp) (hr : eN (k + 1) X.A) (hg : Gl X x) (hm : X.mg x = some (.ref C)) (hb : Binds X.K fd ps ds) (hd : Vals Bq ds) (hx : Passes CX X E)
   (ha : PA X (e :: es) t) (wA : (x == ("__debug__" : Str)) = false := by decide) (he : starEach (e :: es) X.env = (false, eval e X.env) :: starEach es X.env := by rfl) (sy : (backTo pos (starEach es X.env)).any (·.1) = false := by rfl) :
   PE X (.Call (.Name x p) (e :: es) [] pos) (XF C sp Bq E t) := by
 intro pins s σ H Q I h
 refine agA (tK I hg hm ?_ wA)
 refine PySem.W.callWith_K (h₀ := X.base) I.ok.mod.Zy M.kp (dU (ha pos pins s σ H _ I h) fun us s1 ⟨vs, H1, I1, r, q⟩ => ⟨I1.Bd, ?_⟩) he sy
 exact Jp M F hr hb hd hx I1 r q
end
noncomputable def PK (X : Cx) (kws : List Keyword) (t : TA) : Prop :=
 ∀ (pos : Pos) (pins : List (Addr × Obj)) (s : Shared) (σ : St) (H : Hp) (Q : List V -> Hp -> Prop), Inv X pins σ H s -> t σ H Q -> wpAny (model X.prog X.w) X.A (evalAll ((backToKw pos (keywordEach kws X.env)).map (·.2))) (AP X pins σ Q) X.xe s
section
variable {X : Cx} {CX : Jl} {k : Nat} {f C : Addr} {fd : FuncData} {ps ks : List Str} {sp : Sp} {E : XK} {x m : Str} {p pos apos aaM : Pos} {e o : Expr} {es : List Expr} {kws : List Keyword} {te ta : TE} {t tk : TA} {nm : Option Str}
theorem Uh : PK X [] Jk := fun _ _ _ _ H Q I h => wpAny_evalAll_nil ⟨[], H, I, .nil, h⟩
theorem M4 (ha : PE X e te) (hr : PK X kws t) : PK X (⟨nm, e, aaM⟩ :: kws) (FG te t) := by
 intro pos pins s σ H Q I h
 show wpAny _ _ (evalAll ((do let v ← eval e X.env; standAt pos; pure v) :: (backToKw pos (keywordEach kws X.env)).map (·.2))) _ _ s
 refine wpAny_evalAll_cons (afs (dU (ha pins s σ H _ I h) fun u s1 ⟨x, H1, I1, r1, q1⟩ => afs (wpAny_standAt (afV ?_))))
 exact dU (hr pos pins s1 σ H1 _ I1 q1) fun us s2 ⟨xs, H2, I2, r2, q2⟩ => ⟨x :: xs, H2, I2, .cons r1 r2, q2⟩
variable {g : List Value -> List Value -> List Value} {gV : List V -> List V -> List V}
end
structure aL (N P : List Str) (sc : Scope) : Prop where
 kind : sc.kind = .function
 co : sc.isCoroutine = false
 gen : sc.isGenerator = false
 nd : N.Nodup
 pre : N.take P.length = P
 par : ∀ x ∈ P, sc.names.lookup x = some .local \/ sc.names.lookup x = some .cell
 Ui : ∀ y ∈ sc.names, y.2 ≠ .free
theorem xC {kindOf : Str -> Option NameKind} {x : Str} : ∀ {binds : List (Str × Value)} {m : Str -> Option Value}, (∀ v, (x, v) ∉ binds) -> bindL kindOf binds m x = m x
 | [], _, _ => rfl
 | (n, v) :: r, m, h => by
   unfold bindL
   rw [xC fun w hw => h w (afd _ hw)]
   split
   . have : x ≠ n := by rintro rfl; exact h v afb
     simp [this]
   . rfl
theorem xD {kindOf : Str -> Option NameKind} {x : Str} : ∀ {binds : List (Str × Value)} {m : Str -> Option Value}, (∀ v, (x, v) ∉ binds) -> bindC kindOf binds m x = m x
 | [], _, _ => rfl
 | (n, v) :: r, m, h => by
   unfold bindC
   rw [xD fun w hw => h w (afd _ hw)]
   split
   . rfl
   . have : x ≠ n := by rintro rfl; exact h v afb
     simp [this]
theorem xE {kindOf : Str -> Option NameKind} {x : Str} {v : Value} : ∀ {P : List Str} {vs : List Value} {i : Nat} {m : Str -> Option Value}, P.Nodup -> P[i]? = some x -> vs[i]? = some v -> kindOf x = some .local →
   bindL kindOf (P.zip vs) m x = some v
 | [], _, _, _, _, h, _, _ => by simp at h
 | _ :: _, [], _, _, _, _, h, _ => by simp at h
 | p :: P, w :: vs, 0, m, nd, h1, h2, hk => by
   simp at h1 h2; subst h1; subst h2
   show bindL kindOf ((p, w) :: P.zip vs) m p = _
   unfold bindL
   rw [xC fun v hv => (age.mp nd).1 (List.of_mem_zip hv).1, afa hk]
   simp
 | p :: P, w :: vs, i + 1, m, nd, h1, h2, hk => by
   show bindL kindOf ((p, w) :: P.zip vs) m x = _
   unfold bindL
   exact xE (i := i) (List.nodup_cons.mp nd).2 (by simpa using h1) (by simpa using h2) hk
theorem xF {kindOf : Str -> Option NameKind} {x : Str} {v : Value} : ∀ {P : List Str} {vs : List Value} {i : Nat} {m : Str -> Option Value}, P.Nodup -> P[i]? = some x -> vs[i]? = some v -> kindOf x ≠ some .local →
   bindC kindOf (P.zip vs) m x = some v
 | [], _, _, _, _, h, _, _ => by simp at h
 | _ :: _, [], _, _, _, _, h, _ => by simp at h
 | p :: P, w :: vs, 0, m, nd, h1, h2, hk => by
   simp at h1 h2; subst h1; subst h2
   show bindC kindOf ((p, w) :: P.zip vs) m p = _
   unfold bindC
   rw [xD fun v hv => (age.mp nd).1 (List.of_mem_zip hv).1, ae9 hk]
   simp
 | p :: P, w :: vs, i + 1, m, nd, h1, h2, hk => by
   show bindC kindOf ((p, w) :: P.zip vs) m x = _
   unfold bindC
   exact xF (i := i) (List.nodup_cons.mp nd).2 (by simpa using h1) (by simpa using h2) hk
noncomputable def start (N : List Str) (vs : List V) : St := vs.map some ++ List.replicate (N.length - vs.length) none
noncomputable def uy (CX : Jl) (P : Program) (w : World) (K : PySem.W.Frag) (mg : Str -> Option Value) (base : Heap) (N : List Str) (qual : Str) (scope : Scope) (f : Addr) (cd : Value) (A : Around) (outer : List Env) (s : Shared) (H : Hp) (E : XK) : Cx where
 prog := P
 w := w
 K := K
 mg := mg
 base := base
 A := A.deeper (envOfC qual scope s.heap.objs.size f cd)
 N := N
 s₀ := s
 H₀ := H
 env := envOfC qual scope s.heap.objs.size f cd
 outer := outer
 stack := envOfC qual scope s.heap.objs.size f cd :: outer
 ex := []
 calm := true
 fn := fun _ => true
 pn := []
 xe := fun e s' => wpAny (model P w) (A.deeper (envOfC qual scope s.heap.objs.size f cd)) (leaving (envOfC qual scope s.heap.objs.size f cd) e) (fun _ WU => CX outer H s E e WU) (fun e' WU => CX outer H s E e' WU) s'
theorem Br {sc : Scope} {n : Nat} {x : Str} (h : sc.names.lookup x = some .cell) : ∃ c, (cellsFrom n sc.names []).lookup x = some c := by
 have q := PySem.W.cellsFrom_some sc.names n [] (.inl h)
 exact Option.isSome_iff_exists.mp q
theorem GY {CX : Jl} {P : Program} {w : World} {K : PySem.W.Frag} {mg : Str -> Option Value} {base : Heap} {N ps : List Str} {qual : Str} {scope : Scope} {f : Addr} {cd : Value} {A : Around} {outer : List Env} {s s1 : Shared} {H : Hp} {E : XK} {us : List Value} {vs : List V}
   (S : aL N ps scope) (hd : A.handled = none) (e0 : Dv P w K mg base A outer s H) (hl : vs.length = ps.length) (r : Vals vs us)
   (x : InCallC s s.heap.objs.size (bindL (envOfC qual scope s.heap.objs.size f cd).kindOf (ps.zip us) fun _ => none) (cellsFrom (s.heap.objs.size + 1) scope.names []) (bindC (envOfC qual scope s.heap.objs.size f cd).kindOf (ps.zip us) fun _ => none) s1) :
   Inv (uy CX P w K mg base N qual scope f cd A outer s H E) [] (start N vs) H s1 := by
 have sy : ps.length <= N.length := by have := congrArg List.length S.pre; rw [agU] at this; omega
 obtain ⟨h1, tk, rfl, hk⟩ := x.done
 have WV : ∀ b : Addr, b ∉ (uy CX P w K mg base N qual scope f cd A outer s H E).ex := fun b z => absurd (show b ∈ ([] : List Addr) from z) (by simp)
 refine ⟨⟨e0.mod, S.kind, rfl, rfl, afg _, fun y z c h1 h2 => ?_, fun y hy => ?_, fun y c _ h => ?_, fun _ => hd, Around.frames_deeper e0.frames, .inr ⟨rfl, rfl⟩, fun b z => absurd z (WV b), e0.bs, e0.My, fun b _ _ => WV b, fun b z => absurd z (WV b), e0.sW, e0.Te⟩,
   rfl, e0.bare, Un.kept hk, ⟨_, x.toInCall.ns, fun i y v h1 h2 h3 => ?_⟩, fun y c h => ⟨_, x.cell y c h⟩, e0.dw.fresh (afg _), fun y c h => ?_, fun p hp => absurd (show p ∈ ([] : List (Addr × Obj)) from hp) (by simp), e0.dw.kept hk, ?_⟩
 . exact name_of_addr x.apart (af7 h1) (af7 h2)
 . have hy : scope.names.lookup y = some .cell \/ scope.names.lookup y = some .free := hy
   rcases hy with hy | hy
   . exact Br hy
   . exact absurd rfl (S.Ui _ (af7 hy))
 . exact af9 (x.above y c (af7 h))
 . have hi : i < vs.length := by
     unfold start at h2
     by_cases hi : i < vs.length
     . exact hi
     . rw [List.getElem?_append_right (by simpa using hi)] at h2
       rw [List.getElem?_replicate] at h2
       split at h2 <;> cases h2
   have ha : vs[i]? = some v := by
     unfold start at h2
     rw [List.getElem?_append_left (by simpa using hi), List.getElem?_map] at h2
     cases e : vs[i]? with
     | none => rw [e] at h2; cases h2
     | some a => rw [e] at h2; cases h2; rfl
   obtain ⟨u, hu, rv⟩ := r.get ha
   have hp : ps[i]? = some y := by
     rw [← S.pre, List.getElem?_take_of_lt (by omega)]; exact h1
   have ndP : ps.Nodup := by rw [← S.pre]; exact S.nd.sublist (List.take_sublist _ _)
   refine ⟨u, rv, ?_⟩
   rcases S.par y (afM hp) with k | k
   . exact .inl ⟨k, xE ndP hp hu k⟩
   . obtain ⟨c, e⟩ := Br (n := s.heap.objs.size + 1) k
     refine .inr ⟨.inl k, c, e, ?_⟩
     have q := x.cell y c e
     rw [xF ndP hp hu (by show scope.names.lookup y ≠ _; rw [k]; decide)] at q
     exact q
 . exact e0.dw.fresh (af9 (x.above y c (af7 h)))
 . unfold start
   show _ = N.length
   rw [afy, afj, agr]
   omega
theorem R4 {CX : Jl} {P : Program} {w : World} {K : PySem.W.Frag} {mg : Str -> Option Value} {base : Heap} {k : Nat} {f : Addr} {name qual : Str} {params : Arguments} {body : List Stmt} {scope : Scope} {dV kV doc pm dI ct oc : Value} {an od : Option Addr}
   {IQ : Array (Option Value)} {N ps : List Str} {sp : Sp} (lk : K.lookup f = some ⟨oc, od, .func (PySem.W.fnOf name qual params body scope dV kV doc pm an dI ct), IQ⟩) (iD : PySem.W.codeIn K dI qual = true) (S : aL N ps scope)
   (len : ∀ vs H Q E, sp vs H Q E -> vs.length = ps.length)
   (Bs : ∀ (A : Around) (outer : List Env) (s : Shared) (H : Hp) (vs : List V) (Q : VK) (E : XK), eN k (A.deeper (envOfC qual scope s.heap.objs.size f dI)) -> sp vs H Q E →
     ∃ t, Dm (uy CX P w K mg base N qual scope f dI A outer s H E) body t /\ t { nx := fun _ H' => Q .non H', rt := Q } (start N vs) H) :
   bV P w K mg base CX (k + 1) f (PySem.W.fnOf name qual params body scope dV kV doc pm an dI ct) ps sp := by
 refine ⟨len, fun A outer s H args us vs Q E hr e0 hb r MA => ?_⟩
 have hl := len _ _ _ _ MA
 have KX : K.In s.heap := e0.mod.Zy.keeps fun b o e => (e0.bs b o e).1
 have lim : s.heap.NoLimit := e0.mod.nolimit.keeps fun b o e => (e0.bs b o e).1
 have uz : ∀ y ∈ ps.zip us, scope.names.lookup y.1 = some .local \/ (scope.names.lookup y.1 = some .cell /\ ((cellsFrom (s.heap.objs.size + 1) scope.names []).lookup y.1).isSome = true) := fun ⟨n, v⟩ hy => by
   rcases S.par n (List.of_mem_zip hy).1 with q | q
   . exact .inl q
   . exact .inr ⟨q, PySem.W.cellsFrom_some _ _ _ (.inl q)⟩
 refine codeAny_call_function hr.depth (KX _ _ lk) rfl S.co S.gen rfl (PySem.W.codeRec_of KX iD) (hb _ _ _ _ ?_)
 refine wpAny_newFunctionEnv_cells S.kind uz fun env he s1 x => ?_
 subst he
 refine ⟨lim.keeps x.toInCall.keep, codeAny_func ?_⟩
 obtain ⟨t, ht, hq⟩ := Bs A outer s H vs Q E (hr.deeper _) MA
 have I : Inv (uy CX P w K mg base N qual scope f dI A outer s H E) [] (start N vs) H s1 := GY S hr.hd e0 hl r x
 refine agn (ht [] s1 (start N vs) H _ I hq) (fun fl s' hs => ?_) fun e s' hs => hs
 have fin : ∀ {σ' : St} {H' : Hp} {v : V} {u : Value}, Inv (uy CX P w K mg base N qual scope f dI A outer s H E) [] σ' H' s' -> RelV v u -> Q v H' -> CE outer P w H s Q u s' :=
   fun {σ' H' v u} J rv q => ⟨v, H', J.os, J.bare, J.base, J.dw, rv, q⟩
 cases fl with
 | ret u =>
   obtain ⟨v, σ', H', J, rv, q⟩ := hs
   exact fin J rv q
 | next =>
   obtain ⟨σ', H', J, q⟩ := hs
   exact fin (v := V.non) (u := Value.none) J rfl q
 | brk =>
   obtain ⟨_, _, _, q⟩ := hs
   exact False.elim q
 | cont =>
   obtain ⟨_, _, _, q⟩ := hs
   exact False.elim q
section
variable {X : Cx} {x : Str} {p pos : Pos} {e : Expr} {es : List Expr} {t : TA} {id T : String} {r : List V -> Hp -> VK -> Prop}
noncomputable def tCB (r : List V -> Hp -> VK -> Prop) (t : TA) : TE := fun σ H Q => t σ H fun vs H1 => r vs H1 Q
theorem Bt (hc : pK X (.builtin id) r) (hg : Gl X x) (hm : X.mg x = none) (hv : bootBuiltins x = some (.builtin id)) (ha : PA X (e :: es) t) (hn : x ≠ "__name__" := by decide) (wA : (x == ("__debug__" : Str)) = false := by decide)
   (he : starEach (e :: es) X.env = (false, eval e X.env) :: starEach es X.env := by rfl) (sy : (backTo pos (starEach es X.env)).any (·.1) = false := by rfl) : PE X (.Call (.Name x p) (e :: es) [] pos) (tCB r t) := by
 intro pins s σ H Q I h
 refine agA (lA I hg hm hv ?_ hn wA)
 exact PyProof.Rows.callWith_builtin1 (dU (ha pos pins s σ H _ I h) fun us s1 ⟨vs, H1, I1, r1, q1⟩ => hc pins s1 σ H1 vs us Q I1 r1 q1) he sy
theorem jK (hc : pK X (.type T) r) (hg : Gl X x) (hm : X.mg x = none) (hv : bootBuiltins x = some (.type T)) (ha : PA X (e :: es) t) (hn : x ≠ "__name__" := by decide) (wA : (x == ("__debug__" : Str)) = false := by decide)
   (he : starEach (e :: es) X.env = (false, eval e X.env) :: starEach es X.env := by rfl) (sy : (backTo pos (starEach es X.env)).any (·.1) = false := by rfl) : PE X (.Call (.Name x p) (e :: es) [] pos) (tCB r t) := by
 intro pins s σ H Q I h
 refine agA (lA I hg hm hv ?_ hn wA)
 exact agi (dU (ha pos pins s σ H _ I h) fun us s1 ⟨vs, H1, I1, r1, q1⟩ => hc pins s1 σ H1 vs us Q I1 r1 q1) he sy
end
end L2
namespace HT
open PySem PyProof.Rows
section
open PySem.SeqAt
open PySem.AutoSeq1 (wpAny_loadPart')
open PySem.MeetsSeq PySem.MeetsSeq2 PySem.MeetsSeq3
end
section
variable {prog : Program} {w : World} {A : Around} {E : Value -> Shared -> Prop} {s : Shared}
noncomputable def sY (n d : Nat) : Option Int -> Nat
 | none => d
 | some v => if v < 0 then (v + (n : Int)).toNat else min v.toNat n
end
end HT
namespace L2
open PySem PySem.Spec PyProof.Rows
noncomputable abbrev TO := St -> Hp -> (Option Int -> Hp -> Prop) -> Prop
noncomputable def PO (X : Cx) (e : Option Expr) (t : TO) : Prop :=
 ∀ (pins : List (Addr × Obj)) (s : Shared) (σ : St) (H : Hp) (Q : Option Int -> Hp -> Prop), Inv X pins σ H s -> t σ H Q →
   wpAny (model X.prog X.w) X.A (evalPart e X.env) (fun u s' => ∃ o H', Inv X pins σ H' s' /\ IsPart u o /\ Q o H') X.xe s
noncomputable def M5 : TO := fun _ H Q => Q none H
noncomputable def XG (t : TE) : TO := fun σ H Q => t σ H fun x H1 => ∃ i, x = .int i /\ Q (some i) H1
theorem intsAre_of {ns : List Int} : ∀ {us : List Value}, Vals (ns.map V.int) us -> IntsAre us ns := by
 induction ns with
 | nil => intro us r; rw [List.map_nil] at r; cases r; exact .nil
 | cons n ns ih =>
   intro us r
   rw [afx] at r
   cases r with
   | cons r1 r2 =>
     obtain ⟨t, e⟩ := r1
     subst e
     exact .cons n t (ih r2)
section
variable {X : Cx} {e : Expr} {te : TE} {lo hi : Option Expr} {tl th : TO} {pos p2 : Pos}
theorem M6 : PO X none M5 := by
 intro pins s σ H Q I h
 rw [evalPart_none]
 exact afV ⟨none, H, I, .none, h⟩
theorem M7 (h : PE X e te) : PO X (some e) (XG te) := by
 intro pins s σ H Q I hw
 rw [evalPart_some]
 refine dU (h pins s σ H _ I hw) fun u s1 zz => ?_
 obtain ⟨x, H1, I1, r1, q1⟩ := zz
 obtain ⟨i, rfl, q⟩ := q1
 obtain ⟨t, rfl⟩ := r1
 exact ⟨some i, H1, I1, .int i t, q⟩
noncomputable def SlR (X : Cx) (r : V -> Option Int -> Option Int -> Hp -> VK -> Prop) : Prop :=
 ∀ (pins : List (Addr × Obj)) (s : Shared) (σ : St) (H : Hp) (x : V) (v vl vu : Value) (lo hi : Option Int) (sl : Addr) (Q : VK), Inv X pins σ H s -> RelV x v -> s.heap.IsSliceOf sl vl vu .none -> IsPart vl lo -> IsPart vu hi -> r x lo hi H Q →
   ∃ T id, typeLookup (.type T) "__getitem__" = pure (some (.builtin id)) /\ s.TypeIs v T /\ wpAny (model X.prog X.w) X.A (getItem v (.ref sl)) (EP X pins σ Q) X.xe s
noncomputable def tSl (r : V -> Option Int -> Option Int -> Hp -> VK -> Prop) (te : TE) (tl th : TO) : TE := fun σ H Q => te σ H fun x H1 => tl σ H1 fun l H2 => th σ H2 fun u H3 => r x l u H3 Q
theorem Bu {r : V -> Option Int -> Option Int -> Hp -> VK -> Prop} (hr : SlR X r) (he : PE X e te) (hl : PO X lo tl) (hu : PO X hi th) : PE X (.Subscript e (.Slice lo hi none p2) pos) (tSl r te tl th) := by
 intro pins s σ H Q I h
 refine Subscript_ (dU (he pins s σ H _ I h) fun v s1 zz => ?_)
 obtain ⟨x, H1, I1, r1, q1⟩ := zz
 refine wpAny_Slice (dU (hl pins s1 σ H1 _ I1 q1) fun vl s2 ⟨l, H2, I2, pl, q2⟩ => dU (hu pins s2 σ H2 _ I2 q2) fun vu s3 zz => ?_)
 obtain ⟨u, H3, I3, pu, q3⟩ := zz
 rw [evalPart_none]
 refine afV ?_
 have I4 : Inv X pins σ H3 { s3 with heap := s3.heap.push { cls := .type "slice", data := .fields #[vl, vu, .none] } } := I3.kept (t' := s3.toks) fun b ob q => afn _ q
 obtain ⟨T, id, hT, ht, hg⟩ := hr pins { s3 with heap := s3.heap.push { cls := .type "slice", data := .fields #[vl, vu, .none] } } σ H3 x v vl vu l u s3.heap.objs.size Q I4 r1 (Heap.IsSliceOf.new ..) pl pu q3
 show wpAny (model X.prog X.w) X.A (subscriptTail e (.Slice lo hi none p2) v (.ref s3.heap.objs.size)) (EP X pins σ Q) X.xe { s3 with heap := s3.heap.push { cls := .type "slice", data := .fields #[vl, vu, .none] } }
 exact tail_any (ops := [.ref s3.heap.objs.size, v]) ht hT hg (by with_unfolding_all rfl)
noncomputable def GZ (xs : List V) (lo hi : Option Int) : List V := (xs.drop (HT.sY xs.length 0 lo)).take (HT.sY xs.length xs.length hi - HT.sY xs.length 0 lo)
theorem Bv (xs : List V) (lo hi : Option Int) : (GZ xs lo hi).length <= xs.length := by
 unfold GZ
 rw [agU, List.length_drop]
 omega
end
noncomputable def G0 (n : Nat) (i : Int) : Option Nat := if 0 <= i then (if i < n then some i.toNat else none) else if -(n : Int) <= i then some (i + n).toNat else none
noncomputable def sZ {α : Type} (xs : List α) (i : Int) : Option α := (G0 xs.length i).bind fun j => xs[j]?
theorem yk {n : Nat} {i : Int} {j : Nat} (h : G0 n i = some j) : seqIndex? i n = some j /\ j < n /\ -(n : Int) <= i /\ i < n := by
 unfold G0 at h
 by_cases h0 : 0 <= i
 . rw [afa h0] at h
   by_cases h1 : i < n
   . rw [afa h1] at h
     have e : i.toNat = j := afv h
     exact ⟨by rw [seqIndex_of h0 h1, e], by omega, by omega, h1⟩
   . rw [ae9 h1] at h; cases h
 . rw [ae9 h0] at h
   by_cases h1 : -(n : Int) <= i
   . rw [afa h1] at h
     have e : (i + n).toNat = j := afv h
     exact ⟨by rw [seqIndex_neg (by omega) h1, e], by omega, h1, by omega⟩
   . rw [ae9 h1] at h; cases h
theorem ym {α : Type} {xs : List α} {i : Int} {v : α} (h : sZ xs i = some v) : ∃ j, seqIndex? i xs.length = some j /\ xs[j]? = some v /\ j < xs.length /\ -(xs.length : Int) <= i /\ i < xs.length := by
 unfold sZ at h
 cases e : G0 xs.length i with
 | none => rw [e] at h; cases h
 | some j =>
   rw [e] at h
   obtain ⟨h1, h2, h3, h4⟩ := yk e
   exact ⟨j, h1, h, h2, h3, h4⟩
theorem dX {α : Type} {xs : List α} {j : Nat} {v : α} (h : xs[j]? = some v) : sZ xs (j : Int) = some v := by
 have hj : j < xs.length := (afA.mp h).1
 have e : G0 xs.length (j : Int) = some j := by
   unfold G0
   rw [afa (by omega), afa (by omega)]; simp
 unfold sZ; rw [e]; exact h
noncomputable def mG (b : Expr) : Prop := ∀ o i, subscripted b false o i = operate [o, i] (getItem o i)
noncomputable def ZM (X : Cx) (r : R2) : Prop :=
 ∀ (value slice : Expr) (pins : List (Addr × Obj)) (s : Shared) (σ : St) (H : Hp) (x y : V) (v u : Value) (Q : VK), Inv X pins σ H s -> RelV x v -> RelV y u -> r x y H Q →
   subscripted slice false v u = operate [v, u] (getItem v u) -> wpAny (model X.prog X.w) X.A (subscriptTail value slice v u) (EP X pins σ Q) X.xe s
noncomputable def MtR (X : Cx) (id : String) (r : V -> List V -> Hp -> VK -> Prop) : Prop :=
 ∀ (pins : List (Addr × Obj)) (s : Shared) (σ : St) (H : Hp) (x : V) (xs : List V) (v : Value) (us : List Value) (Q : VK), Inv X pins σ H s -> RelV x v -> Vals xs us -> r x xs H Q →
   wpAny (model X.prog X.w) X.A (call (.builtin id) (v :: us)) (EP X pins σ Q) X.xe s
section
variable {X : Cx} {a b : Expr} {ta tb : TE} {pos : Pos}
theorem Bw {r : R2} (hr : ZM X r) (ha : PE X a ta) (hb : PE X b tb) (hs : mG b) : PE X (.Subscript a b pos) (ZJ r ta tb) := by
 intro pins s σ H Q I h
 exact Subscript_ (T5 ha hb I h fun v u s2 x y H2 I2 rx ry q => hr a b pins s2 σ H2 x y v u Q I2 rx ry q (hs _ _))
noncomputable def aaO (K : PySem.W.Frag) : R2 := fun x y H Q => ∃ p xs i v, x = .ref p /\ y = .int i /\ kh K H p xs /\ sZ xs i = some v /\ Q v H
noncomputable def aaP (K : PySem.W.Frag) : R2 := fun x y H Q => ∃ p xs i v, x = .ref p /\ y = .int i /\ sX K H p xs /\ sZ xs i = some v /\ Q v H
noncomputable def aaQ : R2 := fun x y H Q => ∃ z i c, x = .str z /\ y = .int i /\ z.length <= sizeLine /\ sZ z.cps.toList i = some c /\ Q (.str ⟨#[c]⟩) H
theorem FI : ZM X (aaO X.K) := by
 intro value slice pins s σ H x y v u Q I rx ry h hs
 obtain ⟨p, xs, i, z, rfl, rfl, hq, he, q⟩ := h
 cases rx
 obtain ⟨t, rfl⟩ := ry
 obtain ⟨its, r, pl, hz⟩ := I.list hq
 obtain ⟨j, h1, h2, h3, h4, h5⟩ := ym he
 obtain ⟨w, ew, Uj⟩ := r.get h2
 have hl := r.length
 have hn := ux
 have fin : EP X pins σ Q w s := ⟨z, H, I, Uj, q⟩
 by_cases h0 : 0 <= i
 . have hj : i.toNat = j := by
     rw [seqIndex_of h0 h5] at h1
     exact afv h1
   exact item_listR pl.isList h0 (by omega) (by rw [hj]; simpa using ew) fin hs
 . have hj : (i + (its.toArray.size : Int)).toNat = j := by
     rw [seqIndex_neg (by omega) h4] at h1
     rw [afz, ← hl]
     exact afv h1
   exact subscriptTail_builtinR (x := w) pl.isList.typeIs slot_list_getitem.lookup
     (wpAny_getItem_list_neg (Q := fun r s' => r = w /\ EP X pins σ Q r s') pl.isList (by omega) (by rw [List.size_toArray] <;> omega) (by omega) (by rw [hj]; simpa using ew) ⟨rfl, fin⟩) hs
theorem Jq : ZM X (aaP X.K) := by
 intro value slice pins s σ H x y v u Q I rx ry h hs
 obtain ⟨p, xs, i, z, rfl, rfl, hq, he, q⟩ := h
 cases rx
 obtain ⟨t, rfl⟩ := ry
 obtain ⟨its, r, pl, hz⟩ := I.tuple hq
 obtain ⟨j, h1, h2, h3, h4, h5⟩ := ym he
 obtain ⟨w, ew, Uj⟩ := r.get h2
 have hl := r.length
 have hn := ux
 have fin : EP X pins σ Q w s := ⟨z, H, I, Uj, q⟩
 exact subscriptTail_builtinR (x := w) pl.typeIs slot_tuple_getitem.lookup
   (getItem_tuple (j := j) (Q := fun r s' => r = w /\ EP X pins σ Q r s') pl (by omega) (by omega) (by rw [List.size_toArray, ← hl]; exact h1) (by simpa using ew) ⟨rfl, fin⟩) hs
theorem Uk : ZM X aaQ := by
 intro value slice pins s σ H x y v u Q I rx ry h hs
 obtain ⟨z, i, c, rfl, rfl, hz, he, q⟩ := h
 obtain ⟨t, rfl⟩ := rx
 obtain ⟨t', rfl⟩ := ry
 obtain ⟨j, h1, h2, h3, h4, h5⟩ := ym he
 have hl : z.cps.toList.length = z.length := by simp [Str.length]
 rw [hl] at h1 h4 h5
 have hn := ux
 exact tail_any (typeIs_str s z t) slot_str_getitem.lookup (getItem_str (c := c) (by
   have e1 : decide (i < -(2 ^ 63 : Int)) = false := afY (by omega)
   have e2 : decide (i ≥ 2 ^ 63) = false := afY (by omega)
   rw [e1, e2, Bool.or_false]) (by rw [h1]; simpa using h2) ⟨.str ⟨#[c]⟩, H, I.tok _, ⟨_, rfl⟩, q⟩) hs
theorem Dw (its : List Value) (n j : Nat) (u : Value) : Obj.mapSeq (·.setIfInBounds j u) { cls := .type "list", data := .seq its.toArray n } = { cls := .type "list", data := .seq (its.set j u).toArray n } := by
 simp [Obj.mapSeq]
theorem Inv.lst {pins : List (Addr × Obj)} {σ : St} {H : Hp} {s : Shared} {p : Addr} {xs : List V} (I : Inv X pins σ H s) (h : H p = some (.lst xs)) :
   ∃ (its : List Value) (n : Nat), Vals xs its /\ s.heap.get? p = some { cls := .type "list", data := .seq its.toArray n } /\ xs.length <= sizeLine := by
 obtain ⟨z, its, n, r, e⟩ := I.dw p _ h
 exact ⟨its, n, r, e, z⟩
theorem Inv.Ul {pins : List (Addr × Obj)} {σ : St} {H : Hp} {s : Shared} {p : Addr} {xs ys : List V} {its its' : List Value} {n n' : Nat} {f : Obj -> Obj} (I : Inv X pins σ H s) (h : H p = some (.lst xs))
   (ho : s.heap.get? p = some { cls := .type "list", data := .seq its.toArray n }) (hf : f { cls := .type "list", data := .seq its.toArray n } = { cls := .type "list", data := .seq its'.toArray n' }) (r : Vals ys its') (hz : ys.length <= sizeLine) (t : Nat) :
   Inv X pins σ (upd H p (.lst ys)) { s with heap := s.heap.update p f, toks := t } := by
 have e : (s.heap.update p f).get? p = some { cls := .type "list", data := .seq its'.toArray n' } := by
   rw [Heap.get?_update_self f ho (by rw [hf] <;> rfl), hf]
 refine I.write (x := p) (e := p) (by rw [h]; trivial) (.inl rfl) (fun b u hb q => (Heap.get?_update_other _ _ (Ne.symm hb)).trans q) ⟨_, e⟩ ?_
 exact ⟨hz, its', n', r, e⟩
noncomputable def XH : V -> V -> V -> Hp -> (Hp -> Prop) -> Prop := fun o i v H Q => ∃ p xs k j, o = .ref p /\ i = .int k /\ H p = some (.lst xs) /\ G0 xs.length k = some j /\ Q (upd H p (.lst (xs.set j v)))
theorem set_list : Xl X XH := by
 intro pins s σ H o i v ov iv u Q I ro ri rv h
 obtain ⟨p, xs, k, j, rfl, rfl, hp, hj, q⟩ := h
 cases ro
 obtain ⟨t, rfl⟩ := ri
 obtain ⟨its, n, r, ho, hz⟩ := I.lst hp
 obtain ⟨h1, h2, h3, h4⟩ := yk hj
 have hl := r.length
 have hn := ux
 have I' : Inv X pins σ (upd H p (.lst (xs.set j v))) { s with heap := s.heap.update p (Obj.mapSeq (·.setIfInBounds j u)) } :=
   I.Ul hp ho (Dw its n j u) (r.set rv j) (by rw [List.length_set]; exact hz) s.toks
 by_cases h0 : 0 <= k
 . have hk : k.toNat = j := by
     rw [seqIndex_of h0 h4] at h1
     exact afv h1
   exact PySem.W.ki_setAt ho h0 (by omega) (by rw [afz, ← hl]; exact h4) (by rw [hk]; exact ⟨_, I', q⟩)
 . have hk : (k + (its.toArray.size : Int)).toNat = j := by
     rw [seqIndex_neg (by omega) h3] at h1
     rw [afz, ← hl]
     exact afv h1
   exact PySem.W.ki_setBack ho (by omega) (by rw [afz, ← hl]; exact h3) (by omega) (by rw [hk]; exact ⟨_, I', q⟩)
theorem yo (lo hi : Option Int) (n : Nat) : (sliceBounds lo hi none n).1 = ((HT.sY n 0 lo : Nat) : Int) /\ (sliceBounds lo hi none n).2.1 = ((HT.sY n n hi : Nat) : Int) /\ (sliceBounds lo hi none n).2.2 = 1 := by
 refine ⟨?_, ?_, rfl⟩
 . cases lo with
   | none => simp [sliceBounds, HT.sY]
   | some i =>
     simp only [sliceBounds, HT.sY, Option.getD_none, show (1 : Int) > 0 by decide, agS]
     by_cases h : i < 0
     . simp only [h, agS] <;> omega
     . simp only [h, agE] <;> omega
 . cases hi with
   | none => simp [sliceBounds, HT.sY]
   | some i =>
     simp only [sliceBounds, HT.sY, Option.getD_none, show (1 : Int) > 0 by decide, agS]
     by_cases h : i < 0
     . simp only [h, agS] <;> omega
     . simp only [h, agE] <;> omega
theorem wB (its : List Value) (lo hi : Option Int) : slicePick its.toArray lo hi none = ((its.drop (HT.sY its.length 0 lo)).take (HT.sY its.length its.length hi - HT.sY its.length 0 lo)).toArray := by
 obtain ⟨h1, h2, h3⟩ := yo lo hi its.toArray.size
 unfold slicePick
 rw [h1, h2, h3]
 simp only [sliceRange_one, pick_run, afz] <;> rfl
noncomputable def aaR (K : PySem.W.Frag) : V -> Option Int -> Option Int -> Hp -> VK -> Prop := fun x lo hi H Q => ∃ a xs, x = .ref a /\ kh K H a xs /\ ∀ p, H p = none -> Q (.ref p) (upd H p (.lst (GZ xs lo hi)))
theorem M8 : SlR X (aaR X.K) := by
 intro pins s σ H x v vl vu lo hi sl Q I rx hs pl pu h
 obtain ⟨a, xs, rfl, hx, q⟩ := h
 cases rx
 obtain ⟨its, r, ht, hz⟩ := I.list hx
 have hlen := r.length
 refine ⟨"list", _, slot_list_getitem.lookup, ht.isList.typeIs, ?_⟩
 refine wpAny_getItem_list_slice ht.isList hs pl pu .none (by simp) ?_ (by rw [afz] <;> omega)
 rw [wB, ← hlen]
 refine ⟨.ref s.heap.objs.size, _, I.laid (t' := s.toks) (o := .lst (GZ xs lo hi)) (fun b ob q => afn _ q) (afg _) ?_, rfl, q _ (I.dw.fresh (afg _))⟩
 exact ⟨afU (Bv xs lo hi) hz, _, 0, (r.drop (HT.sY xs.length 0 lo)).take (HT.sY xs.length xs.length hi - HT.sY xs.length 0 lo), afE _ rfl⟩
noncomputable def n8 : V -> Bool
 | .non => true
 | .bl _ => true
 | .int _ => true
 | .str _ => true
 | _ => false
noncomputable def Jr : V -> V -> Bool
 | .non, .non => true
 | .bl a, .bl b => a == b
 | .bl a, .int b => (if a then 1 else 0) == b
 | .int a, .bl b => a == (if b then 1 else 0)
 | .int a, .int b => a == b
 | .str a, .str b => a == b
 | _, _ => false
theorem Um {A : Around} {s : Shared} {y x : V} {u v : Value} (ry : RelV y u) (rx : RelV x v) (fy : n8 y = true) (fx : n8 x = true) : SeqAt.EqAt A s u v (Jr y x) := by
 cases y with
 | non =>
   cases ry
   cases x with
   | non => cases rx; exact SeqAt.EqAt.same _
   | bl b => cases rx; exact SeqAt.EqAt.none_bool b
   | int b => obtain ⟨t, rfl⟩ := rx; exact SeqAt.EqAt.none_int b t
   | str b => obtain ⟨t, rfl⟩ := rx; exact SeqAt.EqAt.none_str b t
   | _ => exact absurd (show false = true from fx) afr
 | bl a =>
   cases ry
   cases x with
   | non => cases rx; exact SeqAt.EqAt.bool_none a
   | bl b => cases rx; exact SeqAt.EqAt.bool_bool a b
   | int b => obtain ⟨t, rfl⟩ := rx; exact SeqAt.EqAt.bool_int a b t
   | str b => obtain ⟨t, rfl⟩ := rx; exact SeqAt.EqAt.bool_str a b t
   | _ => exact absurd (show false = true from fx) afr
 | int a =>
   obtain ⟨t', rfl⟩ := ry
   cases x with
   | non => cases rx; exact SeqAt.EqAt.int_none a t'
   | bl b => cases rx; exact SeqAt.EqAt.int_bool a t' b
   | int b => obtain ⟨t, rfl⟩ := rx; exact SeqAt.EqAt.int_int a t' b t
   | str b => obtain ⟨t, rfl⟩ := rx; exact SeqAt.EqAt.int_str a t' b t
   | _ => exact absurd (show false = true from fx) afr
 | str a =>
   obtain ⟨t', rfl⟩ := ry
   cases x with
   | non => cases rx; exact SeqAt.EqAt.str_none a t'
   | bl b => cases rx; exact SeqAt.EqAt.str_bool a t' b
   | int b => obtain ⟨t, rfl⟩ := rx; exact SeqAt.EqAt.str_int a t' b t
   | str b => obtain ⟨t, rfl⟩ := rx; exact SeqAt.EqAt.str_str a t' b t
   | _ => exact absurd (show false = true from fx) afr
 | _ => exact absurd (show false = true from fy) afr
noncomputable def Dy (x : V) (u : Value) : Bool := match u with
 | .none => Jr .non x
 | .bool b => Jr (.bl b) x
 | .int i _ => Jr (.int i) x
 | .str z _ => Jr (.str z) x
 | _ => false
theorem Js {x y : V} {u : Value} (r : RelV y u) (f : n8 y = true) : Dy x u = Jr y x := by
 cases y with
 | non => cases r; rfl
 | bl b => cases r; rfl
 | int i => obtain ⟨t, rfl⟩ := r; rfl
 | str z => obtain ⟨t, rfl⟩ := r; rfl
 | _ => exact absurd (show false = true from f) afr
theorem pL {x : V} : ∀ {xs : List V} {us : List Value}, Vals xs us -> xs.all n8 = true -> us.any (Dy x) = xs.any fun y => Jr y x
 | _, _, .nil, _ => rfl
 | y :: xs, u :: us, .cons r t, f => by
   rw [ag5, afJ] at f
   rw [ago, ago, Js r f.1, pL t f.2]
theorem lD {A : Around} {s : Shared} {x : V} {v : Value} (rx : RelV x v) (fx : n8 x = true) : ∀ {xs : List V} {us : List Value}, Vals xs us -> xs.all n8 = true -> ∀ u ∈ us, SeqAt.EqAt A s u v (Dy x u)
 | _, _, .nil, _ => fun u hu => by cases hu
 | y :: xs, u :: us, .cons r t, f => fun u' hu => by
   rw [ag5, afJ] at f
   rcases afe.mp hu with rfl | hu
   . rw [Js r f.1]; exact Um r rx f.1 fx
   . exact lD rx fx t f.2 u' hu
noncomputable def R5 (x : V) (xs : List V) : Bool := xs.any fun y => Jr y x
noncomputable def rIn (K : PySem.W.Frag) (neg : Bool) : R2 := fun x y H Q => ∃ p xs, y = .ref p /\ (kh K H p xs \/ sX K H p xs) /\ n8 x = true /\ xs.all n8 = true /\ Q (.bl (if neg then !R5 x xs else R5 x xs)) H
theorem mH : qV X (compareOp .In) (rIn X.K false) := by
 intro pins s σ H x y v u Q I rx ry h
 obtain ⟨p, xs, rfl, hq, fx, fs, q⟩ := h
 cases ry
 rcases hq with hq | hq
 . obtain ⟨its, r, pl, hz⟩ := I.list hq
   refine SeqAt.in_listAt (Dy x) pl.isList (fun w hw => lD rx fx r fs w (by simpa using hw)) ⟨.bl _, H, I, rfl, ?_⟩
   rw [show its.toArray.any (Dy x) = its.any (Dy x) by simp, pL r fs]
   exact q
 . obtain ⟨its, r, pl, hz⟩ := I.tuple hq
   refine SeqAt.in_tupleAt (Dy x) pl (fun w hw => lD rx fx r fs w (by simpa using hw)) ⟨.bl _, H, I, rfl, ?_⟩
   rw [show its.toArray.any (Dy x) = its.any (Dy x) by simp, pL r fs]
   exact q
theorem gU : qV X (compareOp .NotIn) (rIn X.K true) := by
 intro pins s σ H x y v u Q I rx ry h
 obtain ⟨p, xs, rfl, hq, fx, fs, q⟩ := h
 cases ry
 rcases hq with hq | hq
 . obtain ⟨its, r, pl, hz⟩ := I.list hq
   refine SeqAt.notIn_listAt (Dy x) pl.isList (fun w hw => lD rx fx r fs w (by simpa using hw)) ⟨.bl _, H, I, rfl, ?_⟩
   rw [show its.toArray.any (Dy x) = its.any (Dy x) by simp, pL r fs]
   exact q
 . obtain ⟨its, r, pl, hz⟩ := I.tuple hq
   refine SeqAt.notIn_tupleAt (Dy x) pl (fun w hw => lD rx fx r fs w (by simpa using hw)) ⟨.bl _, H, I, rfl, ?_⟩
   rw [show its.toArray.any (Dy x) = its.any (Dy x) by simp, pL r fs]
   exact q
theorem yp : pK X (.builtin "len") (fun xs H Q => ∃ p ys, xs = [.ref p] /\ (kh X.K H p ys \/ sX X.K H p ys) /\ Q (.int ys.length) H) := by
 intro pins s σ H xs us Q I r h
 obtain ⟨p, ys, rfl, hq, q⟩ := h
 obtain ⟨u, rfl, rx⟩ := vals1 r
 cases rx
 have hn := ux
 rcases hq with hq | hq
 . obtain ⟨its, r', pl, hz⟩ := I.list hq
   have hlen := r'.length
   exact Calls.call_len_list pl.isList (by simp only [afz] <;> omega) ⟨.int ys.length, H, I.tok _, ⟨s.toks + 1, by rw [afz, hlen]⟩, q⟩
 . obtain ⟨its, r', pl, hz⟩ := I.tuple hq
   have hlen := r'.length
   exact len_tuple pl (by simp only [afz] <;> omega) ⟨.int ys.length, H, I.tok _, ⟨s.toks + 1, by rw [afz, hlen]⟩, q⟩
theorem yq : pK X (.type "list") (fun xs H Q => ∃ p ys, xs = [.ref p] /\ (kh X.K H p ys \/ sX X.K H p ys) /\ ∀ l, H l = none -> Q (.ref l) (upd H l (.lst ys))) := by
 intro pins s σ H xs us Q I r h
 obtain ⟨p, ys, rfl, hq, q⟩ := h
 obtain ⟨u, rfl, rx⟩ := vals1 r
 cases rx
 have fin : ∀ (its : List Value), Vals ys its -> ys.length <= sizeLine -> ∀ (h' : Heap) (c' : Nat), (∀ b o', s.heap.get? b = some o' -> h'.get? b = some o') →
     h'.get? s.heap.objs.size = some { cls := .type "list", dict := none, data := .seq its.toArray c', slots := #[] } -> EP X pins σ Q (.ref s.heap.objs.size) { s with heap := h' } := fun its r' hz h' c' kp e =>
   ⟨.ref s.heap.objs.size, _, I.laid (t' := s.toks) kp (afg _) (show d9 X.prog X.w _ h' _ (.lst ys) from ⟨hz, its, c', r', e⟩), rfl, q _ (I.dw.fresh (afg _))⟩
 rcases hq with hq | hq
 . obtain ⟨its, r', pl, hz⟩ := I.list hq
   have hlen := r'.length
   obtain ⟨o, ho, hc, n, hd⟩ := pl.isList
   exact call_list_seq p (.inl rfl) ho hc hd (fun h' c' kp e => fin its r' hz h' c' kp e) (by simp only [afz] <;> omega)
 . obtain ⟨its, r', pl, hz⟩ := I.tuple hq
   have hlen := r'.length
   obtain ⟨o, ho, hc, n, hd⟩ := pl
   exact call_list_seq p (.inr rfl) ho hc hd (fun h' c' kp e => fin its r' hz h' c' kp e) (by simp only [afz] <;> omega)
theorem wC : pK X (.type "tuple") (fun xs H Q => ∃ p ys, xs = [.ref p] /\ ((kh X.K H p ys /\ ∀ l, H l = none -> Q (.ref l) (upd H l (.tup ys))) \/ (sX X.K H p ys /\ Q (.ref p) H))) := by
 intro pins s σ H xs us Q I r h
 obtain ⟨p, ys, rfl, h⟩ := h
 obtain ⟨u, rfl, rx⟩ := vals1 r
 cases rx
 rcases h with ⟨hq, q⟩ | ⟨hq, q⟩
 . obtain ⟨its, r', pl, hz⟩ := I.list hq
   have hlen := r'.length
   refine call_tuple_list pl.isList (fun h' kp => ?_) (by simp only [afz] <;> omega)
   have I1 : Inv X pins σ H { s with heap := h' } := I.kept (t' := s.toks) kp
   have I2 : Inv X pins σ (upd H h'.objs.size (.tup ys)) { s with heap := h'.push { cls := .type "tuple", data := .seq its.toArray } } :=
     I1.laid (t' := s.toks) (fun b o e => afn _ e) (afg _) (show d9 X.prog X.w _ _ _ (.tup ys) from ⟨hz, its, r', IsTup.new _ _⟩)
   exact ⟨.ref h'.objs.size, _, I2, rfl, q _ (I1.dw.fresh (afg _))⟩
 . obtain ⟨its, r', pl, hz⟩ := I.tuple hq
   exact call_tuple_same pl ⟨.ref p, H, I, rfl, q⟩
noncomputable def tyV (K : PySem.W.Frag) (T : String) (x : V) (H : Hp) : Prop := match x with
 | .str _ => T = "str"
 | .int _ => T = "int"
 | .ref p => (T = "list" /\ ∃ xs, kh K H p xs) \/ (T = "tuple" /\ ∃ o, K.lookup p = some o /\ o.cls = .type "tuple" /\ o.dict = none) ∨
     (T = "dict" /\ ((∃ kvs, H p = some (.dK kvs)) \/ ∃ kvs, H p = some (.dT kvs))) \/ (T = "set" /\ ∃ S n, H p = some (.set S n))
 | _ => False
theorem Uo {pins : List (Addr × Obj)} {σ : St} {H : Hp} {s : Shared} {T : String} {x : V} {v : Value} (I : Inv X pins σ H s) (r : RelV x v) (ty : tyV X.K T x H) :
   s.TypeIs v T /\ ∀ a, v = .ref a -> ∃ ob, s.heap.get? a = some ob /\ ob.dict = none := by
 cases x with
 | str z =>
   obtain ⟨t, rfl⟩ := r
   cases (show T = "str" from ty)
   exact ⟨typeIs_str s z t, fun _ e => nomatch e⟩
 | int i =>
   obtain ⟨t, rfl⟩ := r
   cases (show T = "int" from ty)
   exact ⟨typeIs_int s i t, fun _ e => nomatch e⟩
 | ref p =>
   cases r
   rcases ty with ⟨rfl, xs, hq⟩ | ⟨rfl, o, hk, hc, hd⟩ | ⟨rfl, hk⟩ | ⟨rfl, S, n, hk⟩
   . obtain ⟨its, _, pl, _⟩ := I.list hq
     refine ⟨pl.isList.typeIs, fun a e => ?_⟩
     cases e
     obtain ⟨o, n, e, c, hd, _⟩ := pl
     exact ⟨o, e, hd⟩
   . refine ⟨⟨o, I.Bd p o hk, hc⟩, fun a e => ?_⟩
     cases e
     exact ⟨o, I.Bd _ o hk, hd⟩
   . have z : ∃ o, s.heap.get? p = some o /\ o.ExactDict := by
       rcases hk with ⟨kvs, hk⟩ | ⟨kvs, hk⟩
       . obtain ⟨_, _, _, _, o, _, _, e, ex, _⟩ := I.dw p _ hk
         exact ⟨o, e, ex⟩
       . obtain ⟨_, _, _, _, o, _, _, e, ex, _⟩ := I.dw p _ hk
         exact ⟨o, e, ex⟩
     obtain ⟨o, e, ex⟩ := z
     refine ⟨⟨o, e, ex.1⟩, fun a e2 => ?_⟩
     cases e2
     exact ⟨o, e, ex.2.1⟩
   . obtain ⟨o, _, _, _, e, ex, _⟩ := I.dw p _ hk
     refine ⟨⟨o, e, ex.1⟩, fun a e2 => ?_⟩
     cases e2
     exact ⟨o, e, ex.2.1⟩
 | _ => exact False.elim ty
noncomputable def tBM (K : PySem.W.Frag) (T : String) (r : V -> List V -> Hp -> VK -> Prop) (to : TE) (t : TA) : TE := fun σ H Q => to σ H fun x H1 => tyV K T x H1 /\ t σ H1 fun xs H2 => r x xs H2 Q
variable {o e : Expr} {es : List Expr} {to : TE} {t : TA} {name : Str} {apos By : Pos} {T id : String} {r : V -> List V -> Hp -> VK -> Prop}
theorem R6 (pa : PlainAttrs T) (slot : Slot T name id) (hty : typeOf (.builtin id) = pure (.type "method_descriptor")) (hm : MtR X id r) (ho : PE X o to) (ha : PA X (e :: es) t)
   (uA : attributeBase o name X.env (eval o X.env) = eval o X.env := by rfl)
   (Dz : ((backTo By (starEach (e :: es) X.env)).all (fun x => !x.1) && (backToKw By (keywordEach [] X.env)).all (fun x => x.1.isSome)
     && decide ((e :: es).length + ([] : List Keyword).length + (if ([] : List Keyword).isEmpty then 0 else 1) < 30)) = true := by rfl)
   (hline : (apos.endLine == By.line) = true := by rfl) (hs : starEach (e :: es) X.env = (false, eval e X.env) :: starEach es X.env := by rfl) (DB : (backTo By (starEach es X.env)).any (·.1) = false := by rfl) :
   PE X (.Call (.Attribute o name apos) (e :: es) [] By) (tBM X.K T r to t) := by
 intro pins s σ H Q I h
 refine wpAny_Call_method_late uA Dz hline rfl (dU (ho pins s σ H _ I h) fun v s1 zz => ?_)
 obtain ⟨x, H1, I1, r1, ty, q1⟩ := zz
 obtain ⟨h1, h2⟩ := Uo I1 r1 ty
 refine ⟨T, id, pa, slot, hty, h1, h2, ?_⟩
 have hA := ha By pins s1 σ H1 _ I1 q1
 rw [hs] at hA ⊢
 refine Calls.callWith_builtin (by show (false || (backTo By (starEach es X.env)).any (·.1)) = false; rw [DB] <;> rfl) (Calls.evalArgs_plain ?_)
 exact dU hA fun us s2 ⟨vs, H2, I2, r2, q2⟩ => hm pins s2 σ H2 x vs v us Q I2 r1 r2 q2
end
noncomputable def MtM (X : Cx) (id : String) (r : V -> List V -> Hp -> VK -> Prop) : Prop :=
 ∀ (pins : List (Addr × Obj)) (s : Shared) (σ : St) (H : Hp) (x : V) (xs : List V) (v : Value) (us : List Value) (Q : VK), Inv X pins σ H s -> RelV x v -> Vals xs us -> r x xs H Q →
   wpAny (model X.prog X.w) X.A (call (.builtin id) (v :: us)) (EP X pins σ Q) X.xe s
theorem Vals.one {x : V} {us : List Value} (h : Vals [x] us) : ∃ u, us = [u] /\ RelV x u := by
 cases h with
 | cons r h => cases h; exact ⟨_, rfl, r⟩
theorem Vals.two {x y : V} {us : List Value} (h : Vals [x, y] us) : ∃ u v, us = [u, v] /\ RelV x u /\ RelV y v := by
 cases h with
 | cons r h => cases h with
   | cons q h => cases h; exact ⟨_, _, rfl, r, q⟩
theorem Vals.rep {xs : List V} {us : List Value} (h : Vals xs us) : ∀ k : Nat, Vals (List.replicate k xs).flatten (List.replicate k us).flatten
 | 0 => .nil
 | k + 1 => by
   rw [agl, agl, agF, agF]
   exact Vals.append h (Vals.rep h k)
theorem foldl_rep (its : List Value) : ∀ (k : Nat) (acc : List Value),
   List.foldl (fun x1 x2 => x1 ++ x2) acc.toArray (List.replicate k its.toArray) = (acc ++ (List.replicate k its).flatten).toArray
 | 0, acc => by simp
 | k + 1, acc => by
   have e : acc.toArray ++ its.toArray = (acc ++ its).toArray := by simp
   have e2 : (acc ++ its) ++ (List.replicate k its).flatten = acc ++ (List.replicate (k + 1) its).flatten := by
     rw [agl, agF, afi]
   rw [← e2, ← foldl_rep its k (acc ++ its), ← e, agl, List.foldl_cons]
section
variable {X : Cx} {pins : List (Addr × Obj)} {σ : St} {H : Hp} {s : Shared} {l b : Addr} {xs ys zs : List V}
theorem Inv.aaS {its its' : List Value} {n : Nat} {f : Array Value -> Array Value} {t' : Nat} (I : Inv X pins σ H s) (hH : H l = some (.lst xs))
   (e : s.heap.get? l = some { cls := .type "list", data := .seq its.toArray n }) (hf : f its.toArray = its'.toArray) (hv : Vals ys its') (hz : ys.length <= sizeLine) :
   Inv X pins σ (upd H l (.lst ys)) { s with heap := s.heap.update l (Obj.mapSeq f), toks := t' } := by
 have q := PySem.IsL.update e f
 rw [hf] at q
 refine I.write (x := l) (e := l) (by rw [hH]; exact trivial) (.inl rfl) (fun b' u hb hu => (Heap.get?_update_other s.heap (Obj.mapSeq f) (Ne.symm hb)).trans hu) ⟨_, q⟩ ?_
 exact ⟨hz, its', _, hv, q⟩
theorem Inv.XI {its : List Value} {t' : Nat} (I : Inv X pins σ H s) (hv : Vals ys its) (hz : ys.length <= sizeLine) :
   Inv X pins σ (upd H s.heap.objs.size (.lst ys)) { s with heap := s.heap.push { cls := .type "list", data := .seq its.toArray }, toks := t' } :=
 I.laid (fun _ _ q => afn _ q) (afg _) ⟨hz, its, 0, hv, afE _ rfl⟩
theorem Inv.fresh (I : Inv X pins σ H s) : H s.heap.objs.size = none := I.dw.fresh (afg _)
theorem Inv.aaT (I : Inv X pins σ H s) (hH : H l = some (.lst xs)) : xs.length <= sizeLine /\ ∃ (its : List Value) (n : Nat), Vals xs its /\ xs.length = its.length /\ s.heap.get? l = some { cls := .type "list", data := .seq its.toArray n } := by
 obtain ⟨z, its, n, r, e⟩ := I.dw l _ hH
 exact ⟨z, its, n, r, r.length, e⟩
theorem Jt {n : Nat} (h : n <= sizeLine) : Builtin.List.listTooLong n = false := by
 unfold Builtin.List.listTooLong
 exact afY (by omega)
end
section
variable {X : Cx}
noncomputable def M9 : V -> List V -> Hp -> VK -> Prop := fun x vs H Q => ∃ l xs y, x = .ref l /\ vs = [y] /\ H l = some (.lst xs) /\ xs.length < sizeLine /\ Q .non (upd H l (.lst (xs ++ [y])))
theorem xG : MtM X "list.append" M9 := by
 intro pins s σ H x vs v us Q I rx rv h
 obtain ⟨l, xs, y, rfl, rfl, hH, hz, q⟩ := h
 cases rx
 obtain ⟨u, rfl, ru⟩ := rv.one
 obtain ⟨z, its, n, r, hl, e⟩ := I.aaT hH
 refine call_meets F.slot_list_append ⟨_, e, rfl⟩ F.entry_list_append (F.args_list_append_2 _ _) (PySem.list_append l its.toArray n u (by rw [afz]; omega)) ⟨e, ?_⟩
 refine ⟨.non, _, I.aaS (its' := its ++ [u]) hH e (by simp) (r.append (.cons ru .nil)) ?_, rfl, q⟩
 rw [afy, List.length_singleton]
 omega
theorem len_rep {α : Type} (xs : List α) (k : Nat) : (List.replicate k xs).flatten.length = k * xs.length := by
 induction k with
 | zero => simp
 | succ k ih => rw [agl, agF, afy, ih, Nat.succ_mul, Nat.add_comm]
end
section
variable {prog : Program} {w : World} {A : Around} {E : Value -> Shared -> Prop} {s : Shared}
set_option maxRecDepth 100000 in
end
section
variable {X : Cx}
end
end L2
namespace Att
open PySem PySem.W PySem.Calls PyProof.Rows
theorem tu {P : Params} {h : Heap} : ∀ (ns : List Int) (vs : List Value), WellAll P h vs (ns.map WData.int) -> IntsAre vs ns := by
 intro ns
 induction ns with
 | nil =>
   intro vs w
   rw [List.map_nil] at w
   cases w
   exact .nil
 | cons n ns ih =>
   intro vs w
   rw [List.map_cons] at w
   cases w with
   | cons a b =>
     cases a
     exact .cons _ _ (ih _ b)
theorem G3 {l : OpenLaw} {n : Nat} (hn : l.most = some n) {P : Params} {h : Heap} {args : List WData} {vals : List Value}
   (tD : l.row.toRowW.claim.pre args = true) (FJ : WellAll P h vals args) :
   ∃ a vs ns, vals = [Value.ref a] /\ args = [WData.list (ns.map WData.int)] /\ h.get? a = some { cls := .type "list", data := .seq vs.toArray } /\ IntsAre vs ns /\ ns.length <= n := by
 have hsh : WShape.hasAll [] args [.list .int] = true := (pre_splitW tD).1
 have hc : l.pre.holds [] { args := args } = true := (pre_splitW tD).2
 obtain ⟨d, r, rfl, h1, h2⟩ := hasAllW_cons hsh
 obtain rfl := hasAllW_nil h2
 obtain ⟨xs, rfl, h3⟩ := hasW_list h1
 obtain ⟨ns, rfl⟩ := items_int h3
 have hlen : ns.length <= n := by
   unfold OpenLaw.pre at hc
   have h4 : (WTm.not (.lt (.lit (.int (n : Int))) (.len (.arg 0)))).holds [] { args := [.list (ns.map .int)] } = true := by
     have h4 := (holds_andW hc).1
     rw [hn] at h4
     exact h4
   have h5 := condW_of h4 (w_not (w_lt w_lit (w_len_list (w_arg rfl))))
   rw [List.length_map] at h5
   refine Nat.le_of_not_lt fun q => ?_
   have q' : (n : Int) < ((ns.length : Nat) : Int) := by omega
   first
     | (rw [decide_eq_true q'] at h5; exact absurd h5 (by decide))
     | (simp at h5; omega)
 cases FJ with
 | cons w1 w2 =>
   cases w2
   cases w1 with
   | list ho DC => exact ⟨_, _, ns, rfl, rfl, ho, tu ns _ DC, hlen⟩
theorem G4 (l : OpenLaw) (args : List WData) : l.row.toRowW.claim.post args (.bool true) args = true :=
 postW_of (r := l.row.toRowW) (X := (true == true))
   (show WShape.has [] (.bool true) .bool = true by first | rfl | decide | simp [WShape.has, WShape.arms, WShape.armsAll])
   (show (WTm.eq .res (.lit (.bool true))).value [] { args := args, res := some (.bool true), after := args } = some (.bool (true == true)) from w_eq_bool (w_res rfl) w_lit) rfl
theorem BD {l : OpenLaw} {n : Nat} {q : Program} {loose : List Str} {XP : (Str -> Option Value) -> Heap -> Prop} {YP : World -> Heap -> Prop} {d : DefRec}
   (hn : l.most = some n) (XJ : d.params.defaults = [])
   (call : ∀ (w : World) (s₀ s₁ : Shared) (mg mb : Str -> Option Value) (fa : Addr) (o : Obj) (pm cd doc : Value) (a : Addr) (vs : List Value) (ns : List Int),
     Ground q loose [] XP w s₀ mg mb s₁.heap -> YP w s₁.heap →
     s₁.heap.get? fa = some o -> o.data = .func (docDef d.name d.params d.body d.scope pm cd doc) -> s₁.heap.CodeRec cd d.name -> mg d.name = some (.ref fa) →
     s₁.heap.get? a = some { cls := .type "list", data := .seq vs.toArray } -> IntsAre vs ns -> ns.length <= n -> s₁.gens = #[] →
     codeAny (model l.prog w) callerA (.call (.ref fa) ⟨[.ref a], []⟩) (fun r s' => r = .ok (.ret (.bool true)) /\ OldK s₁.heap s'.heap /\ s'.os = s₁.os /\ AllBare s'.gens) s₁) :
   WalkO q loose XP YP l.row.toRowW d [] (fun f vs => PySem.call f vs) := by
 intro w s₀ s₁ mg mb G Y fa o pm cd doc dV kV ho hd iD hD XM hg args vals as tD hlay ZN FJ hlo
 obtain rfl : dV = .none := Dflts.none hD XJ
 obtain rfl : kV = .none := Dflts.noKw hD
 obtain ⟨a, vs, ns, rfl, rfl, Up, hints, hlen⟩ := G3 hn tD FJ
 refine enter_call (codeAny_mono (call w s₀ s₁ mg mb fa o pm cd doc a vs ns G Y ho (fd_plain hd) iD XM Up hints hlen hg) fun r s' hq => ?_)
 obtain ⟨rfl, h2, h3, h4⟩ := hq
 exact ⟨.inl ⟨.bool true, .bool true, [], rfl, fun _ => rfl, .bool true, G4 l _, fun _ => ⟨List.Pairwise.nil, fun _ hm => (nomatch hm)⟩⟩, h2, h3, h4⟩
section
variable {prog : Program} {w : World} {A : Around} {E : Value -> Shared -> Prop} {s : Shared} {K : Frag}
noncomputable def ledger (h : Heap) (L d : Addr) : List (Addr × Obj) := (List.range h.objs.size).filterMap fun a => if a = L \/ a = d then none else (h.get? a).map fun o => (a, o)
end
end Att
namespace L2
open PySem PySem.Spec PyProof.Rows
theorem xH : ∀ {vs : List Value} {ns : List Int}, IntsAre vs ns -> Vals (ns.map V.int) vs
 | _, _, .nil => .nil
 | _, _, .cons n t h => .cons ⟨t, rfl⟩ (xH h)
noncomputable def inClass (s : Stmt) (j : Nat) : Stmt := match s with
 | .ClassDef _ _ _ body _ _ _ _ _ _ _ => body.getD j (.Pass ⟨0, 0, 0, 0⟩)
 | _ => .Pass ⟨0, 0, 0, 0⟩
noncomputable def tL (s : Stmt) : Arguments := match s with
 | .FunctionDef _ a _ _ _ _ _ _ _ _ => a
 | _ => { posonlyargs := [], args := [], vararg := none, kwonlyargs := [], kw_defaults := [], kwarg := none, defaults := [] }
noncomputable def fu (s : Stmt) : List Stmt := match s with
 | .FunctionDef _ _ b _ _ _ _ _ _ _ => b
 | _ => []
noncomputable def ao (s : Stmt) : Scope := match s with
 | .FunctionDef _ _ _ _ _ _ sc _ _ _ => sc
 | _ => { kind := .function, names := [], isGenerator := false, isCoroutine := false }
noncomputable abbrev gq : Jl := fun _ _ _ _ _ _ => False
noncomputable abbrev E0 : XK := fun _ _ _ => False
theorem FL {X : Cx} : Passes gq X E0 := fun _ _ _ _ _ _ _ h => h.elim
structure iY (K : PySem.W.Frag) (x qual : Str) (st : Stmt) (f : Addr) (fd : FuncData) : Prop where
 ex : ∃ (oc : Value) (od : Option Addr) (kV doc pm : Value) (an : Option Addr) (dI ct : Value) (IQ : Array (Option Value)),
   fd = PySem.W.fnOf x qual (tL st) (fu st) (ao st) .none kV doc pm an dI ct /\ K.lookup f = some ⟨oc, od, .func fd, IQ⟩ /\ PySem.W.codeIn K dI qual = true
 kp : PySem.W.keepIn K (.ref f) = true
section
variable {P : Program} {w : World} {K : PySem.W.Frag} {mg : Str -> Option Value} {base : Heap}
theorem iY.ok {x qual : Str} {st : Stmt} {f : Addr} {fd : FuncData} {N ps : List Str} {k : Nat} {sp : Sp} (F : iY K x qual st f fd) (S : aL N ps (ao st)) (len : ∀ vs H Q E, sp vs H Q E -> vs.length = ps.length)
   (Bs : ∀ (dI : Value) (A : Around) (outer : List Env) (s : Shared) (H : Hp) (vs : List V) (Q : VK) (E : XK), eN k (A.deeper (envOfC qual (ao st) s.heap.objs.size f dI)) -> sp vs H Q E →
     ∃ t, Dm (uy gq P w K mg base N qual (ao st) f dI A outer s H E).Mz (fu st) t /\ t { nx := fun _ H' => Q .non H', rt := Q } (start N vs) H) : bV P w K mg base gq (k + 1) f fd ps sp := by
 obtain ⟨oc, od, kV, doc, pm, an, dI, ct, IQ, rfl, lk, iD⟩ := F.ex
 refine R4 lk iD S len fun A outer s H vs Q E hr MA => ?_
 obtain ⟨t, h, q⟩ := Bs dI A outer s H vs Q E hr MA
 exact ⟨t, h.Mz, q⟩
theorem iY.binds {x qual : Str} {st : Stmt} {f : Addr} {fd : FuncData} {ps : List Str} (F : iY K x qual st f fd)
   (h : ∀ (kV doc pm : Value) (an : Option Addr) (dI ct : Value) (us : List Value), us.length = ps.length -> bindArgs (PySem.W.fnOf x qual (tL st) (fu st) (ao st) .none kV doc pm an dI ct) ⟨us, []⟩ = pure (ps.zip us)) : Binds K fd ps [] := by
 obtain ⟨oc, od, kV, doc, pm, an, dI, ct, IQ, rfl, lk, iD⟩ := F.ex
 exact .all (h kV doc pm an dI ct)
theorem bD {x qual : Str} {st : Stmt} {f : Addr} {oc : Value} {od an : Option Addr} {IQ : Array (Option Value)} {kV doc pm dI ct : Value} (l : K.lookup f = some ⟨oc, od, .func (PySem.W.fnOf x qual (tL st) (fu st) (ao st) .none kV doc pm an dI ct), IQ⟩)
   (c : PySem.W.codeIn K dI qual = true) (k : PySem.W.keepIn K (.ref f) = true) : iY K x qual st f (PySem.W.fnOf x qual (tL st) (fu st) (ao st) .none kV doc pm an dI ct) := ⟨⟨oc, od, kV, doc, pm, an, dI, ct, IQ, rfl, l, c⟩, k⟩
end
theorem cu {n : Nat} (h : n <= 1000) : n < sizeLine := Nat.lt_of_le_of_lt h (by decide)
section
variable {X : Cx}
end
theorem Ju {A B : Prop} (h : B) : if false = true then A else B := by
 rw [ae9 afr]
 exact h
theorem Jv {A B : Prop} (h : A) : if true = true then A else B := by
 rw [afa rfl]
 exact h
noncomputable def aD (H H' : Hp) : Prop := ∀ b o, H b = some o -> H' b = some o
theorem aD.refl (H : Hp) : aD H H := fun _ _ h => h
theorem aD.trans {H H1 H2 : Hp} (a : aD H H1) (b : aD H1 H2) : aD H H2 := fun c o h => b c o (a c o h)
theorem aD.free {H H' : Hp} (e : aD H H') {l : Addr} (h : H' l = Option.none) : H l = Option.none := by
 cases q : H l with
 | none => rfl
 | some o =>
   rw [e l o q] at h
   cases h
theorem aD.seq {K : PySem.W.Frag} {H H' : Hp} {a : Addr} {xs : List V} (e : aD H H') (h : kh K H a xs) : kh K H' a xs := by
 rcases h with (h | ⟨o, h⟩) | h
 . exact .inl (.inl (e _ _ h))
 . exact .inl (.inr ⟨o, e _ _ h⟩)
 . exact .inr h
section
variable {κ : Type} [DecidableEq κ]
noncomputable def DE (kvs : List (κ × V)) (k : κ) : Option V := (kvs.find? fun kv => decide (kv.1 = k)).map (·.2)
noncomputable def putK (kvs : List (κ × V)) (k : κ) (v : V) : List (κ × V) :=
 if (kvs.any fun kv => decide (kv.1 = k)) = true then kvs.map (fun kv => if kv.1 = k then (kv.1, v) else kv) else kvs ++ [(k, v)]
theorem BE {p : κ × V} {r : List (κ × V)} {k : κ} (e : p.1 = k) : DE (p :: r) k = some p.2 := by simp [DE, List.find?_cons, e]
theorem BF {p : κ × V} {r : List (κ × V)} {k : κ} (e : ¬ p.1 = k) : DE (p :: r) k = DE r k := by simp [DE, List.find?_cons, e]
theorem BG (k : κ) : ∀ kvs : List (κ × V), (kvs.any fun kv => decide (kv.1 = k)) = (DE kvs k).isSome
 | [] => rfl
 | p :: r => by
   rw [ago]
   by_cases e : p.1 = k
   . simp only [BE e, agw e, Bool.true_or, Option.isSome_some]
   . rw [BF e, afY e, Bool.false_or]; exact BG k r
theorem sA (kvs : List (κ × V)) (k : κ) (v : V) : (putK kvs k v).length <= kvs.length + 1 := by
 unfold putK
 split
 . rw [afj]; omega
 . rw [afy, afI, agj]; omega
theorem wk.G5 {o : Option V} {u : Option Value} (r : wk o u) : o.isSome = u.isSome := by
 cases o with
 | none => cases u with
   | none => rfl
   | some _ => exact (show False from r).elim
 | some _ => cases u with
   | none => exact (show False from r).elim
   | some _ => rfl
theorem KV.any {kvs : List (κ × V)} {vs : List (κ × Value)} (r : KV kvs vs) (k : κ) : (kvs.any fun kv => decide (kv.1 = k)) = vs.any fun kv => decide (kv.1 = k) := by
 unfold KV at r
 induction r with
 | nil => rfl
 | cons h t ih => rw [ago, ago, ih, h.1]
theorem KV.repl {kvs : List (κ × V)} {vs : List (κ × Value)} (r : KV kvs vs) (k : κ) {y : V} {u : Value} (ry : RelV y u) :
   KV (kvs.map fun kv => if kv.1 = k then (kv.1, y) else kv) (vs.map fun kv => if kv.1 = k then (kv.1, u) else kv) := by
 unfold KV at r ⊢
 induction r with
 | nil => exact .nil
 | @cons p q ps qs h t ih =>
   rw [afx, afx]
   refine .cons ?_ ih
   obtain ⟨h1, h2⟩ := h
   by_cases e : p.1 = k
   . rw [afa e, afa (h1.symm.trans e)]; exact ⟨h1, ry⟩
   . rw [ae9 e, ae9 (fun z => e (h1.trans z))]; exact ⟨h1, h2⟩
theorem KV.put {kvs : List (κ × V)} {vs : List (κ × Value)} (r : KV kvs vs) (k : κ) {y : V} {u : Value} (ry : RelV y u) : KV (putK kvs k y) (stored vs k u) := by
 unfold putK stored
 rw [r.any k]
 by_cases e : (vs.any fun kv => decide (kv.1 = k)) = true
 . rw [afa e, afa e]; exact r.repl k ry
 . rw [ae9 e, ae9 e]; exact Paired.snoc r ⟨rfl, ry⟩
theorem KV.keys {kvs : List (κ × V)} {vs : List (κ × Value)} (r : KV kvs vs) : kvs.map (·.1) = vs.map (·.1) := by
 unfold KV at r
 induction r with
 | nil => rfl
 | cons h t ih => rw [afx, afx, ih, h.1]
theorem KV.length {kvs : List (κ × V)} {vs : List (κ × Value)} (r : KV kvs vs) : kvs.length = vs.length := Paired.length r
end
theorem R7 {P : Program} {w : World} {k : Key} {u : Value} (r : RelV (kV k) u) : (dW P w).is k u = true := by
 cases k with
 | inl i => obtain ⟨t, e⟩ := (show ∃ t, u = Value.int i t from r); subst e; exact Bg P w i t
 | inr x => obtain ⟨t, e⟩ := (show ∃ t, u = Value.str x t from r); subst e; exact Bh P w x t
theorem xJ {P : Program} {w : World} : ∀ {ks : List Key} {us : List Value}, Vals (ks.map kV) us -> ItemsAre (dW P w) ks us
 | [], _, r => by rw [List.map_nil] at r; cases r; exact .nil
 | k :: ks, _, r => by
   rw [afx] at r
   cases r with
   | cons h t => exact .cons (R7 h) (xJ t)
noncomputable abbrev KT (H : Hp) : List (List Key × V) -> List (List Key × Addr × Value) -> Prop := Paired fun p q => p.1 = q.1 /\ H q.2.1 = some (.tup (p.1.map kV)) /\ RelV p.2 q.2.2
theorem KT.val {H : Hp} {kvs : List (List Key × V)} {xs : List (List Key × Addr × Value)} (r : KT H kvs xs) (k : List Key) : wk (DE kvs k) ((atKey xs k).map (·.2)) := by
 induction r with
 | nil => exact True.intro
 | @cons p q ps qs h t ih =>
   obtain ⟨h1, _, h2⟩ := h
   by_cases e : p.1 = k
   . have e' : q.1 = k := h1.symm.trans e
     have b : atKey (q :: qs) k = some q.2 := by simp [atKey, List.find?_cons, e']
     rw [BE e, b]; exact h2
   . have e' : ¬ q.1 = k := fun z => e (h1.trans z)
     have b : atKey (q :: qs) k = atKey qs k := by simp [atKey, List.find?_cons, e']
     rw [BF e, b]; exact ih
theorem KT.repl {H : Hp} {kvs : List (List Key × V)} {xs : List (List Key × Addr × Value)} (r : KT H kvs xs) (k : List Key) {y : V} {u : Value} (ry : RelV y u) :
   KT H (kvs.map fun kv => if kv.1 = k then (kv.1, y) else kv) (xs.map (putAt k u)) := by
 induction r with
 | nil => exact .nil
 | @cons p q ps qs h t ih =>
   rw [afx, afx]
   refine .cons ?_ ih
   obtain ⟨h1, h2, h3⟩ := h
   unfold putAt
   by_cases e : p.1 = k
   . rw [afa e, afa (h1.symm.trans e)]; exact ⟨h1, h2, ry⟩
   . rw [ae9 e, ae9 (fun z => e (h1.trans z))]; exact ⟨h1, h2, h3⟩
theorem KT.put {H : Hp} {kvs : List (List Key × V)} {xs : List (List Key × Addr × Value)} (r : KT H kvs xs) (k : List Key) {b : Addr} {y : V} {u : Value} (hb : H b = some (.tup (k.map kV))) (ry : RelV y u) :
   KT H (putK kvs k y) (storedH xs k b u) := by
 have e : (kvs.any fun kv => decide (kv.1 = k)) = (atKey xs k).isSome := by
   rw [BG, (r.val k).G5, Option.isSome_map]
 unfold putK storedH
 rw [e]
 by_cases q : (atKey xs k).isSome = true
 . rw [afa q, afa q]; exact r.repl k ry
 . rw [ae9 q, ae9 q]; exact Paired.snoc r ⟨rfl, hb, ry⟩
theorem KT.keeps {H H' : Hp} {kvs : List (List Key × V)} {xs : List (List Key × Addr × Value)} (r : KT H kvs xs) (ht : ∀ b ys, H b = some (.tup ys) -> H' b = some (.tup ys)) : KT H' kvs xs :=
 Paired.S9 r fun _ _ z => ⟨z.1, ht _ _ z.2.1, z.2.2⟩
section
variable {P : Program} {w : World} {H : Hp} {h : Heap} {a : Addr}
theorem R8 {u : HO} (ok : oA P w H h) (e : Rd H a u) : d9 P w H h a u := e.ok ok
theorem XO {kvs : List (Key × V)} (ok : oA P w H h) (e : Rd H a (.dK kvs)) : kvs.length <= sizeLine /\ (a == sysModules) = false /\ ∃ vs, KV kvs vs /\ h.DictOf (dW P w) a vs :=
 show d9 P w H h a (.dK kvs) from R8 ok e
theorem R9 {kvs : List (Key × V)} (ok : oA P w H h) (e : H a = some (.dK kvs)) : kvs.length <= sizeLine /\ (a == sysModules) = false /\ ∃ vs, KV kvs vs /\ h.DictOf (dW P w) a vs := XO ok (.inl e)
theorem Jw {ks : List Key} (ok : oA P w H h) (e : H a = some (.tup (ks.map kV))) : (tupleKind (dW P w)).is h ks a := by
 obtain ⟨_, its, r, o, h1, h2, n, h3⟩ := (show d9 P w H h a (.tup (ks.map kV)) from ok a _ e)
 exact ⟨o, its.toArray, n, h1, h2, h3, by simpa using xJ r⟩
theorem XQ {kvs : List (List Key × V)} (ok : oA P w H h) (e : Rd H a (.dT kvs)) : kvs.length <= sizeLine /\ (a == sysModules) = false ∧
   ∃ xs, KT H kvs xs /\ h.DictOfH (tupleKind (dW P w)) a xs := by
 obtain ⟨z, y, xs, r, o, es, ep, h1, h2, h3, h4, h5⟩ := (show d9 P w H h a (.dT kvs) from R8 ok e)
 refine ⟨z, y, xs, r, o, es, ep, h1, h2, h3, h4, fun x hx => ?_, h5⟩
 have all : ∀ {l : List (List Key × V)} {m : List (List Key × Addr × Value)}, KT H l m -> ∀ x ∈ m, (tupleKind (dW P w)).is h x.1 x.2.1 := by
   intro l m q
   induction q with
   | nil => intro x hx; exact nomatch hx
   | @cons p q ps qs hq t ih =>
     intro x hx
     rcases afe.mp hx with e | hx
     . subst e
       exact Jw ok (by rw [← hq.1]; exact hq.2.1)
     . exact ih x hx
 exact all r x hx
theorem XR {kvs : List (List Key × V)} (ok : oA P w H h) (e : H a = some (.dT kvs)) : kvs.length <= sizeLine /\ (a == sysModules) = false ∧
   ∃ xs, KT H kvs xs /\ h.DictOfH (tupleKind (dW P w)) a xs := XQ ok (.inl e)
end
noncomputable def Jx (H : Hp) (a : Addr) (y v : V) (H' : Hp) : Prop :=
 (∃ kvs k, H a = some (.dK kvs) /\ y = kV k /\ kvs.length < sizeLine /\ H' = upd H a (.dK (putK kvs k v))) ∨
 ∃ kvs k b, H a = some (.dT kvs) /\ y = .ref b /\ H b = some (.tup (k.map kV)) /\ kvs.length < sizeLine /\ H' = upd H a (.dT (putK kvs k v))
theorem Jx.k {H : Hp} {a : Addr} {kvs : List (Key × V)} {k : Key} {v : V} (e : H a = some (.dK kvs)) (hl : kvs.length < sizeLine) : Jx H a (kV k) v (upd H a (.dK (putK kvs k v))) := .inl ⟨kvs, k, e, rfl, hl, rfl⟩
section
variable {X : Cx} {pins : List (Addr × Obj)} {σ : St} {H : Hp} {s : Shared} {a : Addr} {y v : V} {u r : Value} {o : Option V} {A : Around} {E : Value -> Shared -> Prop}
theorem Inv.big (I : Inv X pins σ H s) : sysModules < s.heap.objs.size := by
 have h : mainGlobals < s.heap.objs.size := (I.mod.glob.keeps I.bk).lt
 exact Nat.lt_trans (by decide) h
theorem FN {h' : Heap} {t' : Nat} {ob : HO} (I : Inv X pins σ H s) (mu : W9 (H a)) (hs : Heap.SameBut a s.heap h') (he : ∃ q, h'.get? a = some q) (new : d9 X.prog X.w (upd H a ob) h' a ob) :
   Inv X pins σ (upd H a ob) { s with heap := h', toks := t' } :=
 I.write (x := a) (e := a) mu (.inl rfl) (fun b q hb z => (hs.2 b hb).trans z) he new
theorem Uq {P : Program} {w : World} {H' : Hp} {h' : Heap} {kvs : List (Key × V)} {vs : List (Key × Value)} (z : kvs.length <= sizeLine) (hd : (a == sysModules) = false) (rel : KV kvs vs) (dd : h'.DictOf (dW P w) a vs) :
   d9 P w H' h' a (.dK kvs) := ⟨z, hd, vs, rel, dd⟩
theorem G6 {H' : Hp} {Q : Unit -> Shared -> Prop} (hu : A.units + 1 < cLine) (I : Inv X pins σ H s) (g : Jx H a y v H') (ry : RelV y u) (rv : RelV v r) (h : ∀ s', Inv X pins σ H' s' -> Q () s') :
   wpAny (model X.prog X.w) A (setItem (.ref a) u r) Q E s := by
 rcases g with ⟨kvs, k, e, ey, l, eH⟩ | ⟨kvs, k, b, e, ey, eb, l, eH⟩
 . subst ey eH
   obtain ⟨z, hd, vs, rel, dd⟩ := R9 I.dw e
   have hz : vs.length <= sizeLine := by rw [← rel.length]; exact z
   have hl : (putK kvs k v).length <= sizeLine := by have := sA kvs k v; omega
   refine wpAny_setItem_pairs (hsz := hz) (R7 ry) dd fun h' ZO hs => h _ ?_
   have he : ∃ q, h'.get? a = some q := let ⟨q, _, _, hq, _⟩ := ZO; ⟨q, hq⟩
   exact FN I (by rw [e]; exact True.intro) hs he (Uq hl hd (rel.put k rv) ZO)
 . subst ey eH
   cases (show u = Value.ref b from ry)
   obtain ⟨z, hd, xs, rel, dd⟩ := XR I.dw e
   have hz : xs.length <= sizeLine := by rw [← Paired.length rel]; exact z
   have hl : (putK kvs k v).length <= sizeLine := by have := sA kvs k v; omega
   refine wpAny_setItem_heap (hsz := hz) (tupleKind_room_in1 hu) (Jw I.dw eb) dd fun h' ZO hs => h _ ?_
   obtain ⟨q, es, ep, hq, h2, h3, h4, _, h5⟩ := ZO
   refine FN I (by rw [e]; exact True.intro) hs ⟨q, hq⟩ ⟨hl, hd, _, (rel.put k eb rv).keeps fun c ys ec => ?_, q, es, ep, hq, h2, h3, h4, h5⟩
   rw [az (W8 ec e (fun z => nomatch z))]
   exact ec
end
section
variable {X : Cx} {pins : List (Addr × Obj)} {σ : St} {H : Hp} {s : Shared} {a : Addr} {kvs : List (Key × V)} {k : Key} {u : Value} {A : Around} {E : Value -> Shared -> Prop}
end
noncomputable def XS (td ty tv : TE) : TS := fun D σ H => tv σ H fun v H1 => td σ H1 fun x H2 => ty σ H2 fun y H3 => ∃ a H4, x = .ref a /\ Jx H3 a y v H4 /\ D.nx σ H4
section
variable {X : Cx} {o i e value : Expr} {pos pos' aaJ : Pos} {td ty tv : TE}
theorem Nb (hu : X.A.units + 1 < cLine) (ho : PE X o td) (hi : PE X i ty) (hv : PE X value tv) (hs : swapsWith value (some (.Subscript o i pos')) pos.line X.env = pure false) :
   PS X (.Assign [.Subscript o i pos'] value pos) (XS td ty tv) := by
 intro pins s σ H D I h
 refine wpAny_Assign_Subscript (dU (hv pins s σ H _ I h) fun r s1 ⟨v, H1, I1, rv, q1⟩ => dU (ho pins s1 σ H1 _ I1 q1) fun u s2 ⟨x, H2, I2, rx, q2⟩ => dU (hi pins s2 σ H2 _ I2 q2) fun iv s3 zz => ?_) hs
 obtain ⟨y, H3, I3, ry, a, H4, ex, g, q3⟩ := zz
 subst ex
 obtain rfl : u = Value.ref a := rx
 exact G6 hu I3 g ry rv fun s4 I4 => ⟨σ, H4, I4, q3⟩
end
theorem Jy {P : Program} {w : World} {H : Hp} (h : Heap) (hb : sysModules < h.objs.size) : d9 P w H (h.push { cls := .type "dict", data := .dict #[] }) h.objs.size (.dK []) :=
 ⟨afG _, agv.mpr (Ne.symm (afO hb)), [], .nil, Heap.DictOf.new h⟩
noncomputable def Ur : TE := fun _ H Q => ∀ p, H p = none -> Q (.ref p) (upd H p (.dK []))
section
variable {X : Cx} {pos : Pos}
theorem Jz : PE X (.Dict [] [] pos) Ur := fun pins s σ H Q I h =>
 wpAny_Dict_empty ⟨.ref s.heap.objs.size, _, I.laid (a := s.heap.objs.size) (o := .dK []) (t' := s.toks) (fun _ _ q => afn _ q) (afg _) (Jy s.heap I.big), rfl, h _ (I.dw.fresh (afg _))⟩
end
section
variable {X : Cx} {pins : List (Addr × Obj)} {σ : St} {H : Hp} {s : Shared} {a : Addr} {y d : V} {u r : Value} {o : Option V} {A : Around} {E : Value -> Shared -> Prop}
end
section
variable {X : Cx} {o e f : Expr} {apos By : Pos} {td ty tx : TE}
end
section
variable {X : Cx} {pins : List (Addr × Obj)} {σ : St} {H : Hp} {s : Shared} {a : Addr} {kvs : List (Key × V)} {A : Around} {E : Value -> Shared -> Prop}
end
section
variable {X : Cx} {pins : List (Addr × Obj)} {σ : St} {H : Hp} {s : Shared} {a : Addr} {y : V} {u : Value} {A : Around} {E : Value -> Shared -> Prop}
end
end L2
namespace L3
open PySem PySem.Spec PyProof.Rows L2
inductive D where
 | non | bl (b : Bool) | int (i : Int) | str (x : Str)
 | tup (ds : List D) | lst (ds : List D) | ins (c : Str) (fs : List (Str × D)) | jL (kvs : List (Key × D))
 | any
 | val (v : V)
inductive T where
 | sh (d : D) | tup (ts : List T) | lst (ts : List T) | ins (c : Str) (fs : List (Str × T)) | jL (kvs : List (Key × D))
 | pin (x : Addr) (t : T)
mutual
noncomputable def T.dH : T -> D
 | .sh d => d
 | .tup ts => .tup (fG ts)
 | .lst ts => .lst (fG ts)
 | .ins c fs => .ins c (iG fs)
 | .jL kvs => .jL kvs
 | .pin _ t => t.dH
noncomputable def T.fG : List T -> List D
 | [] => []
 | t :: ts => t.dH :: T.fG ts
noncomputable def T.iG : List (Str × T) -> List (Str × D)
 | [] => []
 | (x, t) :: fs => (x, t.dH) :: T.iG fs
end
variable (K : PySem.W.Frag) (CL : Str -> Addr)
mutual
inductive aZ (Z : Hp) : D -> V -> Prop where
 | non : aZ Z .non .non
 | bl (b : Bool) : aZ Z (.bl b) (.bl b)
 | int (i : Int) : aZ Z (.int i) (.int i)
 | str (x : Str) : aZ Z (.str x) (.str x)
 | any (v : V) : aZ Z .any v
 | val (v : V) : aZ Z (.val v) v
 | tup {a : Addr} {vs : List V} {ds : List D} : sX K Z a vs -> aC Z ds vs -> aZ Z (.tup ds) (.ref a)
 | lst {a : Addr} {vs : List V} {ds : List D} : kh K Z a vs -> aC Z ds vs -> aZ Z (.lst ds) (.ref a)
 | ins {a dx : Addr} {c : Str} {gs : List (Str × V)} {fs : List (Str × D)} : Z a = some (.ins (CL c) dx gs) -> fP Z fs gs -> aZ Z (.ins c fs) (.ref a)
 | jL {a : Addr} {gs : List (Key × V)} {fs : List (Key × D)} : Z a = some (.dK gs) -> bz Z fs gs -> aZ Z (.jL fs) (.ref a)
inductive aC (Z : Hp) : List D -> List V -> Prop where
 | nil : aC Z [] []
 | cons {d : D} {v : V} {ds : List D} {vs : List V} : aZ Z d v -> aC Z ds vs -> aC Z (d :: ds) (v :: vs)
inductive fP (Z : Hp) : List (Str × D) -> List (Str × V) -> Prop where
 | nil : fP Z [] []
 | cons {x : Str} {d : D} {v : V} {ds : List (Str × D)} {vs : List (Str × V)} : aZ Z d v -> fP Z ds vs -> fP Z ((x, d) :: ds) ((x, v) :: vs)
inductive bz (Z : Hp) : List (Key × D) -> List (Key × V) -> Prop where
 | nil : bz Z [] []
 | cons {x : Key} {d : D} {v : V} {ds : List (Key × D)} {vs : List (Key × V)} : aZ Z d v -> bz Z ds vs -> bz Z ((x, d) :: ds) ((x, v) :: vs)
end
mutual
inductive cK (H Z : Hp) : T -> V -> List Addr -> Prop where
 | sh {d : D} {v : V} : aZ K CL Z d v -> cK H Z (.sh d) v []
 | tup {a : Addr} {vs : List V} {ts : List T} {fp : List Addr} : Z a = some (.tup vs) -> aQ H Z ts vs fp -> cK H Z (.tup ts) (.ref a) fp
 | lst {a : Addr} {vs : List V} {ts : List T} {fp : List Addr} : H a = some (.lst vs) -> aQ H Z ts vs fp -> cK H Z (.lst ts) (.ref a) (a :: fp)
 | ins {a dx : Addr} {c : Str} {gs : List (Str × V)} {fs : List (Str × T)} {fp : List Addr} : H a = some (.ins (CL c) dx gs) -> bQ H Z fs gs fp -> cK H Z (.ins c fs) (.ref a) (a :: fp)
 | jL {a : Addr} {gs : List (Key × V)} {kvs : List (Key × D)} : H a = some (.dK gs) -> bz K CL Z kvs gs -> cK H Z (.jL kvs) (.ref a) [a]
 | pin {x : Addr} {t : T} {fp : List Addr} : cK H Z t (.ref x) fp -> cK H Z (.pin x t) (.ref x) fp
inductive aQ (H Z : Hp) : List T -> List V -> List Addr -> Prop where
 | nil : aQ H Z [] [] []
 | cons {t : T} {v : V} {ts : List T} {vs : List V} {fp gp : List Addr} : cK H Z t v fp -> aQ H Z ts vs gp -> aQ H Z (t :: ts) (v :: vs) (fp ++ gp)
inductive bQ (H Z : Hp) : List (Str × T) -> List (Str × V) -> List Addr -> Prop where
 | nil : bQ H Z [] [] []
 | cons {x : Str} {t : T} {v : V} {ts : List (Str × T)} {vs : List (Str × V)} {fp gp : List Addr} : cK H Z t v fp -> bQ H Z ts vs gp -> bQ H Z ((x, t) :: ts) ((x, v) :: vs) (fp ++ gp)
end
inductive fc (H Z : Hp) : List (Option T) -> L2.St -> List Addr -> Prop where
 | nil : fc H Z [] [] []
 | skip {o : Option V} {δ : List (Option T)} {σ : L2.St} {fp : List Addr} : fc H Z δ σ fp -> fc H Z (none :: δ) (o :: σ) fp
 | cons {t : T} {v : V} {δ : List (Option T)} {σ : L2.St} {fp gp : List Addr} : cK K CL H Z t v fp -> fc H Z δ σ gp -> fc H Z (some t :: δ) (some v :: σ) (fp ++ gp)
section
variable {K : PySem.W.Frag} {CL : Str -> Addr}
theorem aD.MB {H H' : Hp} {a : Addr} {xs : List V} (e : aD H H') (h : sX K H a xs) : sX K H' a xs := by
 rcases h with (h | ⟨o, h⟩) | h
 . exact .inl (.inl (e _ _ h))
 . exact .inl (.inr ⟨o, e _ _ h⟩)
 . exact .inr h
theorem aZ.mono {Z Z' : Hp} (e : aD Z Z') {d : D} {v : V} (h : aZ K CL Z d v) : aZ K CL Z' d v :=
 aZ.rec (motive_1 := fun d v _ => aZ K CL Z' d v) (motive_2 := fun d v _ => aC K CL Z' d v) (motive_3 := fun d v _ => fP K CL Z' d v) (motive_4 := fun d v _ => bz K CL Z' d v)
   .non .bl .int .str .any .val (fun h _ r => .tup (aD.MB e h) r) (fun h _ r => .lst (e.seq h) r) (fun h _ r => .ins (e _ _ h) r) (fun h _ r => .jL (e _ _ h) r) .nil (fun _ _ h r => .cons h r) .nil (fun _ _ h r => .cons h r) .nil (fun _ _ h r => .cons h r) h
theorem aC.mono {Z Z' : Hp} (e : aD Z Z') {d : List D} {v : List V} (h : aC K CL Z d v) : aC K CL Z' d v :=
 aC.rec (motive_1 := fun d v _ => aZ K CL Z' d v) (motive_2 := fun d v _ => aC K CL Z' d v) (motive_3 := fun d v _ => fP K CL Z' d v) (motive_4 := fun d v _ => bz K CL Z' d v)
   .non .bl .int .str .any .val (fun h _ r => .tup (aD.MB e h) r) (fun h _ r => .lst (e.seq h) r) (fun h _ r => .ins (e _ _ h) r) (fun h _ r => .jL (e _ _ h) r) .nil (fun _ _ h r => .cons h r) .nil (fun _ _ h r => .cons h r) .nil (fun _ _ h r => .cons h r) h
theorem fP.mono {Z Z' : Hp} (e : aD Z Z') {d : List (Str × D)} {v : List (Str × V)} (h : fP K CL Z d v) : fP K CL Z' d v :=
 fP.rec (motive_1 := fun d v _ => aZ K CL Z' d v) (motive_2 := fun d v _ => aC K CL Z' d v) (motive_3 := fun d v _ => fP K CL Z' d v) (motive_4 := fun d v _ => bz K CL Z' d v)
   .non .bl .int .str .any .val (fun h _ r => .tup (aD.MB e h) r) (fun h _ r => .lst (e.seq h) r) (fun h _ r => .ins (e _ _ h) r) (fun h _ r => .jL (e _ _ h) r) .nil (fun _ _ h r => .cons h r) .nil (fun _ _ h r => .cons h r) .nil (fun _ _ h r => .cons h r) h
theorem bz.mono {Z Z' : Hp} (e : aD Z Z') {d : List (Key × D)} {v : List (Key × V)} (h : bz K CL Z d v) : bz K CL Z' d v :=
 bz.rec (motive_1 := fun d v _ => aZ K CL Z' d v) (motive_2 := fun d v _ => aC K CL Z' d v) (motive_3 := fun d v _ => fP K CL Z' d v) (motive_4 := fun d v _ => bz K CL Z' d v)
   .non .bl .int .str .any .val (fun h _ r => .tup (aD.MB e h) r) (fun h _ r => .lst (e.seq h) r) (fun h _ r => .ins (e _ _ h) r) (fun h _ r => .jL (e _ _ h) r) .nil (fun _ _ h r => .cons h r) .nil (fun _ _ h r => .cons h r) .nil (fun _ _ h r => .cons h r) h
theorem cK.mono {H H' Z Z' : Hp} (e : aD Z Z') {t : T} {v : V} {fp : List Addr} (k : ∀ a ∈ fp, H' a = H a) (h : cK K CL H Z t v fp) : cK K CL H' Z' t v fp :=
 cK.rec (motive_1 := fun t v fp _ => (∀ a ∈ fp, H' a = H a) -> cK K CL H' Z' t v fp) (motive_2 := fun t v fp _ => (∀ a ∈ fp, H' a = H a) -> aQ K CL H' Z' t v fp) (motive_3 := fun t v fp _ => (∀ a ∈ fp, H' a = H a) -> bQ K CL H' Z' t v fp)
   (fun h _ => .sh (h.mono e)) (fun h _ r k => .tup (e _ _ h) (r k)) (fun h _ r k => .lst ((k _ afb).trans h) (r fun a ha => k a (afd _ ha))) (fun h _ r k => .ins ((k _ afb).trans h) (r fun a ha => k a (afd _ ha))) (fun h f k => .jL ((k _ afb).trans h) (bz.mono e f)) (fun _ r k => .pin (r k)) (fun _ => .nil) (fun _ _ h r k => .cons (h fun a ha => k a (afl _ ha)) (r fun a ha => k a (ae8 _ ha))) (fun _ => .nil) (fun _ _ h r k => .cons (h fun a ha => k a (afl _ ha)) (r fun a ha => k a (ae8 _ ha))) h k
theorem aQ.mono {H H' Z Z' : Hp} (e : aD Z Z') {t : List T} {v : List V} {fp : List Addr} (k : ∀ a ∈ fp, H' a = H a) (h : aQ K CL H Z t v fp) : aQ K CL H' Z' t v fp :=
 aQ.rec (motive_1 := fun t v fp _ => (∀ a ∈ fp, H' a = H a) -> cK K CL H' Z' t v fp) (motive_2 := fun t v fp _ => (∀ a ∈ fp, H' a = H a) -> aQ K CL H' Z' t v fp) (motive_3 := fun t v fp _ => (∀ a ∈ fp, H' a = H a) -> bQ K CL H' Z' t v fp)
   (fun h _ => .sh (h.mono e)) (fun h _ r k => .tup (e _ _ h) (r k)) (fun h _ r k => .lst ((k _ afb).trans h) (r fun a ha => k a (afd _ ha))) (fun h _ r k => .ins ((k _ afb).trans h) (r fun a ha => k a (afd _ ha))) (fun h f k => .jL ((k _ afb).trans h) (bz.mono e f)) (fun _ r k => .pin (r k)) (fun _ => .nil) (fun _ _ h r k => .cons (h fun a ha => k a (afl _ ha)) (r fun a ha => k a (ae8 _ ha))) (fun _ => .nil) (fun _ _ h r k => .cons (h fun a ha => k a (afl _ ha)) (r fun a ha => k a (ae8 _ ha))) h k
theorem bQ.mono {H H' Z Z' : Hp} (e : aD Z Z') {t : List (Str × T)} {v : List (Str × V)} {fp : List Addr} (k : ∀ a ∈ fp, H' a = H a) (h : bQ K CL H Z t v fp) : bQ K CL H' Z' t v fp :=
 bQ.rec (motive_1 := fun t v fp _ => (∀ a ∈ fp, H' a = H a) -> cK K CL H' Z' t v fp) (motive_2 := fun t v fp _ => (∀ a ∈ fp, H' a = H a) -> aQ K CL H' Z' t v fp) (motive_3 := fun t v fp _ => (∀ a ∈ fp, H' a = H a) -> bQ K CL H' Z' t v fp)
   (fun h _ => .sh (h.mono e)) (fun h _ r k => .tup (e _ _ h) (r k)) (fun h _ r k => .lst ((k _ afb).trans h) (r fun a ha => k a (afd _ ha))) (fun h _ r k => .ins ((k _ afb).trans h) (r fun a ha => k a (afd _ ha))) (fun h f k => .jL ((k _ afb).trans h) (bz.mono e f)) (fun _ r k => .pin (r k)) (fun _ => .nil) (fun _ _ h r k => .cons (h fun a ha => k a (afl _ ha)) (r fun a ha => k a (ae8 _ ha))) (fun _ => .nil) (fun _ _ h r k => .cons (h fun a ha => k a (afl _ ha)) (r fun a ha => k a (ae8 _ ha))) h k
theorem cK.there {H Z : Hp} {t : T} {v : V} {fp : List Addr} (h : cK K CL H Z t v fp) : ∀ a ∈ fp, ∃ o, H a = some o :=
 cK.rec (motive_1 := fun t v fp _ => ∀ a ∈ fp, ∃ o, H a = some o) (motive_2 := fun t v fp _ => ∀ a ∈ fp, ∃ o, H a = some o) (motive_3 := fun t v fp _ => ∀ a ∈ fp, ∃ o, H a = some o)
   (fun _ a ha => absurd ha afK) (fun _ _ r => r) (fun h _ r a ha => (afe.mp ha).elim (fun q => ⟨_, q ▸ h⟩) (r a)) (fun h _ r a ha => (afe.mp ha).elim (fun q => ⟨_, q ▸ h⟩) (r a)) (fun h _ a ha => (afe.mp ha).elim (fun q => ⟨_, q ▸ h⟩) (fun q => absurd q afK)) (fun _ r => r) (fun a ha => absurd ha afK) (fun _ _ h r a ha => (afm.mp ha).elim (h a) (r a)) (fun a ha => absurd ha afK) (fun _ _ h r a ha => (afm.mp ha).elim (h a) (r a)) h
theorem aQ.there {H Z : Hp} {t : List T} {v : List V} {fp : List Addr} (h : aQ K CL H Z t v fp) : ∀ a ∈ fp, ∃ o, H a = some o :=
 aQ.rec (motive_1 := fun t v fp _ => ∀ a ∈ fp, ∃ o, H a = some o) (motive_2 := fun t v fp _ => ∀ a ∈ fp, ∃ o, H a = some o) (motive_3 := fun t v fp _ => ∀ a ∈ fp, ∃ o, H a = some o)
   (fun _ a ha => absurd ha afK) (fun _ _ r => r) (fun h _ r a ha => (afe.mp ha).elim (fun q => ⟨_, q ▸ h⟩) (r a)) (fun h _ r a ha => (afe.mp ha).elim (fun q => ⟨_, q ▸ h⟩) (r a)) (fun h _ a ha => (afe.mp ha).elim (fun q => ⟨_, q ▸ h⟩) (fun q => absurd q afK)) (fun _ r => r) (fun a ha => absurd ha afK) (fun _ _ h r a ha => (afm.mp ha).elim (h a) (r a)) (fun a ha => absurd ha afK) (fun _ _ h r a ha => (afm.mp ha).elim (h a) (r a)) h
theorem bQ.there {H Z : Hp} {t : List (Str × T)} {v : List (Str × V)} {fp : List Addr} (h : bQ K CL H Z t v fp) : ∀ a ∈ fp, ∃ o, H a = some o :=
 bQ.rec (motive_1 := fun t v fp _ => ∀ a ∈ fp, ∃ o, H a = some o) (motive_2 := fun t v fp _ => ∀ a ∈ fp, ∃ o, H a = some o) (motive_3 := fun t v fp _ => ∀ a ∈ fp, ∃ o, H a = some o)
   (fun _ a ha => absurd ha afK) (fun _ _ r => r) (fun h _ r a ha => (afe.mp ha).elim (fun q => ⟨_, q ▸ h⟩) (r a)) (fun h _ r a ha => (afe.mp ha).elim (fun q => ⟨_, q ▸ h⟩) (r a)) (fun h _ a ha => (afe.mp ha).elim (fun q => ⟨_, q ▸ h⟩) (fun q => absurd q afK)) (fun _ r => r) (fun a ha => absurd ha afK) (fun _ _ h r a ha => (afm.mp ha).elim (h a) (r a)) (fun a ha => absurd ha afK) (fun _ _ h r a ha => (afm.mp ha).elim (h a) (r a)) h
theorem cK.dH {H Z Z' : Hp} (e : aD Z Z') {t : T} {v : V} {fp : List Addr} (k : ∀ a ∈ fp, Z' a = H a) (h : cK K CL H Z t v fp) : aZ K CL Z' t.dH v :=
 cK.rec (motive_1 := fun t v fp _ => (∀ a ∈ fp, Z' a = H a) -> aZ K CL Z' t.dH v) (motive_2 := fun t v fp _ => (∀ a ∈ fp, Z' a = H a) -> aC K CL Z' (T.fG t) v) (motive_3 := fun t v fp _ => (∀ a ∈ fp, Z' a = H a) -> fP K CL Z' (T.iG t) v)
   (fun h _ => by rw [T.dH]; exact h.mono e) (fun h _ r k => by rw [T.dH]; exact .tup (sX.of (e _ _ h)) (r k)) (fun h _ r k => by rw [T.dH]; exact .lst (kh.of ((k _ afb).trans h)) (r fun a ha => k a (afd _ ha))) (fun h _ r k => by rw [T.dH]; exact .ins ((k _ afb).trans h) (r fun a ha => k a (afd _ ha))) (fun h f k => by rw [T.dH]; exact .jL ((k _ afb).trans h) (bz.mono e f)) (fun _ r k => by rw [T.dH]; exact r k) (fun _ => by rw [T.fG]; exact .nil) (fun _ _ h r k => by rw [T.fG]; exact .cons (h fun a ha => k a (afl _ ha)) (r fun a ha => k a (ae8 _ ha))) (fun _ => by rw [T.iG]; exact .nil) (fun _ _ h r k => by rw [T.iG]; exact .cons (h fun a ha => k a (afl _ ha)) (r fun a ha => k a (ae8 _ ha))) h k
theorem aQ.dH {H Z Z' : Hp} (e : aD Z Z') {t : List T} {v : List V} {fp : List Addr} (k : ∀ a ∈ fp, Z' a = H a) (h : aQ K CL H Z t v fp) : aC K CL Z' (T.fG t) v :=
 aQ.rec (motive_1 := fun t v fp _ => (∀ a ∈ fp, Z' a = H a) -> aZ K CL Z' t.dH v) (motive_2 := fun t v fp _ => (∀ a ∈ fp, Z' a = H a) -> aC K CL Z' (T.fG t) v) (motive_3 := fun t v fp _ => (∀ a ∈ fp, Z' a = H a) -> fP K CL Z' (T.iG t) v)
   (fun h _ => by rw [T.dH]; exact h.mono e) (fun h _ r k => by rw [T.dH]; exact .tup (sX.of (e _ _ h)) (r k)) (fun h _ r k => by rw [T.dH]; exact .lst (kh.of ((k _ afb).trans h)) (r fun a ha => k a (afd _ ha))) (fun h _ r k => by rw [T.dH]; exact .ins ((k _ afb).trans h) (r fun a ha => k a (afd _ ha))) (fun h f k => by rw [T.dH]; exact .jL ((k _ afb).trans h) (bz.mono e f)) (fun _ r k => by rw [T.dH]; exact r k) (fun _ => by rw [T.fG]; exact .nil) (fun _ _ h r k => by rw [T.fG]; exact .cons (h fun a ha => k a (afl _ ha)) (r fun a ha => k a (ae8 _ ha))) (fun _ => by rw [T.iG]; exact .nil) (fun _ _ h r k => by rw [T.iG]; exact .cons (h fun a ha => k a (afl _ ha)) (r fun a ha => k a (ae8 _ ha))) h k
theorem bQ.dH {H Z Z' : Hp} (e : aD Z Z') {t : List (Str × T)} {v : List (Str × V)} {fp : List Addr} (k : ∀ a ∈ fp, Z' a = H a) (h : bQ K CL H Z t v fp) : fP K CL Z' (T.iG t) v :=
 bQ.rec (motive_1 := fun t v fp _ => (∀ a ∈ fp, Z' a = H a) -> aZ K CL Z' t.dH v) (motive_2 := fun t v fp _ => (∀ a ∈ fp, Z' a = H a) -> aC K CL Z' (T.fG t) v) (motive_3 := fun t v fp _ => (∀ a ∈ fp, Z' a = H a) -> fP K CL Z' (T.iG t) v)
   (fun h _ => by rw [T.dH]; exact h.mono e) (fun h _ r k => by rw [T.dH]; exact .tup (sX.of (e _ _ h)) (r k)) (fun h _ r k => by rw [T.dH]; exact .lst (kh.of ((k _ afb).trans h)) (r fun a ha => k a (afd _ ha))) (fun h _ r k => by rw [T.dH]; exact .ins ((k _ afb).trans h) (r fun a ha => k a (afd _ ha))) (fun h f k => by rw [T.dH]; exact .jL ((k _ afb).trans h) (bz.mono e f)) (fun _ r k => by rw [T.dH]; exact r k) (fun _ => by rw [T.fG]; exact .nil) (fun _ _ h r k => by rw [T.fG]; exact .cons (h fun a ha => k a (afl _ ha)) (r fun a ha => k a (ae8 _ ha))) (fun _ => by rw [T.iG]; exact .nil) (fun _ _ h r k => by rw [T.iG]; exact .cons (h fun a ha => k a (afl _ ha)) (r fun a ha => k a (ae8 _ ha))) h k
theorem aC.ind {Z : Hp} {P : List D -> List V -> Prop} (n : P [] []) (c : ∀ {d : D} {v : V} {ds : List D} {vs : List V}, aZ K CL Z d v -> aC K CL Z ds vs -> P ds vs -> P (d :: ds) (v :: vs)) {ds : List D} {vs : List V} (h : aC K CL Z ds vs) : P ds vs :=
 aC.rec (motive_1 := fun _ _ _ => True) (motive_2 := fun d v _ => P d v) (motive_3 := fun _ _ _ => True) (motive_4 := fun _ _ _ => True)
   trivial (fun _ => trivial) (fun _ => trivial) (fun _ => trivial) (fun _ => trivial) (fun _ => trivial) (fun _ _ _ => trivial) (fun _ _ _ => trivial) (fun _ _ _ => trivial) (fun _ _ _ => trivial) n (fun a b _ i => c a b i) trivial (fun _ _ _ _ => trivial) trivial (fun _ _ _ _ => trivial) h
theorem bz.ind {Z : Hp} {P : List (Key × D) -> List (Key × V) -> Prop} (n : P [] []) (c : ∀ {x : Key} {d : D} {v : V} {ds : List (Key × D)} {vs : List (Key × V)}, aZ K CL Z d v -> bz K CL Z ds vs -> P ds vs -> P ((x, d) :: ds) ((x, v) :: vs)) {ds : List (Key × D)} {vs : List (Key × V)} (h : bz K CL Z ds vs) : P ds vs :=
 bz.rec (motive_1 := fun _ _ _ => True) (motive_2 := fun _ _ _ => True) (motive_3 := fun _ _ _ => True) (motive_4 := fun d v _ => P d v)
   trivial (fun _ => trivial) (fun _ => trivial) (fun _ => trivial) (fun _ => trivial) (fun _ => trivial) (fun _ _ _ => trivial) (fun _ _ _ => trivial) (fun _ _ _ => trivial) (fun _ _ _ => trivial) trivial (fun _ _ _ _ => trivial) trivial (fun _ _ _ _ => trivial) n (fun a b _ i => c a b i) h
theorem aQ.ind {H Z : Hp} {P : List T -> List V -> List Addr -> Prop} (n : P [] [] []) (c : ∀ {t : T} {v : V} {ts : List T} {vs : List V} {fp gp : List Addr}, cK K CL H Z t v fp -> aQ K CL H Z ts vs gp -> P ts vs gp -> P (t :: ts) (v :: vs) (fp ++ gp)) {ts : List T} {vs : List V} {fp : List Addr} (h : aQ K CL H Z ts vs fp) : P ts vs fp :=
 aQ.rec (motive_1 := fun _ _ _ _ => True) (motive_2 := fun d v f _ => P d v f) (motive_3 := fun _ _ _ _ => True)
   (fun _ => trivial) (fun _ _ _ => trivial) (fun _ _ _ => trivial) (fun _ _ _ => trivial) (fun _ _ => trivial) (fun _ _ => trivial) n (fun a b _ i => c a b i) trivial (fun _ _ _ _ => trivial) h
theorem bQ.ind {H Z : Hp} {P : List (Str × T) -> List (Str × V) -> List Addr -> Prop} (n : P [] [] []) (c : ∀ {x : Str} {t : T} {v : V} {ts : List (Str × T)} {vs : List (Str × V)} {fp gp : List Addr}, cK K CL H Z t v fp -> bQ K CL H Z ts vs gp -> P ts vs gp -> P ((x, t) :: ts) ((x, v) :: vs) (fp ++ gp)) {ts : List (Str × T)} {vs : List (Str × V)} {fp : List Addr} (h : bQ K CL H Z ts vs fp) : P ts vs fp :=
 bQ.rec (motive_1 := fun _ _ _ _ => True) (motive_2 := fun _ _ _ _ => True) (motive_3 := fun d v f _ => P d v f)
   (fun _ => trivial) (fun _ _ _ => trivial) (fun _ _ _ => trivial) (fun _ _ _ => trivial) (fun _ _ => trivial) (fun _ _ => trivial) trivial (fun _ _ _ _ => trivial) n (fun a b _ i => c a b i) h
theorem aC.length {Z : Hp} {d : List D} {v : List V} (h : aC K CL Z d v) : d.length = v.length :=
 aC.ind (P := fun d v => d.length = v.length) rfl (fun _ _ i => congrArg (· + 1) i) h
theorem aQ.length {H Z : Hp} {d : List T} {v : List V} {fp : List Addr} (h : aQ K CL H Z d v fp) : d.length = v.length :=
 aQ.ind (P := fun d v _ => d.length = v.length) rfl (fun _ _ i => congrArg (· + 1) i) h
theorem aC.get {Z : Hp} : ∀ {ds : List D} {vs : List V} {i : Nat} {d : D}, aC K CL Z ds vs -> ds[i]? = some d -> ∃ v, vs[i]? = some v /\ aZ K CL Z d v
 | _, _, _, _, .nil, e => by simp at e
 | _, _, 0, _, .cons r _, e => by simp at e; subst e; exact ⟨_, rfl, r⟩
 | _, _, i + 1, d, .cons _ t, e => by
   obtain ⟨u, h1, h2⟩ := aC.get (i := i) (d := d) t (by simpa using e)
   exact ⟨u, by simpa using h1, h2⟩
theorem aC.JA {Z : Hp} : ∀ {ds : List D} {vs : List V} {i : Nat} {v : V}, aC K CL Z ds vs -> vs[i]? = some v -> ∃ d, ds[i]? = some d /\ aZ K CL Z d v
 | _, _, _, _, .nil, e => by simp at e
 | _, _, 0, _, .cons r _, e => by simp at e; subst e; exact ⟨_, rfl, r⟩
 | _, _, i + 1, d, .cons _ t, e => by
   obtain ⟨u, h1, h2⟩ := aC.JA (i := i) (v := d) t (by simpa using e)
   exact ⟨u, by simpa using h1, h2⟩
theorem fc.get {H Z : Hp} : ∀ {δ : List (Option T)} {σ : L2.St} {fp : List Addr} {i : Nat} {t : T}, fc K CL H Z δ σ fp -> δ[i]? = some (some t) →
   ∃ v f1 f2 f3, σ[i]? = some (some v) /\ fp = f1 ++ (f2 ++ f3) /\ cK K CL H Z t v f2 ∧
     (∀ {H' Z' : Hp} {t' : T} {v' : V} {g : List Addr}, aD Z Z' -> (∀ a ∈ f1 ++ f3, H' a = H a) -> cK K CL H' Z' t' v' g -> fc K CL H' Z' (δ.set i (some t')) (σ.set i (some v')) (f1 ++ (g ++ f3))) ∧
     (∀ {o : Option V}, fc K CL H Z (δ.set i none) (σ.set i o) (f1 ++ f3)) := by
 intro δ σ fp i t h
 have mono : ∀ {H H' Z Z' : Hp} {δ : List (Option T)} {σ : L2.St} {fp : List Addr}, aD Z Z' -> (∀ a ∈ fp, H' a = H a) -> fc K CL H Z δ σ fp -> fc K CL H' Z' δ σ fp := by
   intro H H' Z Z' δ σ fp e k r
   induction r with
   | nil => exact .nil
   | skip _ ih => exact .skip (ih k)
   | cons r _ ih => exact .cons (r.mono e fun a ha => k a (afl _ ha)) (ih fun a ha => k a (ae8 _ ha))
 induction h generalizing i with
 | nil => intro e; simp at e
 | @skip o δ σ fp r ih =>
   cases i with
   | zero => intro e; simp at e
   | succ i =>
     intro e
     obtain ⟨v, f1, f2, f3, h1, h2, h3, h4, h5⟩ := ih (i := i) (by simpa using e)
     exact ⟨v, f1, f2, f3, by simpa using h1, h2, h3, fun e k q => .skip (h4 e k q), .skip h5⟩
 | @cons t0 v0 δ σ fp gp r0 r ih =>
   cases i with
   | zero =>
     intro e
     simp at e
     subst e
     refine ⟨v0, [], fp, gp, rfl, rfl, r0, fun {H' Z' t' v' g} e k q => fc.cons (fp := g) (gp := gp) q (mono (fp := gp) e (fun a ha => k a (by simpa using ha)) r), .skip (by simpa using r)⟩
   | succ i =>
     intro e
     obtain ⟨v, f1, f2, f3, h1, h2, h3, h4, h5⟩ := ih (i := i) (by simpa using e)
     refine ⟨v, fp ++ f1, f2, f3, by simpa using h1, by rw [h2, List.append_assoc], h3, fun {H' Z' t' v' g} e k q => ?_, fun {o} => ?_⟩
     . rw [afi]
       exact .cons (r0.mono e fun a ha => k a (by simp [ha])) (h4 e (fun a ha => k a (by rw [afi]; exact ae8 _ ha)) q)
     . rw [afi]
       exact .cons r0 h5
theorem fc.mono {H H' Z Z' : Hp} {δ : List (Option T)} {σ : L2.St} {fp : List Addr} (e : aD Z Z') (k : ∀ a ∈ fp, H' a = H a) (r : fc K CL H Z δ σ fp) : fc K CL H' Z' δ σ fp := by
 induction r with
 | nil => exact .nil
 | skip _ ih => exact .skip (ih k)
 | cons r _ ih => exact .cons (r.mono e fun a ha => k a (afl _ ha)) (ih fun a ha => k a (ae8 _ ha))
theorem fc.there {H Z : Hp} {δ : List (Option T)} {σ : L2.St} {fp : List Addr} (r : fc K CL H Z δ σ fp) : ∀ a ∈ fp, ∃ o, H a = some o := by
 induction r with
 | nil => intro a ha; cases ha
 | skip _ ih => exact ih
 | cons r _ ih => exact fun a ha => (afm.mp ha).elim (r.there a) (ih a)
theorem fc.put {H Z : Hp} {δ : List (Option T)} {σ : L2.St} {fp : List Addr} (r : fc K CL H Z δ σ fp) {t : T} {v : V} {g : List Addr} (q : cK K CL H Z t v g) :
   ∀ {i : Nat}, i < δ.length -> ∃ f, fc K CL H Z (δ.set i (some t)) (σ.set i (some v)) f /\ ∃ f', f'.Sublist fp /\ f.Perm (g ++ f') := by
 induction r with
 | nil => intro i hi; simp at hi
 | @skip o δ σ fp r ih =>
   intro i hi
   cases i with
   | zero => exact ⟨g ++ fp, .cons q r, fp, afS _, ag2 _⟩
   | succ i =>
     obtain ⟨f, h1, f', h2, h3⟩ := ih (i := i) (by simpa using hi)
     exact ⟨f, .skip h1, f', h2, h3⟩
 | @cons t0 v0 δ σ fp gp r0 r ih =>
   intro i hi
   cases i with
   | zero => exact ⟨g ++ gp, .cons q r, gp, agf _ _, ag2 _⟩
   | succ i =>
     obtain ⟨f, h1, f', h2, h3⟩ := ih (i := i) (by simpa using hi)
     refine ⟨fp ++ f, .cons r0 h1, fp ++ f', afT (afS _) h2, ?_⟩
     refine (af1 fp h3).trans ?_
     rw [← afi, ← afi]
     exact List.Perm.append_right f' afX
end
noncomputable def BH (X : Cx) (e : Expr) : TE := fun σ H Q => ∀ (pins : List (Addr × Obj)) (s : Shared), Inv X pins σ H s -> wpAny (model X.prog X.w) X.A (eval e X.env) (EP X pins σ Q) X.xe s
noncomputable def Nf (X : Cx) (e : Expr) : TT := fun σ H Q => ∀ (pins : List (Addr × Obj)) (s : Shared), Inv X pins σ H s -> wpAny (model X.prog X.w) X.A (isTrue e X.env (eval e X.env)) (TP X pins σ Q) X.xe s
noncomputable def JB (X : Cx) (es : List Expr) : TA := fun σ H Q => ∀ (pos : Pos) (pins : List (Addr × Obj)) (s : Shared), Inv X pins σ H s -> wpAny (model X.prog X.w) X.A (spliced (backTo pos (starEach es X.env))) (AP X pins σ Q) X.xe s
noncomputable def Us (X : Cx) (st : Stmt) : TS := fun D σ H => ∀ (pins : List (Addr × Obj)) (s : Shared), Inv X pins σ H s -> wpAny (model X.prog X.w) X.A (exec st X.env) (SP X pins D) X.xe s
noncomputable def Ut (X : Cx) (st : List Stmt) : TS := fun D σ H => ∀ (pins : List (Addr × Obj)) (s : Shared), Inv X pins σ H s -> wpAny (model X.prog X.w) X.A (execs st X.env) (SP X pins D) X.xe s
section
variable {X : Cx}
theorem dR {e : Expr} : PE X e (BH X e) := fun pins s _ _ _ I h => h pins s I
theorem Uu {e : Expr} : PT X e (Nf X e) := fun pins s _ _ _ I h => h pins s I
theorem Ng {e : List Expr} : PA X e (JB X e) := fun pos pins s _ _ _ I h => h pos pins s I
theorem psS {e : Stmt} : PS X e (Us X e) := fun pins s _ _ _ I h => h pins s I
theorem Nh {e : List Stmt} : Dm X e (Ut X e) := fun pins s _ _ _ I h => h pins s I
theorem cZ {e : Expr} {t : TE} (h : PE X e t) {σ : L2.St} {H : Hp} {Q : VK} (q : t σ H Q) : BH X e σ H Q := fun pins s I => h pins s σ H Q I q
theorem BI {e : Expr} {t : TT} (h : PT X e t) {σ : L2.St} {H : Hp} {Q : Bool -> Hp -> Prop} (q : t σ H Q) : Nf X e σ H Q := fun pins s I => h pins s σ H Q I q
theorem G7 {e : List Expr} {t : TA} (h : PA X e t) {σ : L2.St} {H : Hp} {Q : List V -> Hp -> Prop} (q : t σ H Q) : JB X e σ H Q := fun pos pins s I => h pos pins s σ H Q I q
theorem uB {e : Stmt} {t : TS} (h : PS X e t) {σ : L2.St} {H : Hp} {D : Ends} (q : t D σ H) : Us X e D σ H := fun pins s I => h pins s σ H D I q
theorem XT {e : List Stmt} {t : TS} (h : Dm X e t) {σ : L2.St} {H : Hp} {D : Ends} (q : t D σ H) : Ut X e D σ H := fun pins s I => h pins s σ H D I q
end
noncomputable def notStar : Expr -> Bool
 | .Starred _ _ => false
 | _ => true
theorem bW {e : Expr} {es : List Expr} {env : Env} (h : notStar e = true) : starEach (e :: es) env = (false, eval e env) :: starEach es env := by
 cases e <;> first | rfl | (cases h)
structure Bx where
 B : Hp
 Z : Hp
noncomputable def iH : HO -> Bool
 | .tup _ => true
 | .dH _ _ => true
 | _ => false
noncomputable def BJ (x : Str) : Bool := x.cps[0]? == some 35
noncomputable def DF (x : Str) : Str := ⟨x.cps.extract 1 x.cps.size⟩
noncomputable def lE (CL : Str -> Addr) (Z : Hp) : Prop := ∀ x, BJ x = true -> CL x ≠ 0 -> Z (CL x) = some (.tabs (DF x))
structure bX (K : PySem.W.Frag) (CL : Str -> Addr) (b : Bx) (H Z : Hp) (δ : List (Option T)) (σ : L2.St) (ts : List T) (vs : List V) : Prop where
 rep : ∃ fp gp, fc K CL H Z δ σ fp /\ aQ K CL H Z ts vs gp /\ (fp ++ gp).Nodup /\ ∀ a ∈ fp ++ gp, Z a = none /\ b.B a = none
 bh : aD b.B H
 zz : aD b.Z Z
 zh : aD Z H
 new : ∀ a o, Z a = some o -> b.Z a = none -> b.B a = none
 tp : ∀ a o, H a = some o -> iH o = true -> Z a = some o
 tab : lE CL b.Z
section
variable {K : PySem.W.Frag} {CL : Str -> Addr} {b : Bx} {H H' Z Z' : Hp} {δ δ' : List (Option T)} {σ σ' : L2.St} {ts ts' : List T} {vs vs' : List V} {t : T} {v : V}
theorem lE.mono {A B : Hp} (h : lE CL A) (e : aD A B) : lE CL B := fun x hx h0 => e _ _ (h x hx h0)
theorem bX.XU (S : bX K CL b H Z δ σ ts vs) : lE CL Z := S.tab.mono S.zz
theorem bX.G8 (S : bX K CL b H Z δ σ ts vs) : lE CL H := S.XU.mono S.zh
theorem Uv {A B : Hp} (e : aD A B) {a : Addr} (h : B a = none) : A a = none := e.free h
theorem aD.upd {H : Hp} {p : Addr} {o : HO} (h : H p = none) : aD H (upd H p o) := fun b u e => by rw [az (aE e h)]; exact e
theorem bX.view (S : bX K CL b H Z δ σ (t :: ts) (v :: vs)) : aZ K CL H t.dH v := by
 obtain ⟨fp, gp, _, r, _, _⟩ := S.rep
 cases r with
 | cons r _ => exact r.dH S.zh fun _ _ => rfl
theorem bX.pop (S : bX K CL b H Z δ σ (t :: ts) (v :: vs)) : bX K CL b H Z δ σ ts vs := by
 obtain ⟨fp, gp, e, r, nd, k⟩ := S.rep
 cases r with
 | @cons _ _ _ _ f1 f2 r1 r2 =>
   refine ⟨⟨fp, f2, e, r2, nd.sublist (afT (afS _) (agf _ _)), fun a ha => k a ?_⟩, S.bh, S.zz, S.zh, S.new, S.tp, S.tab⟩
   rcases afm.mp ha with h | h
   . exact afl _ h
   . exact ae8 _ (ae8 _ h)
theorem bX.push {d : D} (S : bX K CL b H Z δ σ ts vs) (r : aZ K CL Z d v) : bX K CL b H Z δ σ (.sh d :: ts) (v :: vs) := by
 obtain ⟨fp, gp, e, r2, nd, k⟩ := S.rep
 exact ⟨⟨fp, [] ++ gp, e, .cons (.sh r) r2, nd, k⟩, S.bh, S.zz, S.zh, S.new, S.tp, S.tab⟩
theorem bX.JC (S : bX K CL b H Z δ σ (t :: ts) (v :: vs)) : ∃ Z', aD Z Z' /\ bX K CL b H Z' δ σ (.sh t.dH :: ts) (v :: vs) := by
 classical
 obtain ⟨fp, gp, e, r, nd, k⟩ := S.rep
 cases r with
 | @cons _ _ _ _ f1 f2 r1 r2 =>
   have nZ : ∀ a ∈ f1, Z a = none /\ b.B a = none := fun a ha => k a (ae8 _ (afl _ ha))
   have sz : aD Z (fun a => if a ∈ f1 then H a else Z a) := fun a o q => by
     by_cases ha : a ∈ f1
     . rw [(nZ a ha).1] at q; cases q
     . show (if a ∈ f1 then H a else Z a) = some o
       rw [ae9 ha]; exact q
   have XW := afZ.mp nd
   have dj : ∀ a ∈ fp ++ f2, a ∉ f1 := fun a ha h1 => by
     rcases afm.mp ha with h | h
     . exact XW.2.2 a h a (afl _ h1) rfl
     . exact (afZ.mp XW.2.1).2.2 a h1 a h rfl
   refine ⟨fun a => if a ∈ f1 then H a else Z a, sz, ⟨⟨fp, [] ++ f2, e.mono sz (fun _ _ => rfl), .cons (.sh (r1.dH sz fun a ha => afa ha)) (r2.mono sz fun _ _ => rfl), ?_, fun a ha => ?_⟩, S.bh, S.zz.trans sz, fun a o q => ?_, fun a o q z => ?_, fun a o q i => ?_, S.tab⟩⟩
   . exact nd.sublist (afT (afS _) (agf _ _))
   . have JD : a ∈ fp ++ f2 := ha
     refine ⟨?_, (k a ?_).2⟩
     . show (if a ∈ f1 then H a else Z a) = none
       rw [ae9 (dj a JD)]
       refine (k a ?_).1
       rcases afm.mp JD with h | h
       . exact afl _ h
       . exact ae8 _ (ae8 _ h)
     . rcases afm.mp JD with h | h
       . exact afl _ h
       . exact ae8 _ (ae8 _ h)
   . have q' : (if a ∈ f1 then H a else Z a) = some o := q
     by_cases ha : a ∈ f1
     . rw [afa ha] at q'; exact q'
     . rw [ae9 ha] at q'; exact S.zh a o q'
   . have q' : (if a ∈ f1 then H a else Z a) = some o := q
     by_cases ha : a ∈ f1
     . exact (nZ a ha).2
     . rw [ae9 ha] at q'; exact S.new a o q' z
   . exact sz a o (S.tp a o q i)
theorem bX.Ni {i : Nat} (S : bX K CL b H Z δ σ ts vs) (hi : δ[i]? = some (some t)) : ∃ v Z', σ[i]? = some (some v) /\ aD Z Z' /\ bX K CL b H Z' (δ.set i (some (.sh t.dH))) σ (.sh t.dH :: ts) (v :: vs) := by
 classical
 obtain ⟨fp, gp, e, r, nd, k⟩ := S.rep
 obtain ⟨v, f1, f2, f3, hv, sC, rt, put, _⟩ := e.get hi
 subst sC
 have nZ : ∀ a ∈ f2, Z a = none /\ b.B a = none := fun a ha => k a (by simp [ha])
 have sz : aD Z (fun a => if a ∈ f2 then H a else Z a) := fun a o q => by
   by_cases ha : a ∈ f2
   . rw [(nZ a ha).1] at q; cases q
   . show (if a ∈ f2 then H a else Z a) = some o
     rw [ae9 ha]; exact q
 have dj : ∀ a ∈ (f1 ++ f3) ++ gp, a ∉ f2 := fun a ha h2 => by
   have hp : ((f1 ++ (f2 ++ f3)) ++ gp).Perm (f2 ++ ((f1 ++ f3) ++ gp)) := by
     rw [← afi, ← afi]
     refine (List.perm_append_right_iff gp).mpr ?_
     rw [← afi]
     exact (List.perm_append_right_iff f3).mpr afX
   exact (afZ.mp (hp.nodup_iff.mp nd)).2.2 a h2 a ha rfl
 have rF : aZ K CL (fun a => if a ∈ f2 then H a else Z a) t.dH v := rt.dH sz fun a ha => afa ha
 have Uw : σ.set i (some v) = σ := by
   apply agG
   intro j
   rw [List.getElem?_set]
   split
   . rename_i h; subst h
     split
     . exact hv.symm
     . rename_i h2; rw [agT (by omega)]
   . rfl
 have e2 : fc K CL H (fun a => if a ∈ f2 then H a else Z a) (δ.set i (some (.sh t.dH))) σ (f1 ++ ([] ++ f3)) := by
   have := put (H' := H) (t' := .sh t.dH) (v' := v) (g := []) sz (fun _ _ => rfl) (.sh rF)
   rwa [Uw] at this
 refine ⟨v, fun a => if a ∈ f2 then H a else Z a, hv, sz, ⟨⟨f1 ++ ([] ++ f3), [] ++ gp, e2, .cons (.sh rF) (r.mono sz fun _ _ => rfl), ?_, fun a ha => ?_⟩, S.bh, S.zz.trans sz, fun a o q => ?_, fun a o q z => ?_, fun a o q i => sz a o (S.tp a o q i), S.tab⟩⟩
 . exact nd.sublist (afT (afT (afS _) (agf _ _)) (afS _))
 . have JD : a ∈ (f1 ++ f3) ++ gp := ha
   have hm : a ∈ (f1 ++ (f2 ++ f3)) ++ gp := by
     simp only [afm] at JD ⊢
     rcases JD with (h | h) | h
     . exact .inl (.inl h)
     . exact .inl (.inr (.inr h))
     . exact .inr h
   refine ⟨?_, (k a hm).2⟩
   show (if a ∈ f2 then H a else Z a) = none
   rw [ae9 (dj a JD)]
   exact (k a hm).1
 . have q' : (if a ∈ f2 then H a else Z a) = some o := q
   by_cases ha : a ∈ f2
   . rw [afa ha] at q'; exact q'
   . rw [ae9 ha] at q'; exact S.zh a o q'
 . have q' : (if a ∈ f2 then H a else Z a) = some o := q
   by_cases ha : a ∈ f2
   . exact (nZ a ha).2
   . rw [ae9 ha] at q'; exact S.new a o q' z
theorem bX.move {i : Nat} (S : bX K CL b H Z δ σ ts vs) (hi : δ[i]? = some (some t)) : ∃ v, σ[i]? = some (some v) /\ bX K CL b H Z (δ.set i none) σ (t :: ts) (v :: vs) := by
 obtain ⟨fp, gp, e, r, nd, k⟩ := S.rep
 obtain ⟨v, f1, f2, f3, hv, sC, rt, _, del⟩ := e.get hi
 subst sC
 have Uw : σ.set i (some v) = σ := by
   apply agG
   intro j
   rw [List.getElem?_set]
   split
   . rename_i h; subst h
     split
     . exact hv.symm
     . rename_i h2; rw [agT (by omega)]
   . rfl
 have hp : ((f1 ++ (f2 ++ f3)) ++ gp).Perm ((f1 ++ f3) ++ (f2 ++ gp)) := by
   have h1 : (f2 ++ f3).Perm (f3 ++ f2) := afX
   have h2 := (af1 f1 h1).append_right gp
   simp only [afi] at h2 ⊢
   exact h2
 refine ⟨v, hv, ⟨⟨f1 ++ f3, f2 ++ gp, ?_, .cons rt r, hp.nodup_iff.mp nd, fun a ha => k a (hp.mem_iff.mpr ha)⟩, S.bh, S.zz, S.zh, S.new, S.tp, S.tab⟩⟩
 have := del (o := some v)
 rwa [Uw] at this
theorem bX.look {i : Nat} (S : bX K CL b H Z δ σ ts vs) (hi : δ[i]? = some (some t)) : ∃ v, σ[i]? = some (some v) /\ aZ K CL H t.dH v := by
 obtain ⟨fp, gp, e, r, nd, k⟩ := S.rep
 obtain ⟨v, f1, f2, f3, hv, sC, rt, _, _⟩ := e.get hi
 exact ⟨v, hv, rt.dH S.zh fun _ _ => rfl⟩
theorem bX.Sb {i : Nat} {d : D} (S : bX K CL b H Z δ σ ts vs) (hi : δ[i]? = some (some (.sh d))) : ∃ v, σ[i]? = some (some v) /\ aZ K CL Z d v := by
 obtain ⟨fp, gp, e, r, nd, k⟩ := S.rep
 obtain ⟨v, f1, f2, f3, hv, sC, rt, _, _⟩ := e.get hi
 cases rt with
 | sh h => exact ⟨v, hv, h⟩
theorem bX.set {i : Nat} (S : bX K CL b H Z δ σ (t :: ts) (v :: vs)) (hi : i < δ.length) : bX K CL b H Z (δ.set i (some t)) (σ.set i (some v)) ts vs := by
 obtain ⟨fp, gp, e, r, nd, k⟩ := S.rep
 cases r with
 | @cons _ _ _ _ f1 f2 r1 r2 =>
   obtain ⟨f, h1, f', h2, h3⟩ := e.put r1 hi
   have hp : (f ++ f2).Perm (f' ++ (f1 ++ f2)) := by
     refine (h3.append_right f2).trans ?_
     rw [← afi]
     exact afX.append_right f2
   have XY : (f' ++ (f1 ++ f2)).Sublist (fp ++ (f1 ++ f2)) := afT h2 (afS _)
   exact ⟨⟨f, f2, h1, r2, hp.nodup_iff.mpr (nd.sublist XY), fun a ha => k a (XY.subset (hp.mem_iff.mp ha))⟩, S.bh, S.zz, S.zh, S.new, S.tp, S.tab⟩
end
mutual
noncomputable def D.jg : D -> Bool
 | .tup ds => D.bN ds
 | .lst _ => false
 | .ins _ _ => false
 | .jL _ => false
 | .any => false
 | _ => true
noncomputable def D.bN : List D -> Bool
 | [] => true
 | d :: ds => d.jg && D.bN ds
end
mutual
noncomputable def T.clean : T -> Bool
 | .sh d => d.jg
 | .tup ts => T.c6 ts
 | .lst ts => T.c6 ts
 | .ins _ fs => T.bf fs
 | .jL kvs => D.bN (kvs.map (·.2))
 | .pin _ t => t.clean
noncomputable def T.c6 : List T -> Bool
 | [] => true
 | t :: ts => t.clean && T.c6 ts
noncomputable def T.bf : List (Str × T) -> Bool
 | [] => true
 | (_, t) :: ts => t.clean && T.bf ts
end
noncomputable def cg (X : Cx) (CL : Str -> Addr) (b : Bx) (e : Expr) (δ : List (Option T)) (t : T) (δ' : List (Option T)) : Prop :=
 ∀ (H Z : Hp) (σ : L2.St) (ts : List T) (vs : List V) (Q : VK), bX X.K CL b H Z δ σ ts vs -> (∀ v H' Z', aD Z Z' -> aD H H' -> bX X.K CL b H' Z' δ' σ (t :: ts) (v :: vs) -> Q v H') -> BH X e σ H Q
noncomputable def cH (X : Cx) (CL : Str -> Addr) (b : Bx) (e : Expr) (δ : List (Option T)) (d : D) (δ' : List (Option T)) : Prop :=
 ∀ (H Z : Hp) (σ : L2.St) (ts : List T) (vs : List V) (Q : VK), bX X.K CL b H Z δ σ ts vs -> (∀ v H' Z', aD Z Z' -> aD H H' -> bX X.K CL b H' Z' δ' σ ts vs -> aZ X.K CL H' d v -> Q v H') -> BH X e σ H Q
noncomputable def pI (X : Cx) (CL : Str -> Addr) (b : Bx) (e : Expr) (δ : List (Option T)) (p : Bool) (δ' : List (Option T)) : Prop :=
 ∀ (H Z : Hp) (σ : L2.St) (ts : List T) (vs : List V) (Q : Bool -> Hp -> Prop), bX X.K CL b H Z δ σ ts vs -> (∀ H' Z', aD Z Z' -> aD H H' -> bX X.K CL b H' Z' δ' σ ts vs -> Q p H') -> Nf X e σ H Q
noncomputable def DG (X : Cx) (CL : Str -> Addr) (b : Bx) (es : List Expr) (δ : List (Option T)) (tl : List T) (δ' : List (Option T)) : Prop :=
 ∀ (H Z : Hp) (σ : L2.St) (ts : List T) (vs : List V) (Q : List V -> Hp -> Prop), bX X.K CL b H Z δ σ ts vs →
   (∀ us H' Z', us.length = tl.length -> aD Z Z' -> aD H H' -> bX X.K CL b H' Z' δ' σ (tl.reverse ++ ts) (us.reverse ++ vs) -> Q us H') -> JB X es σ H Q
noncomputable def Sd (X : Cx) (CL : Str -> Addr) (b : Bx) (es : List Expr) (δ : List (Option T)) (ds : List D) (δ' : List (Option T)) : Prop :=
 ∀ (H Z : Hp) (σ : L2.St) (ts : List T) (vs : List V) (Q : List V -> Hp -> Prop), bX X.K CL b H Z δ σ ts vs →
   (∀ us H' Z', aD Z Z' -> aD H H' -> bX X.K CL b H' Z' δ' σ ts vs -> aC X.K CL H' ds us -> Q us H') -> JB X es σ H Q
structure cW where
 nx : List (Option T) -> Prop
 rt : T -> List (Option T) -> Prop
 bk : List (Option T) -> Prop := fun _ => False
 ct : List (Option T) -> Prop := fun _ => False
structure Meets (K : PySem.W.Frag) (CL : Str -> Addr) (b : Bx) (Z : Hp) (ts : List T) (vs : List V) (D : cW) (E : Ends) : Prop where
 nx : ∀ δ' σ' H' Z', aD Z Z' -> bX K CL b H' Z' δ' σ' ts vs -> D.nx δ' -> E.nx σ' H'
 rt : ∀ t v H' Z' δ' σ', aD Z Z' -> bX K CL b H' Z' δ' σ' (t :: ts) (v :: vs) -> D.rt t δ' -> E.rt v H'
 bk : ∀ δ' σ' H' Z', aD Z Z' -> bX K CL b H' Z' δ' σ' ts vs -> D.bk δ' -> E.bk σ' H'
 ct : ∀ δ' σ' H' Z', aD Z Z' -> bX K CL b H' Z' δ' σ' ts vs -> D.ct δ' -> E.ct σ' H'
noncomputable def Nj (X : Cx) (CL : Str -> Addr) (b : Bx) (st : Stmt) (δ : List (Option T)) (D : cW) : Prop :=
 ∀ (H Z : Hp) (σ : L2.St) (ts : List T) (vs : List V) (E : Ends), bX X.K CL b H Z δ σ ts vs -> Meets X.K CL b Z ts vs D E -> Us X st E σ H
noncomputable def eO (X : Cx) (CL : Str -> Addr) (b : Bx) (st : List Stmt) (δ : List (Option T)) (D : cW) : Prop :=
 ∀ (H Z : Hp) (σ : L2.St) (ts : List T) (vs : List V) (E : Ends), bX X.K CL b H Z δ σ ts vs -> Meets X.K CL b Z ts vs D E -> Ut X st E σ H
section
variable {K : PySem.W.Frag} {CL : Str -> Addr} {b : Bx} {H H' Z Z' : Hp} {δ δ' : List (Option T)} {σ σ' : L2.St} {ts ts' : List T} {vs vs' : List V} {t : T} {v : V}
theorem Meets.mono {D : cW} {E : Ends} (M : Meets K CL b Z ts vs D E) (e : aD Z Z') : Meets K CL b Z' ts vs D E :=
 ⟨fun _ _ _ _ s => M.nx _ _ _ _ (e.trans s), fun _ _ _ _ _ _ s => M.rt _ _ _ _ _ _ (e.trans s), fun _ _ _ _ s => M.bk _ _ _ _ (e.trans s), fun _ _ _ _ s => M.ct _ _ _ _ (e.trans s)⟩
theorem FP {a : Addr} {xs : List V} (zh : ∀ a o, H a = some o -> iH o = true -> Z a = some o) (h : sX K H a xs) : sX K Z a xs := by
 rcases h with (h | ⟨o, h⟩) | h
 . exact .inl (.inl (zh _ _ h rfl))
 . exact .inl (.inr ⟨o, zh _ _ h rfl⟩)
 . exact .inr h
theorem aZ.jg (zh : ∀ a o, H a = some o -> iH o = true -> Z a = some o) {d : D} {v : V} (k : d.jg = true) (h : aZ K CL H d v) : aZ K CL Z d v :=
 aZ.rec (motive_1 := fun d v _ => d.jg = true -> aZ K CL Z d v) (motive_2 := fun d v _ => D.bN d = true -> aC K CL Z d v) (motive_3 := fun d v _ => True) (motive_4 := fun d v _ => True)
   (fun _ => .non) (fun b _ => .bl b) (fun b _ => .int b) (fun b _ => .str b) (fun _ k => by rw [D.jg] at k; cases k) (fun b _ => .val b) (fun h _ r k => .tup (FP zh h) (r (by rw [D.jg] at k; exact k))) (fun _ _ _ k => by rw [D.jg] at k; cases k) (fun _ _ _ k => by rw [D.jg] at k; cases k) (fun _ _ _ k => by rw [D.jg] at k; cases k) (fun _ => .nil) (fun _ _ h r k => by rw [D.bN, afJ] at k; exact .cons (h k.1) (r k.2)) trivial (fun _ _ _ _ => trivial) trivial (fun _ _ _ _ => trivial) h k
theorem aC.jg (zh : ∀ a o, H a = some o -> iH o = true -> Z a = some o) {d : List D} {v : List V} (k : D.bN d = true) (h : aC K CL H d v) : aC K CL Z d v :=
 aC.rec (motive_1 := fun d v _ => d.jg = true -> aZ K CL Z d v) (motive_2 := fun d v _ => D.bN d = true -> aC K CL Z d v) (motive_3 := fun d v _ => True) (motive_4 := fun d v _ => True)
   (fun _ => .non) (fun b _ => .bl b) (fun b _ => .int b) (fun b _ => .str b) (fun _ k => by rw [D.jg] at k; cases k) (fun b _ => .val b) (fun h _ r k => .tup (FP zh h) (r (by rw [D.jg] at k; exact k))) (fun _ _ _ k => by rw [D.jg] at k; cases k) (fun _ _ _ k => by rw [D.jg] at k; cases k) (fun _ _ _ k => by rw [D.jg] at k; cases k) (fun _ => .nil) (fun _ _ h r k => by rw [D.bN, afJ] at k; exact .cons (h k.1) (r k.2)) trivial (fun _ _ _ _ => trivial) trivial (fun _ _ _ _ => trivial) h k
theorem bz.clean {Z1 : Hp} (zi : ∀ {d : D} {v : V}, d.jg = true -> aZ K CL Z1 d v -> aZ K CL Z d v) {kvs : List (Key × D)} {gs : List (Key × V)} (k : D.bN (kvs.map (·.2)) = true) (h : bz K CL Z1 kvs gs) : bz K CL Z kvs gs :=
 bz.ind (P := fun kvs gs => D.bN (kvs.map (·.2)) = true -> bz K CL Z kvs gs) (fun _ => .nil) (fun h _ i k => by rw [afx, D.bN, afJ] at k; exact .cons (zi k.1 h) (i k.2)) h k
theorem cK.clean {Z1 : Hp} (zh : ∀ a xs, Z1 a = some (.tup xs) -> Z a = some (.tup xs)) (zi : ∀ {d : D} {v : V}, d.jg = true -> aZ K CL Z1 d v -> aZ K CL Z d v) {t : T} {v : V} {fp : List Addr} (k : t.clean = true) (h : cK K CL H Z1 t v fp) : cK K CL H Z t v fp :=
 cK.rec (motive_1 := fun t v fp _ => t.clean = true -> cK K CL H Z t v fp) (motive_2 := fun t v fp _ => T.c6 t = true -> aQ K CL H Z t v fp) (motive_3 := fun t v fp _ => T.bf t = true -> bQ K CL H Z t v fp)
   (fun h k => .sh (zi (by rw [T.clean] at k; exact k) h)) (fun h _ r k => .tup (zh _ _ h) (r (by rw [T.clean] at k; exact k))) (fun h _ r k => .lst h (r (by rw [T.clean] at k; exact k))) (fun h _ r k => .ins h (r (by rw [T.clean] at k; exact k))) (fun h f k => .jL h (bz.clean zi (by rw [T.clean] at k; exact k) f)) (fun _ r k => .pin (r (by rw [T.clean] at k; exact k))) (fun _ => .nil) (fun _ _ h r k => by rw [T.c6, afJ] at k; exact .cons (h k.1) (r k.2)) (fun _ => .nil) (fun _ _ h r k => by rw [T.bf, afJ] at k; exact .cons (h k.1) (r k.2)) h k
theorem aQ.clean {Z1 : Hp} (zh : ∀ a xs, Z1 a = some (.tup xs) -> Z a = some (.tup xs)) (zi : ∀ {d : D} {v : V}, d.jg = true -> aZ K CL Z1 d v -> aZ K CL Z d v) {t : List T} {v : List V} {fp : List Addr} (k : T.c6 t = true) (h : aQ K CL H Z1 t v fp) : aQ K CL H Z t v fp :=
 aQ.rec (motive_1 := fun t v fp _ => t.clean = true -> cK K CL H Z t v fp) (motive_2 := fun t v fp _ => T.c6 t = true -> aQ K CL H Z t v fp) (motive_3 := fun t v fp _ => T.bf t = true -> bQ K CL H Z t v fp)
   (fun h k => .sh (zi (by rw [T.clean] at k; exact k) h)) (fun h _ r k => .tup (zh _ _ h) (r (by rw [T.clean] at k; exact k))) (fun h _ r k => .lst h (r (by rw [T.clean] at k; exact k))) (fun h _ r k => .ins h (r (by rw [T.clean] at k; exact k))) (fun h f k => .jL h (bz.clean zi (by rw [T.clean] at k; exact k) f)) (fun _ r k => .pin (r (by rw [T.clean] at k; exact k))) (fun _ => .nil) (fun _ _ h r k => by rw [T.c6, afJ] at k; exact .cons (h k.1) (r k.2)) (fun _ => .nil) (fun _ _ h r k => by rw [T.bf, afJ] at k; exact .cons (h k.1) (r k.2)) h k
theorem bQ.clean {Z1 : Hp} (zh : ∀ a xs, Z1 a = some (.tup xs) -> Z a = some (.tup xs)) (zi : ∀ {d : D} {v : V}, d.jg = true -> aZ K CL Z1 d v -> aZ K CL Z d v) {t : List (Str × T)} {v : List (Str × V)} {fp : List Addr} (k : T.bf t = true) (h : bQ K CL H Z1 t v fp) : bQ K CL H Z t v fp :=
 bQ.rec (motive_1 := fun t v fp _ => t.clean = true -> cK K CL H Z t v fp) (motive_2 := fun t v fp _ => T.c6 t = true -> aQ K CL H Z t v fp) (motive_3 := fun t v fp _ => T.bf t = true -> bQ K CL H Z t v fp)
   (fun h k => .sh (zi (by rw [T.clean] at k; exact k) h)) (fun h _ r k => .tup (zh _ _ h) (r (by rw [T.clean] at k; exact k))) (fun h _ r k => .lst h (r (by rw [T.clean] at k; exact k))) (fun h _ r k => .ins h (r (by rw [T.clean] at k; exact k))) (fun h f k => .jL h (bz.clean zi (by rw [T.clean] at k; exact k) f)) (fun _ r k => .pin (r (by rw [T.clean] at k; exact k))) (fun _ => .nil) (fun _ _ h r k => by rw [T.c6, afJ] at k; exact .cons (h k.1) (r k.2)) (fun _ => .nil) (fun _ _ h r k => by rw [T.bf, afJ] at k; exact .cons (h k.1) (r k.2)) h k
theorem bX.back {W W' : Hp} {fp : List Addr} (S : bX K CL b H Z δ σ ts vs) (hh : aD H H') (zw : aD Z W) (ww : aD W W') (wh : aD W' H') (new : ∀ a o, W' a = some o -> W a = none -> H a = none)
   (tp : ∀ a o, H' a = some o -> iH o = true -> W' a = some o) (r : cK K CL H' W' t v fp) (nd : fp.Nodup) (own : ∀ a ∈ fp, W' a = none /\ H a = none) (c : W = Z \/ t.clean = true) :
   ∃ Z', aD Z Z' /\ bX K CL b H' Z' δ σ (t :: ts) (v :: vs) := by
 classical
 let Z' : Hp := fun a => if (H a).isSome = true then Z a else W' a
 have zs : ∀ {a : Addr} {o : HO}, H a = some o -> Z' a = Z a := fun {a o} e => by
   show (if (H a).isSome = true then Z a else W' a) = Z a
   rw [afa (by rw [e]; rfl)]
 have zn : ∀ {a : Addr}, H a = none -> Z' a = W' a := fun {a} e => by
   show (if (H a).isSome = true then Z a else W' a) = W' a
   rw [ae9 (by rw [e]; simp)]
 have sz : aD Z Z' := fun a o q => by rw [zs (S.zh a o q)]; exact q
 have zw' : ∀ a o, Z' a = some o -> W' a = some o := fun a o q => by
   cases e : H a with
   | none => rw [zn e] at q; exact q
   | some u => rw [zs e] at q; exact ww a o (zw a o q)
 have ztp : ∀ a o, H' a = some o -> iH o = true -> Z' a = some o := fun a o q i => by
   cases e : H a with
   | none => rw [zn e]; exact tp a o q i
   | some u =>
     rw [zs e]
     have := hh a u e
     rw [q] at this; cases this
     exact S.tp a o e i
 have r' : cK K CL H' Z' t v fp := by
   rcases c with c | c
   . have : Z' = W' := by
       funext a
       cases e : H a with
       | none => exact zn e
       | some u =>
         rw [zs e]
         cases q : W' a with
         | none =>
           cases q2 : Z a with
           | none => rfl
           | some o => rw [ww a o (zw a o q2)] at q; cases q
         | some o =>
           cases q2 : W a with
           | none => rw [new a o q q2] at e; cases e
           | some o2 =>
             have := ww a o2 q2
             rw [q] at this; cases this
             rw [← c]; exact q2
     rw [this]; exact r
   . refine cK.clean (fun a xs h => ?_) (fun {d v} k h => ?_) c r
     . exact ztp a _ (wh a _ h) rfl
     . exact aZ.jg (H := H') ztp k (h.mono wh)
 obtain ⟨f0, g0, e0, r0, nd0, k0⟩ := S.rep
 have old : ∀ a ∈ f0 ++ g0, ∃ o, H a = some o := fun a ha => (afm.mp ha).elim (e0.there a) (r0.there a)
 have keep : ∀ a ∈ f0 ++ g0, H' a = H a := fun a ha => by
   obtain ⟨o, e⟩ := old a ha
   rw [e]; exact hh a o e
 refine ⟨Z', sz, ⟨⟨f0, fp ++ g0, e0.mono sz (fun a ha => keep a (afl _ ha)), .cons r' (r0.mono sz fun a ha => keep a (ae8 _ ha)), ?_, fun a ha => ?_⟩, S.bh.trans hh, S.zz.trans sz, fun a o q => wh a o (zw' a o q), fun a o q z => ?_, ztp, S.tab⟩⟩
 . have hp : (f0 ++ (fp ++ g0)).Perm (fp ++ (f0 ++ g0)) := by
     rw [← afi, ← afi]
     exact afX.append_right g0
   refine hp.nodup_iff.mpr (afZ.mpr ⟨nd, nd0, fun a ha c hc e => ?_⟩)
   subst e
   obtain ⟨o, q⟩ := old a hc
   rw [(own a ha).2] at q; cases q
 . have : a ∈ f0 ++ g0 \/ a ∈ fp := by
     simp only [afm] at ha ⊢
     rcases ha with h | h | h
     . exact .inl (.inl h)
     . exact .inr h
     . exact .inl (.inr h)
   rcases this with h | h
   . obtain ⟨o, q⟩ := old a h
     exact ⟨by rw [zs q]; exact (k0 a h).1, (k0 a h).2⟩
   . exact ⟨by rw [zn (own a h).2]; exact (own a h).1, S.bh.free (own a h).2⟩
 . cases e : H a with
   | none => exact S.bh.free e
   | some u => rw [zs e] at q; exact S.new a o q z
end
section
variable {X : Cx} {CL : Str -> Addr} {b : Bx} {δ δ1 δ2 δ3 : List (Option T)} {e e1 e2 : Expr} {t t1 t2 : T} {d d1 d2 : D} {pos : Pos}
theorem Se (h : cg X CL b e δ t δ1) : cH X CL b e δ t.dH δ1 := fun H Z σ ts vs Q S k => h H Z σ ts vs Q S fun v H' Z' z s S' => k v H' Z' z s S'.pop S'.view
theorem ah (h : cg X CL b e δ (.sh d) δ1) : cH X CL b e δ d δ1 := by have := Se h; rwa [T.dH] at this
theorem cE (h : cH X CL b e δ d δ1) (i : d.jg = true) : cg X CL b e δ (.sh d) δ1 := fun H Z σ ts vs Q S k => h H Z σ ts vs Q S fun v H' Z' z s S' r => k v H' Z' z s (S'.push (aZ.jg S'.tp i r))
theorem DH (h : cg X CL b e δ t δ1) : cg X CL b e δ (.sh t.dH) δ1 := fun H Z σ ts vs Q S k => h H Z σ ts vs Q S fun v H' Z' z s S' => by
 obtain ⟨Z2, z2, S2⟩ := S'.JC
 exact k v H' Z2 (z.trans z2) s S2
theorem aj {i : Int} {j : Nat} : cg X CL b (.Constant (.int i) j pos) δ (.sh (.int i)) δ := fun H Z σ ts vs Q S k => cZ Tg (k _ _ Z (.refl _) (.refl _) (S.push (.int i)))
theorem i6 {i : Bool} {j : Nat} : cg X CL b (.Constant (.bool i) j pos) δ (.sh (.bl i)) δ := fun H Z σ ts vs Q S k => cZ Xe (k _ _ Z (.refl _) (.refl _) (S.push (.bl i)))
theorem aX {x : Str} {j : Nat} : cg X CL b (.Constant (.str x) j pos) δ (.sh (.str x)) δ := fun H Z σ ts vs Q S k => cZ Ti (k _ _ Z (.refl _) (.refl _) (S.push (.str x)))
section
variable (i : Nat) {x : Str} (hi : X.N[i]? = some x := by rfl) (hv : Td X.env.scope x := by first | exact Or.inl rfl | exact Or.inr (Or.inl rfl) | exact Or.inr (Or.inr rfl)) (hd : (x == ("__debug__" : Str)) = false := by decide) (iD : (x == ("__classdict__" : Str)) = false := by decide)
include hi hv hd iD
theorem Ux (h : δ[i]? = some (some (.sh d)) := by rfl) : cg X CL b (.Name x pos) δ (.sh d) δ := fun H Z σ ts vs Q S k => by
 obtain ⟨v, e, r⟩ := S.Sb h
 exact cZ (lz hi hv hd iD) ⟨v, e, k v H Z (.refl _) (.refl _) (S.push r)⟩
theorem Nk (h : δ[i]? = some (some t) := by rfl) : cg X CL b (.Name x pos) δ (.sh t.dH) (δ.set i (some (.sh t.dH))) := fun H Z σ ts vs Q S k => by
 obtain ⟨v, Z', e, z, S'⟩ := S.Ni h
 exact cZ (lz hi hv hd iD) ⟨v, e, k v H Z' z (.refl _) S'⟩
theorem Nm (h : δ[i]? = some (some t) := by rfl) : cg X CL b (.Name x pos) δ t (δ.set i none) := fun H Z σ ts vs Q S k => by
 obtain ⟨v, e, S'⟩ := S.move h
 exact cZ (lz hi hv hd iD) ⟨v, e, k v H Z (.refl _) (.refl _) S'⟩
theorem Uy (h : δ[i]? = some (some t) := by rfl) : cH X CL b (.Name x pos) δ t.dH δ := fun H Z σ ts vs Q S k => by
 obtain ⟨v, e, r⟩ := S.look h
 exact cZ (lz hi hv hd iD) ⟨v, e, k v H Z (.refl _) (.refl _) S r⟩
end
noncomputable def Uz : D -> Option V
 | .non => some .non
 | .bl b => some (.bl b)
 | .int i => some (.int i)
 | .str x => some (.str x)
 | _ => none
theorem aZ.sc {K : PySem.W.Frag} {Z : Hp} {d : D} {v w : V} (r : aZ K CL Z d v) (h : Uz d = some w) : v = w := by
 cases r <;> first | (exact afv h) | (cases h)
theorem Nn {K : PySem.W.Frag} {Z : Hp} {d : D} {w : V} (h : Uz d = some w) : aZ K CL Z d w := by
 cases d <;> first | (cases h; constructor) | (cases h)
theorem oB {op : Operator} {r : R2} {w1 w2 w : V} (ho : qV X (binaryOp op) r) (h1 : cH X CL b e1 δ d1 δ1) (h2 : cH X CL b e2 δ1 d2 δ2) (s1 : Uz d1 = some w1) (s2 : Uz d2 = some w2) (s3 : Uz d = some w)
   (hr : ∀ (H : Hp) (Q : VK), Q w H -> r w1 w2 H Q) : cg X CL b (.BinOp e1 op e2 pos) δ (.sh d) δ2 := fun H Z σ ts vs Q S k => by
 refine cZ (Jf ho dR dR) (h1 H Z σ ts vs _ S fun v1 H1 Z1 z1 k1 S1 r1 => h2 H1 Z1 σ ts vs _ S1 fun v2 H2 Z2 z2 k2 S2 r2 => ?_)
 rw [r1.sc s1, r2.sc s2]
 exact hr H2 Q (k w H2 Z2 (z1.trans z2) (k1.trans k2) (S2.push (Nn s3)))
theorem dM {i j : Int} (h1 : cH X CL b e1 δ (.int i) δ1) (h2 : cH X CL b e2 δ1 (.int j) δ2) : cg X CL b (.BinOp e1 .Add e2 pos) δ (.sh (.int (i + j))) δ2 := oB T7 h1 h2 rfl rfl rfl fun _ _ q => ⟨i, j, rfl, rfl, q⟩
theorem lF {i j : Int} (h1 : cH X CL b e1 δ (.int i) δ1) (h2 : cH X CL b e2 δ1 (.int j) δ2) : cg X CL b (.BinOp e1 .Sub e2 pos) δ (.sh (.int (i - j))) δ2 := oB T8 h1 h2 rfl rfl rfl fun _ _ q => ⟨i, j, rfl, rfl, q⟩
theorem oE {i j : Int} (h1 : cH X CL b e1 δ (.int i) δ1) (h2 : cH X CL b e2 δ1 (.int j) δ2) (c : MX i j) : cg X CL b (.BinOp e1 .Mult e2 pos) δ (.sh (.int (i * j))) δ2 := oB T9 h1 h2 rfl rfl rfl fun _ _ q => ⟨i, j, rfl, rfl, c, q⟩
theorem bq {i j : Int} (h1 : cH X CL b e1 δ (.int i) δ1) (h2 : cH X CL b e2 δ1 (.int j) δ2) (c : 0 < j) : cg X CL b (.BinOp e1 .Mod e2 pos) δ (.sh (.int (i % j))) δ2 := oB Ua h1 h2 rfl rfl rfl fun _ _ q => ⟨i, j, rfl, rfl, c, q⟩
theorem bJ {i j : Int} (h1 : cH X CL b e1 δ (.int i) δ1) (h2 : cH X CL b e2 δ1 (.int j) δ2) (c : Xu i j) : cg X CL b (.BinOp e1 .FloorDiv e2 pos) δ (.sh (.int (i / j))) δ2 := oB MY h1 h2 rfl rfl rfl fun _ _ q => ⟨i, j, rfl, rfl, c, q⟩
theorem DI {i j : Int} (h1 : cH X CL b e1 δ (.int i) δ1) (h2 : cH X CL b e2 δ1 (.int j) δ2) (c : Xv i j) : cg X CL b (.BinOp e1 .Pow e2 pos) δ (.sh (.int (i ^ j.toNat))) δ2 := oB Ub h1 h2 rfl rfl rfl fun _ _ q => ⟨i, j, rfl, rfl, c, q⟩
theorem lG {x y : Str} (h1 : cH X CL b e1 δ (.str x) δ1) (h2 : cH X CL b e2 δ1 (.str y) δ2) (c : x.length + y.length <= sizeLine) : cg X CL b (.BinOp e1 .Add e2 pos) δ (.sh (.str (x ++ y))) δ2 := oB Dq h1 h2 rfl rfl rfl fun _ _ q => ⟨x, y, rfl, rfl, c, q⟩
theorem uC {op : CmpOp} {r : R2} {p : Bool} {w1 w2 : V} (ho : qV X (compareOp op) r) (h1 : cH X CL b e1 δ d1 δ1) (h2 : cH X CL b e2 δ1 d2 δ2) (s1 : Uz d1 = some w1) (s2 : Uz d2 = some w2)
   (hr : ∀ (H : Hp) (Q : VK), Q (.bl p) H -> r w1 w2 H Q) (hm : behindInMarks op e2 = false) : pI X CL b (.Compare e1 [op] [e2] pos) δ p δ2 /\ cg X CL b (.Compare e1 [op] [e2] pos) δ (.sh (.bl p)) δ2 := by
 constructor
 . intro H Z σ ts vs Q S k
   refine BI (mF ho dR dR hm) (h1 H Z σ ts vs _ S fun v1 H1 Z1 z1 k1 S1 r1 => h2 H1 Z1 σ ts vs _ S1 fun v2 H2 Z2 z2 k2 S2 r2 => ?_)
   rw [r1.sc s1, r2.sc s2]
   exact hr H2 _ ⟨p, rfl, k H2 Z2 (z1.trans z2) (k1.trans k2) S2⟩
 . intro H Z σ ts vs Q S k
   refine cZ (mE ho dR dR hm) (h1 H Z σ ts vs _ S fun v1 H1 Z1 z1 k1 S1 r1 => h2 H1 Z1 σ ts vs _ S1 fun v2 H2 Z2 z2 k2 S2 r2 => ?_)
   rw [r1.sc s1, r2.sc s2]
   exact hr H2 _ (k _ H2 Z2 (z1.trans z2) (k1.trans k2) (S2.push (.bl p)))
theorem fh {i j : Int} (h1 : cH X CL b e1 δ (.int i) δ1) (h2 : cH X CL b e2 δ1 (.int j) δ2) : pI X CL b (.Compare e1 [.Eq] [e2] pos) δ (decide (i = j)) δ2 /\ cg X CL b (.Compare e1 [.Eq] [e2] pos) δ (.sh (.bl (decide (i = j)))) δ2 :=
 uC Jh h1 h2 rfl rfl (fun _ _ q => ⟨rfl, by rw [show decide (V.int i = V.int j) = decide (i = j) by simp]; exact q⟩) (ki _)
theorem qX {i j : Int} (h1 : cH X CL b e1 δ (.int i) δ1) (h2 : cH X CL b e2 δ1 (.int j) δ2) : pI X CL b (.Compare e1 [.NotEq] [e2] pos) δ (!decide (i = j)) δ2 /\ cg X CL b (.Compare e1 [.NotEq] [e2] pos) δ (.sh (.bl (!decide (i = j)))) δ2 :=
 uC Xx h1 h2 rfl rfl (fun _ _ q => ⟨rfl, by rw [show decide (V.int i = V.int j) = decide (i = j) by simp]; exact q⟩) (ki _)
theorem dY {i j : Str} (h1 : cH X CL b e1 δ (.str i) δ1) (h2 : cH X CL b e2 δ1 (.str j) δ2) : pI X CL b (.Compare e1 [.Eq] [e2] pos) δ (decide (i = j)) δ2 /\ cg X CL b (.Compare e1 [.Eq] [e2] pos) δ (.sh (.bl (decide (i = j)))) δ2 :=
 uC Jh h1 h2 rfl rfl (fun _ _ q => ⟨rfl, by rw [show decide (V.str i = V.str j) = decide (i = j) by simp]; exact q⟩) (ki _)
theorem JF {i j : Int} (h1 : cH X CL b e1 δ (.int i) δ1) (h2 : cH X CL b e2 δ1 (.int j) δ2) : pI X CL b (.Compare e1 [.Lt] [e2] pos) δ (decide (i < j)) δ2 /\ cg X CL b (.Compare e1 [.Lt] [e2] pos) δ (.sh (.bl (decide (i < j)))) δ2 := uC Xy h1 h2 rfl rfl (fun _ _ q => ⟨i, j, rfl, rfl, q⟩) (ki _)
theorem Sf {i j : Int} (h1 : cH X CL b e1 δ (.int i) δ1) (h2 : cH X CL b e2 δ1 (.int j) δ2) : pI X CL b (.Compare e1 [.LtE] [e2] pos) δ (decide (i <= j)) δ2 /\ cg X CL b (.Compare e1 [.LtE] [e2] pos) δ (.sh (.bl (decide (i <= j)))) δ2 := uC Xz h1 h2 rfl rfl (fun _ _ q => ⟨i, j, rfl, rfl, q⟩) (ki _)
theorem Sg {i j : Int} (h1 : cH X CL b e1 δ (.int i) δ1) (h2 : cH X CL b e2 δ1 (.int j) δ2) : pI X CL b (.Compare e1 [.Gt] [e2] pos) δ (decide (j < i)) δ2 /\ cg X CL b (.Compare e1 [.Gt] [e2] pos) δ (.sh (.bl (decide (j < i)))) δ2 := uC XA h1 h2 rfl rfl (fun _ _ q => ⟨i, j, rfl, rfl, q⟩) (ki _)
end
section
variable {K : PySem.W.Frag} {CL : Str -> Addr} {H Z : Hp}
theorem aQ.split : ∀ {as bs : List T} {us ws : List V} {gp : List Addr}, as.length = us.length -> aQ K CL H Z (as ++ bs) (us ++ ws) gp -> ∃ g1 g2, gp = g1 ++ g2 /\ aQ K CL H Z as us g1 /\ aQ K CL H Z bs ws g2
 | [], _, [], _, gp, _, r => ⟨[], gp, rfl, .nil, r⟩
 | [], _, _ :: _, _, _, h, _ => by simp at h
 | _ :: _, _, [], _, _, h, _ => by simp at h
 | a :: as, bs, u :: us, ws, gp, h, r => by
   cases r with
   | @cons _ _ _ _ f1 f2 r1 r2 =>
     obtain ⟨g1, g2, e, h1, h2⟩ := aQ.split (as := as) (us := us) (by simpa using h) r2
     exact ⟨f1 ++ g1, g2, by rw [e, afi], .cons r1 h1, h2⟩
theorem aQ.app {as bs : List T} {us ws : List V} {g1 g2 : List Addr} (h : aQ K CL H Z as us g1) (q : aQ K CL H Z bs ws g2) : aQ K CL H Z (as ++ bs) (us ++ ws) (g1 ++ g2) :=
 aQ.ind (P := fun as us g1 => aQ K CL H Z (as ++ bs) (us ++ ws) (g1 ++ g2)) q (fun r _ i => by rw [afi]; exact .cons r i) h
theorem aQ.rev : ∀ {as : List T} {us : List V} {g : List Addr}, aQ K CL H Z as.reverse us.reverse g -> ∃ g', aQ K CL H Z as us g' /\ g'.Perm g
 | [], [], g, r => by
   have r' : aQ K CL H Z [] [] g := r
   cases r'
   exact ⟨[], .nil, ag2 _⟩
 | [], u :: us, g, r => by have := r.length; simp at this
 | a :: as, [], g, r => by have := r.length; simp at this
 | a :: as, u :: us, g, r => by
   rw [agh, agh] at r
   have hl := r.length
   obtain ⟨g1, g2, e, r1, r2⟩ := aQ.split (by simp at hl ⊢; omega) r
   subst e
   obtain ⟨g', r', p⟩ := aQ.rev r1
   cases r2 with
   | @cons _ _ _ _ f1 f2 q1 q2 =>
     cases q2
     refine ⟨f1 ++ g', .cons q1 r', ?_⟩
     rw [afQ]
     exact (af1 f1 p).trans afX
theorem gW : ∀ (ds : List D), T.fG (ds.map T.sh) = ds
 | [] => rfl
 | d :: ds => by rw [afx, T.fG, gW ds, T.dH]
end
section
variable {K : PySem.W.Frag} {CL : Str -> Addr} {b : Bx} {H H' Z Z' : Hp} {δ δ' : List (Option T)} {σ σ' : L2.St} {ts tl : List T} {vs us : List V} {t : T} {v : V}
theorem bX.JG {p : Addr} (S : bX K CL b H Z δ σ (tl.reverse ++ ts) (us.reverse ++ vs)) (hl : us.length = tl.length) (hp : H p = none) :
   aD Z (upd Z p (.tup us)) /\ aD H (upd H p (.tup us)) /\ bX K CL b (upd H p (.tup us)) (upd Z p (.tup us)) δ σ (.tup tl :: ts) (.ref p :: vs) := by
 obtain ⟨fp, gp, e, r, nd, k⟩ := S.rep
 obtain ⟨g1, g2, eg, r1, r2⟩ := aQ.split (by simp [hl]) r
 subst eg
 obtain ⟨g', r', pm⟩ := r1.rev
 have zp : Z p = none := S.zh.free hp
 have sz : aD Z (upd Z p (.tup us)) := aD.upd zp
 have sh : aD H (upd H p (.tup us)) := aD.upd hp
 have keep : ∀ a ∈ fp ++ (g1 ++ g2), a ≠ p := fun a ha => by
   have : ∃ o, H a = some o := by
     rcases afm.mp ha with h | h
     . exact e.there a h
     . exact r.there a h
   obtain ⟨o, q⟩ := this
   exact aE q hp
 have Sh : (fp ++ (g' ++ g2)).Perm (fp ++ (g1 ++ g2)) := (pm.append_right g2).append_left fp
 have kk : ∀ a ∈ fp ++ (g' ++ g2), a ≠ p := fun a ha => keep a (Sh.mem_iff.mp ha)
 refine ⟨sz, sh, ⟨⟨fp, g' ++ g2, e.mono sz (fun a ha => az (keep a (afl _ ha))), .cons (.tup aN (r'.mono sz fun a ha => az (kk a (by simp [ha])))) (r2.mono sz fun a ha => az (keep a (by simp [ha]))), Sh.nodup_iff.mpr nd, fun a ha => ?_⟩, S.bh.trans sh, S.zz.trans sz, fun a o q => ?_, fun a o q z => ?_, fun a o q i => ?_, S.tab⟩⟩
 . exact ⟨by rw [az (kk a ha)]; exact (k a (Sh.mem_iff.mp ha)).1, (k a (Sh.mem_iff.mp ha)).2⟩
 . by_cases ha : a = p
   . subst ha; rw [aN] at q ⊢; exact q
   . rw [az ha] at q ⊢; exact S.zh a o q
 . by_cases ha : a = p
   . subst ha; exact S.bh.free hp
   . rw [az ha] at q; exact S.new a o q z
 . by_cases ha : a = p
   . subst ha; rw [aN] at q ⊢; exact q
   . rw [az ha] at q ⊢; exact S.tp a o q i
theorem bX.oF {p : Addr} {g0 : List Addr} (S : bX K CL b H Z δ σ (tl.reverse ++ ts) (us.reverse ++ vs)) (hl : us.length = tl.length) (hp : H p = none) :
   aD H (upd H p (.lst us)) /\ bX K CL b (upd H p (.lst us)) Z δ σ (.lst tl :: ts) (.ref p :: vs) := by
 obtain ⟨fp, gp, e, r, nd, k⟩ := S.rep
 obtain ⟨g1, g2, eg, r1, r2⟩ := aQ.split (by simp [hl]) r
 subst eg
 obtain ⟨g', r', pm⟩ := r1.rev
 have zp : Z p = none := S.zh.free hp
 have sh : aD H (upd H p (.lst us)) := aD.upd hp
 have keep : ∀ a ∈ fp ++ (g1 ++ g2), a ≠ p := fun a ha => by
   have : ∃ o, H a = some o := by
     rcases afm.mp ha with h | h
     . exact e.there a h
     . exact r.there a h
   obtain ⟨o, q⟩ := this
   exact aE q hp
 have Sh : (fp ++ (g' ++ g2)).Perm (fp ++ (g1 ++ g2)) := (pm.append_right g2).append_left fp
 have kk : ∀ a ∈ fp ++ (g' ++ g2), a ≠ p := fun a ha => keep a (Sh.mem_iff.mp ha)
 have pm3 : (fp ++ ((p :: g') ++ g2)).Perm (p :: (fp ++ (g' ++ g2))) := by
   rw [afF]; exact agx
 refine ⟨sh, ⟨⟨fp, (p :: g') ++ g2, e.mono (.refl _) (fun a ha => az (keep a (afl _ ha))), .cons (.lst aN (r'.mono (.refl _) fun a ha => az (kk a (by simp [ha])))) (r2.mono (.refl _) fun a ha => az (keep a (by simp [ha]))), ?_, fun a ha => ?_⟩, S.bh.trans sh, S.zz, S.zh.trans sh, S.new, fun a o q i => ?_, S.tab⟩⟩
 . refine pm3.nodup_iff.mpr (age.mpr ⟨fun h => kk p h rfl, Sh.nodup_iff.mpr nd⟩)
 . rcases afe.mp (pm3.mem_iff.mp ha) with h | h
   . subst h; exact ⟨zp, S.bh.free hp⟩
   . exact k a (Sh.mem_iff.mp h)
 . by_cases ha : a = p
   . subst ha; rw [aN] at q; cases q; cases i
   . rw [az ha] at q; exact S.tp a o q i
end
section
variable {X : Cx} {CL : Str -> Addr} {b : Bx} {δ δ1 δ2 δ3 : List (Option T)} {e e1 e2 e3 : Expr} {es : List Expr} {t t1 t2 : T} {d d1 d2 : D} {tl : List T} {ds : List D} {p q : Bool} {pos : Pos}
theorem dD : DG X CL b [] δ [] δ := fun H Z σ ts vs Q S k => G7 e9 (k [] H Z rfl (.refl _) (.refl _) S)
theorem fz (h1 : cg X CL b e δ t δ1) (h2 : DG X CL b es δ1 tl δ2) (hs : starEach (e :: es) X.env = (false, eval e X.env) :: starEach es X.env := by exact bW rfl) : DG X CL b (e :: es) δ (t :: tl) δ2 := fun H Z σ ts vs Q S k =>
 G7 (cD dR Ng hs) (h1 H Z σ ts vs _ S fun v H1 Z1 z1 k1 S1 => h2 H1 Z1 σ _ _ _ S1 fun us H2 Z2 hl z2 k2 S2 => k (v :: us) H2 Z2 (by simp [hl]) (z1.trans z2) (k1.trans k2) (by
   rw [agh, agh, afi, afi]
   exact S2))
theorem aK : Sd X CL b [] δ [] δ := fun H Z σ ts vs Q S k => G7 e9 (k [] H Z (.refl _) (.refl _) S .nil)
theorem ai (h1 : cH X CL b e δ d δ1) (h2 : Sd X CL b es δ1 ds δ2) (hs : starEach (e :: es) X.env = (false, eval e X.env) :: starEach es X.env := by exact bW rfl) : Sd X CL b (e :: es) δ (d :: ds) δ2 := fun H Z σ ts vs Q S k =>
 G7 (cD dR Ng hs) (h1 H Z σ ts vs _ S fun v H1 Z1 z1 k1 S1 r1 => h2 H1 Z1 σ _ _ _ S1 fun us H2 Z2 z2 k2 S2 r2 => k (v :: us) H2 Z2 (z1.trans z2) (k1.trans k2) S2 (.cons (r1.mono k2) r2))
theorem UA {j : Nat} (h : DG X CL b es δ tl δ1) (hl : tl.length <= sizeLine) : cg X CL b (.Tuple es j pos) δ (.tup tl) δ1 := fun H Z σ ts vs Q S k =>
 cZ (Ue Ng) (h H Z σ ts vs _ S fun us H1 Z1 hu z1 k1 S1 => ⟨by rw [hu]; exact hl, fun p hp => by
   obtain ⟨a, c, S2⟩ := S1.JG hu hp
   exact k _ _ _ (z1.trans a) (k1.trans c) S2⟩)
theorem cz {j : Nat} (h : DG X CL b es δ (ds.map T.sh) δ1) (hl : ds.length <= sizeLine) : cg X CL b (.Tuple es j pos) δ (.sh (.tup ds)) δ1 := by
 have := DH (UA (pos := pos) (j := j) h (by simpa using hl))
 rwa [T.dH, gW] at this
theorem dF (h : DG X CL b es δ tl δ1) (hl : tl.length <= sizeLine) : cg X CL b (.List es pos) δ (.lst tl) δ1 := fun H Z σ ts vs Q S k =>
 cZ (Ug Ng) (h H Z σ ts vs _ S fun us H1 Z1 hu z1 k1 S1 => ⟨by rw [hu]; exact hl, fun p hp => by
   obtain ⟨c, S2⟩ := S1.oF (g0 := []) hu hp
   exact k _ _ _ z1 (k1.trans c) S2⟩)
theorem jM (h : cg X CL b e δ (.sh (.bl p)) δ1) (he : ∀ whole, isTrue e X.env whole = (do let v ← whole; standAt e.pos; holding [v] (truthy v)) := by intro _; rfl) : pI X CL b e δ p δ1 := fun H Z σ ts vs Q S k =>
 BI (Tj dR he) (h H Z σ ts vs _ S fun v H1 Z1 z1 k1 S1 => ⟨p, by have := S1.view; rw [T.dH] at this; exact this.sc rfl, k H1 Z1 z1 k1 S1.pop⟩)
theorem ko (h : pI X CL b e δ p δ1) : pI X CL b (.UnaryOp .Not e pos) δ (!p) δ1 := fun H Z σ ts vs Q S k => BI (Tr Uu) (h H Z σ ts vs _ S fun H1 Z1 z1 k1 S1 => k H1 Z1 z1 k1 S1)
noncomputable def UB (X : Cx) (e : Expr) : TT := fun σ H Q => ∀ (whole : Sem Value) (pins : List (Addr × Obj)) (s : Shared), Inv X pins σ H s -> wpAny (model X.prog X.w) X.A (isTrue e X.env whole) (TP X pins σ Q) X.xe s
theorem pwS {e : Expr} : PW X e (UB X e) := fun whole pins s _ _ _ I h => h whole pins s I
noncomputable def UC (X : Cx) (CL : Str -> Addr) (b : Bx) (e : Expr) (δ : List (Option T)) (p : Bool) (δ' : List (Option T)) : Prop :=
 ∀ (H Z : Hp) (σ : L2.St) (ts : List T) (vs : List V) (Q : Bool -> Hp -> Prop), bX X.K CL b H Z δ σ ts vs -> (∀ H' Z', aD Z Z' -> aD H H' -> bX X.K CL b H' Z' δ' σ ts vs -> Q p H') -> UB X e σ H Q
theorem Np {t : TT} (h : PW X e t) {σ : L2.St} {H : Hp} {Q : Bool -> Hp -> Prop} (q : t σ H Q) : UB X e σ H Q := fun whole pins s I => h whole pins s σ H Q I q
theorem lH (h : UC X CL b e δ p δ1) : pI X CL b e δ p δ1 := fun H Z σ ts vs Q S k pins s I => h H Z σ ts vs Q S k _ pins s I
theorem i7 (h : pI X CL b e δ p δ1) : UC X CL b (.BoolOp .And [e] pos) δ p δ1 := fun H Z σ ts vs Q S k => Np (MQ Uu) (h H Z σ ts vs _ S k)
theorem yr (h : pI X CL b e δ p δ1) : UC X CL b (.BoolOp .Or [e] pos) δ p δ1 := fun H Z σ ts vs Q S k => Np (Tp Uu) (h H Z σ ts vs _ S k)
theorem fH (h : pI X CL b e δ p δ1) (h2 : p = true -> UC X CL b (.BoolOp .And (e2 :: es) pos) δ1 q δ1) : UC X CL b (.BoolOp .And (e :: e2 :: es) pos) δ (p && q) δ1 := fun H Z σ ts vs Q S k =>
 Np (Tq Uu pwS) (h H Z σ ts vs _ S fun H1 Z1 z1 k1 S1 => by
   cases p with
   | true => exact Jv (h2 rfl H1 Z1 σ ts vs _ S1 fun H2 Z2 z2 k2 S2 => k H2 Z2 (z1.trans z2) (k1.trans k2) S2)
   | false => exact Ju (k H1 Z1 z1 k1 S1))
theorem BK (h : pI X CL b e δ p δ1) (h2 : p = false -> UC X CL b (.BoolOp .Or (e2 :: es) pos) δ1 q δ1) : UC X CL b (.BoolOp .Or (e :: e2 :: es) pos) δ (p || q) δ1 := fun H Z σ ts vs Q S k =>
 Np (Xf Uu pwS) (h H Z σ ts vs _ S fun H1 Z1 z1 k1 S1 => by
   cases p with
   | true => exact Jv (k H1 Z1 z1 k1 S1)
   | false => exact Ju (h2 rfl H1 Z1 σ ts vs _ S1 fun H2 Z2 z2 k2 S2 => k H2 Z2 (z1.trans z2) (k1.trans k2) S2))
theorem UD {op : BoolOp} (h : cg X CL b e δ t δ1) : cg X CL b (.BoolOp op [e] pos) δ t δ1 := fun H Z σ ts vs Q S k => cZ (Tt dR) (h H Z σ ts vs _ S k)
theorem UE (h : cg X CL b e δ (.sh (.bl p)) δ1) (h2 : p = true -> cg X CL b (.BoolOp .And (e2 :: es) pos) δ1 (.sh (.bl q)) δ1) : cg X CL b (.BoolOp .And (e :: e2 :: es) pos) δ (.sh (.bl (p && q))) δ1 := fun H Z σ ts vs Q S k =>
 cZ (Tv dR dR) (h H Z σ ts vs _ S fun v H1 Z1 z1 k1 S1 => by
   have hv : v = .bl p := by have := S1.view; rw [T.dH] at this; exact this.sc rfl
   refine ⟨p, hv, ?_⟩
   cases p with
   | true => exact Jv (h2 rfl H1 Z1 σ ts vs _ S1.pop fun v H2 Z2 z2 k2 S2 => k v H2 Z2 (z1.trans z2) (k1.trans k2) S2)
   | false => exact Ju (k _ H1 Z1 z1 k1 (S1.pop.push (.bl false))))
theorem UG (h : cg X CL b e δ (.sh (.bl p)) δ1) : cg X CL b (.UnaryOp .Not e pos) δ (.sh (.bl (!p))) δ1 := fun H Z σ ts vs Q S k =>
 cZ (L2.Tw dR) (h H Z σ ts vs _ S fun v H1 Z1 z1 k1 S1 => ⟨p, by have := S1.view; rw [T.dH] at this; exact this.sc rfl, k _ H1 Z1 z1 k1 (S1.pop.push (.bl (!p)))⟩)
theorem tM {K : PySem.W.Frag} {Z : Hp} {vs : List V} {k : Int} (r : aC K CL Z ds vs) (h : sZ ds k = some d) : ∃ v, sZ vs k = some v /\ aZ K CL Z d v := by
 unfold sZ at h ⊢
 rw [← r.length]
 cases e : G0 ds.length k with
 | none => rw [e] at h; cases h
 | some j =>
   rw [e] at h
   exact r.get h
theorem bC {k : Int} (h1 : cH X CL b e1 δ (.tup ds) δ1) (h2 : cH X CL b e2 δ1 (.int k) δ2) (hk : sZ ds k = some d) (hs : mG e2 := by exact fun _ _ => rfl) : cH X CL b (.Subscript e1 e2 pos) δ d δ2 := fun H Z σ ts vs Q S kk =>
 cZ (Bw Jq dR dR hs) (h1 H Z σ ts vs _ S fun v1 H1 Z1 z1 k1 S1 r1 => h2 H1 Z1 σ ts vs _ S1 fun v2 H2 Z2 z2 k2 S2 r2 => by
   have UH := r1.mono k2
   cases UH with
   | tup hq rr =>
     obtain ⟨v, hv, rv⟩ := tM rr hk
     exact ⟨_, _, k, v, rfl, r2.sc rfl, hq, hv, kk v H2 Z2 (z1.trans z2) (k1.trans k2) S2 rv⟩)
theorem aR {k : Int} (h1 : cH X CL b e1 δ (.lst ds) δ1) (h2 : cH X CL b e2 δ1 (.int k) δ2) (hk : sZ ds k = some d) (hs : mG e2 := by exact fun _ _ => rfl) : cH X CL b (.Subscript e1 e2 pos) δ d δ2 := fun H Z σ ts vs Q S kk =>
 cZ (Bw FI dR dR hs) (h1 H Z σ ts vs _ S fun v1 H1 Z1 z1 k1 S1 r1 => h2 H1 Z1 σ ts vs _ S1 fun v2 H2 Z2 z2 k2 S2 r2 => by
   have UH := r1.mono k2
   cases UH with
   | lst hq rr =>
     obtain ⟨v, hv, rv⟩ := tM rr hk
     exact ⟨_, _, k, v, rfl, r2.sc rfl, hq, hv, kk v H2 Z2 (z1.trans z2) (k1.trans k2) S2 rv⟩)
theorem JH {k : Int} {x : Str} {c : Nat} (h1 : cH X CL b e1 δ (.str x) δ1) (h2 : cH X CL b e2 δ1 (.int k) δ2) (hl : x.length <= sizeLine) (hk : sZ x.cps.toList k = some c) (hs : mG e2 := by exact fun _ _ => rfl) : cg X CL b (.Subscript e1 e2 pos) δ (.sh (.str ⟨#[c]⟩)) δ2 := fun H Z σ ts vs Q S kk =>
 cZ (Bw Uk dR dR hs) (h1 H Z σ ts vs _ S fun v1 H1 Z1 z1 k1 S1 r1 => h2 H1 Z1 σ ts vs _ S1 fun v2 H2 Z2 z2 k2 S2 r2 =>
   ⟨x, k, c, r1.sc rfl, r2.sc rfl, hl, hk, kk _ H2 Z2 (z1.trans z2) (k1.trans k2) (S2.push (.str _))⟩)
theorem UI {k : Int} (h1 : cg X CL b e1 δ (.sh (.tup ds)) δ1) (h2 : cH X CL b e2 δ1 (.int k) δ2) (hk : sZ ds k = some d) (hs : mG e2 := by exact fun _ _ => rfl) : cg X CL b (.Subscript e1 e2 pos) δ (.sh d) δ2 := fun H Z σ ts vs Q S kk =>
 cZ (Bw Jq dR dR hs) (h1 H Z σ ts vs _ S fun v1 H1 Z1 z1 k1 S1 => h2 H1 Z1 σ _ _ _ S1 fun v2 H2 Z2 z2 k2 S2 r2 => by
   obtain ⟨fp, gp, _, r, _, _⟩ := S2.rep
   cases r with
   | cons r _ =>
     cases r with
     | sh r =>
       cases r with
       | tup hq rr =>
         obtain ⟨v, hv, rv⟩ := tM rr hk
         exact ⟨_, _, k, v, rfl, r2.sc rfl, aD.MB S2.zh hq, hv, kk v H2 Z2 (z1.trans z2) (k1.trans k2) (S2.pop.push rv)⟩)
theorem UJ {k : Int} (h1 : cg X CL b e1 δ (.sh (.lst ds)) δ1) (h2 : cH X CL b e2 δ1 (.int k) δ2) (hk : sZ ds k = some d) (hs : mG e2 := by exact fun _ _ => rfl) : cg X CL b (.Subscript e1 e2 pos) δ (.sh d) δ2 := fun H Z σ ts vs Q S kk =>
 cZ (Bw FI dR dR hs) (h1 H Z σ ts vs _ S fun v1 H1 Z1 z1 k1 S1 => h2 H1 Z1 σ _ _ _ S1 fun v2 H2 Z2 z2 k2 S2 r2 => by
   obtain ⟨fp, gp, _, r, _, _⟩ := S2.rep
   cases r with
   | cons r _ =>
     cases r with
     | sh r =>
       cases r with
       | lst hq rr =>
         obtain ⟨v, hv, rv⟩ := tM rr hk
         exact ⟨_, _, k, v, rfl, r2.sc rfl, S2.zh.seq hq, hv, kk v H2 Z2 (z1.trans z2) (k1.trans k2) (S2.pop.push rv)⟩)
end
section
variable {K : PySem.W.Frag} {CL : Str -> Addr} {b : Bx} {H H' Z Z' : Hp} {δ δ' : List (Option T)} {σ σ' : L2.St} {ts tl : List T} {vs us : List V} {t : T} {v : V}
theorem bX.sE : ∀ {ds : List D} {us : List V} {ts : List T} {vs : List V}, aC K CL Z ds us -> bX K CL b H Z δ σ ts vs -> bX K CL b H Z δ σ ((ds.map T.sh).reverse ++ ts) (us.reverse ++ vs)
 | _, _, _, _, .nil, S => S
 | _, _, ts, vs, .cons (d := d) (v := v) (ds := ds) (vs := us) r t, S => by
   rw [afx, agh, agh, afi, afi]
   exact bX.sE t (S.push r)
end
section
variable {X : Cx} {CL : Str -> Addr} {b : Bx} {δ δ1 δ2 δ3 : List (Option T)} {e e1 e2 e3 : Expr} {es : List Expr} {t t1 t2 : T} {d d1 d2 : D} {tl : List T} {ds : List D} {p q : Bool} {pos pp : Pos}
theorem pM (hm : X.mg "len" = none) (h : cH X CL b e δ (.lst ds) δ1) (hg : Gl X "len" := by rfl) (hs : starEach [e] X.env = (false, eval e X.env) :: starEach [] X.env := by exact bW rfl) (sy : (backTo pos (starEach ([] : List Expr) X.env)).any (·.1) = false := by rfl) : cg X CL b (.Call (.Name "len" pp) [e] [] pos) δ (.sh (.int ds.length)) δ1 := fun H Z σ ts vs Q S k =>
 cZ (Bt yp hg hm PySem.boot_len (cD dR e9 hs) (he := hs)) (h H Z σ ts vs _ S fun v H1 Z1 z1 k1 S1 r => by
   cases r with
   | lst hq rr => exact ⟨_, _, rfl, .inl hq, by rw [← rr.length]; exact k _ H1 Z1 z1 k1 (S1.push (.int _))⟩)
theorem cS (hm : X.mg "list" = none) (h : cH X CL b e δ (.lst ds) δ1) (hi : D.bN ds = true) (hg : Gl X "list" := by rfl) (hv : bootBuiltins "list" = some (.type "list") := by rfl) (hs : starEach [e] X.env = (false, eval e X.env) :: starEach [] X.env := by exact bW rfl) : cg X CL b (.Call (.Name "list" pp) [e] [] pos) δ (.lst (ds.map T.sh)) δ1 := fun H Z σ ts vs Q S k =>
 cZ (jK yq hg hm hv (cD dR e9 hs) (he := hs)) (h H Z σ ts vs _ S fun v H1 Z1 z1 k1 S1 r => by
   cases r with
   | lst hq rr =>
     refine ⟨_, _, rfl, .inl hq, fun l hl => ?_⟩
     obtain ⟨c, S2⟩ := (bX.sE (aC.jg S1.tp hi rr) S1).oF (g0 := []) (by simp [rr.length]) hl
     exact k _ _ _ z1 (k1.trans c) S2)
noncomputable def kg (K : PySem.W.Frag) (CL : Str -> Addr) {A : Type} (n : Nat) (arg : A -> List D) (Pre : A -> Prop) (res : A -> T) : Sp := fun vs H Q _ =>
 ∃ (W : Hp) (a : A), aD W H /\ (∀ c o, H c = some o -> iH o = true -> W c = some o) /\ aC K CL W (arg a) vs /\ (arg a).length = n /\ Pre a /\ lE CL W ∧
   ∀ v H' W' fp, aD H H' -> aD W W' -> aD W' H' -> (∀ c o, W' c = some o -> W c = none -> H c = none) -> (∀ c o, H' c = some o -> iH o = true -> W' c = some o) →
     cK K CL H' W' (res a) v fp -> fp.Nodup -> (∀ c ∈ fp, W' c = none /\ H c = none) -> Q v H'
section
variable {A : Type} {k n : Nat} {f : Addr} {fd : FuncData} {ps : List Str} {arg : A -> List D} {Pre : A -> Prop} {res : A -> T} {x : Str}
theorem Nq (a : A) (F : bV X.prog X.w X.K X.mg X.base gq k f fd ps (kg X.K CL n arg Pre res)) (hr : eN k X.A) (hm : X.mg x = some (.ref f)) (hk : PySem.W.keepIn X.K (.ref f) = true) (hb : Binds X.K fd ps [])
   (h : Sd X CL b (e :: es) δ (arg a) δ1) (hn : (arg a).length = n) (hp : Pre a) (hc : (res a).clean = true) (hg : Gl X x)
   (wA : (x == ("__debug__" : Str)) = false := by decide) (he : starEach (e :: es) X.env = (false, eval e X.env) :: starEach es X.env := by exact bW rfl) (sy : (backTo pos (starEach es X.env)).any (·.1) = false := by rfl) :
   cg X CL b (.Call (.Name x pp) (e :: es) [] pos) δ (res a) δ1 := fun H Z σ ts vs Q S kk =>
 cZ (M3 F hr hg hm hk hb .nil FL Ng wA he sy) (h H Z σ ts vs _ S fun us H1 Z1 z1 k1 S1 r => by
   rw [afQ]
   refine ⟨H1, a, .refl _, fun _ _ q _ => q, r, hn, hp, S1.G8, fun v H' W' fp hh ww wh nw tp rt nd own => ?_⟩
   obtain ⟨Z', z', S'⟩ := S1.back hh S1.zh ww wh nw tp rt nd own (.inr hc)
   exact kk v H' Z' (z1.trans z') (k1.trans hh) S')
end
variable {D D' : cW} {st : Stmt} {fK XZ : List Stmt}
theorem Meets.to {K : PySem.W.Frag} {Z : Hp} {ts : List T} {vs : List V} {E : Ends} (M : Meets K CL b Z ts vs D E) (h1 : ∀ δ, D'.nx δ -> D.nx δ) (h2 : ∀ t δ, D'.rt t δ -> D.rt t δ) (h3 : ∀ δ, D'.bk δ -> D.bk δ) (h4 : ∀ δ, D'.ct δ -> D.ct δ) : Meets K CL b Z ts vs D' E :=
 ⟨fun _ _ _ _ s S k => M.nx _ _ _ _ s S (h1 _ k), fun _ _ _ _ _ _ s S k => M.rt _ _ _ _ _ _ s S (h2 _ _ k), fun _ _ _ _ s S k => M.bk _ _ _ _ s S (h3 _ k), fun _ _ _ _ s S k => M.ct _ _ _ _ s S (h4 _ k)⟩
theorem au (h : D.nx δ) : eO X CL b [] δ D := fun H Z σ ts vs E S M => XT MR (M.nx δ σ H Z (.refl _) S h)
theorem dN (h : Nj X CL b st δ { D with nx := fun δ1 => eO X CL b fK δ1 D }) : eO X CL b (st :: fK) δ D := fun H Z σ ts vs E S M =>
 XT (Ja psS Nh) (h H Z σ ts vs _ S ⟨fun δ' σ' H' Z' s S' k => k H' Z' σ' ts vs E S' (M.mono s), M.rt, M.bk, M.ct⟩)
theorem JK (h : D.bk δ) : Nj X CL b (.Break pos) δ D := fun H Z σ ts vs E S M => uB Jb (M.bk δ σ H Z (.refl _) S h)
theorem UK (h : cg X CL b e δ t δ1) (k : D.rt t δ1) : Nj X CL b (.Return (some e) pos) δ D := fun H Z σ ts vs E S M => uB (TF dR) (h H Z σ ts vs _ S fun v H1 Z1 z1 k1 S1 => M.rt t v H1 Z1 δ1 σ z1 S1 k)
theorem X3 (h : pI X CL b e δ p δ1) (h1 : p = true -> eO X CL b fK δ1 D) (h2 : p = false -> eO X CL b XZ δ1 D) : Nj X CL b (.If e fK XZ pos) δ D := fun H Z σ ts vs E S M =>
 uB (Xk Uu Nh Nh) (h H Z σ ts vs _ S fun H1 Z1 z1 k1 S1 => by
   cases p with
   | true => exact Jv (h1 rfl H1 Z1 σ ts vs E S1 (M.mono z1))
   | false => exact Ju (h2 rfl H1 Z1 σ ts vs E S1 (M.mono z1)))
theorem JL (i : Nat) {x : Str} {pos' : Pos} (h : cg X CL b e δ t δ1) (k : D.nx (δ1.set i (some t))) (hl : i < δ1.length := by decide) (hN : X.N.Nodup := by assumption) (hi : X.N[i]? = some x := by rfl) (hx : Loc X.env.scope x := by first | exact .inl rfl | exact .inr rfl)
   (hs : swapsWith e (some (.Name x pos')) pos.line X.env = pure false := by rfl) (hf : X.fn x = true \/ X.env.scope.names.lookup x = some .local := by first | exact .inl rfl | exact .inr rfl | assumption) : Nj X CL b (.Assign [.Name x pos'] e pos) δ D := fun H Z σ ts vs E S M =>
 uB (TX hN hi hx dR hs hf) (h H Z σ ts vs _ S fun v H1 Z1 z1 k1 S1 => M.nx _ _ H1 Z1 z1 (S1.set hl) k)
end
noncomputable def entry (N : List Str) (ds : List D) : List (Option T) := ds.map (fun d => some (T.sh d)) ++ List.replicate (N.length - ds.length) none
theorem iI {K : PySem.W.Frag} {CL : Str -> Addr} {H Z : Hp} : ∀ {ds : List D} {vs : List V} (n : Nat), aC K CL Z ds vs -> fc K CL H Z (ds.map (fun d => some (T.sh d)) ++ List.replicate n none) (vs.map some ++ List.replicate n none) []
 | _, _, 0, .nil => .nil
 | _, _, n + 1, .nil => .skip (iI (ds := []) (vs := []) n .nil)
 | _, _, n, .cons r t => .cons (fp := []) (gp := []) (.sh r) (iI n t)
theorem bu {P : Program} {w : World} {K : PySem.W.Frag} {mg : Str -> Option Value} {base : Heap} {CL : Str -> Addr} {x qual : Str} {st : Stmt} {f : Addr} {fd : FuncData} {N ps : List Str} {k : Nat} {A : Type} {arg : A -> List D} {Pre : A -> Prop} {res : A -> T} (F : iY K x qual st f fd) (S : aL N ps (ao st))
   (hb : ∀ (dI : Value) (Ar : Around) (outer : List Env) (s : Shared) (H : Hp) (E : XK) (b : Bx) (a : A), eN k (Ar.deeper (envOfC qual (ao st) s.heap.objs.size f dI)) -> Pre a →
     eO (uy gq P w K mg base N qual (ao st) f dI Ar outer s H E).Mz CL b (fu st) (entry N (arg a)) { nx := fun _ => res a = .sh .non, rt := fun t _ => t = res a }) :
   bV P w K mg base gq (k + 1) f fd ps (kg K CL ps.length arg Pre res) := by
 refine F.ok S (fun vs H Q E h => ?_) (fun dI Ar outer s H vs Q E hr h => ?_)
 . obtain ⟨W, a, _, _, r, hl, _⟩ := h
   rw [← r.length]; exact hl
 . obtain ⟨W, a, wh, tp, r, hl, hp, tb, kk⟩ := h
   refine ⟨_, Nh, hb dI Ar outer s H E ⟨H, W⟩ a hr hp H W _ [] [] _ ⟨⟨[], [], ?_, .nil, agy, fun a ha => by cases ha⟩, .refl _, .refl _, wh, fun a o q z => ?_, tp, tb⟩ ⟨fun δ' σ' H' Z' s' S' e => ?_, fun t v H' Z' δ' σ' s' S' e => ?_, fun _ _ _ _ _ _ e => e.elim, fun _ _ _ _ _ _ e => e.elim⟩⟩
   . unfold entry L2.start
     rw [← r.length]
     exact iI _ r
   . have q' : W a = some o := q
     have z' : W a = none := z
     rw [q'] at z'; cases z'
   . exact kk .non H' Z' [] S'.bh S'.zz S'.zh S'.new S'.tp (by rw [show res a = .sh .non from e]; exact .sh .non) agy fun a ha => by cases ha
   . have e' : t = res a := e
     subst e'
     obtain ⟨fp, gp, _, r', nd, own⟩ := S'.rep
     cases r' with
     | @cons _ _ _ _ f1 f2 r1 r2 =>
       have h1 := (afZ.mp nd).2.1
       exact kk v H' Z' f1 S'.bh S'.zz S'.zh S'.new S'.tp r1 (afZ.mp h1).1 fun a ha => own a (ae8 _ (afl _ ha))
section
variable {prog : Program} {w : World} {A : Around} {R : Result -> Shared -> Prop} {s : Shared}
theorem yt {elt target iter : Expr} {ifs : List Expr} {scope : Scope} {pos : Pos} {it acc : Value} {env : Env} (I : Nat -> Shared -> Prop)
   (turn : ∀ n s, I n s -> wpAny (model prog w) A (pyNext it) (fun r s₁ => match r with
     | none => R (.ok .next) s₁
     | some v => wpAny (model prog w) A (letOwnedTupleGo target it v) (fun _ Si => wpAny (model prog w) A (assign target env v) (fun _ s₂ =>
         wpAny (model prog w) A (forIn ifs true fun c r => if r = true then do let ok ← isTrue c env (eval c env); pure (ForInStep.yield ok) else pure (ForInStep.yield r)) (fun ok s₃ =>
           if ok = true then wpAny (model prog w) A (eval elt env) (fun x s₄ =>
             wpAny (model prog w) A (call (.builtin "list.append") [acc, x]) (fun _ s₅ => ∃ m, m < n /\ I m s₅) (fun _ _ => False) s₄) (fun _ _ => False) s₃
           else ∃ m, m < n /\ I m s₃) (fun _ _ => False) s₂) (fun _ _ => False) Si) (fun _ _ => False) s₁) (fun _ _ => False) s)
   (n : Nat) (h : I n s) :
   codeAny (model prog w) A (.compLoop (.ListComp elt [⟨target, iter, ifs, 0⟩] scope pos) 0 it acc env) R s := by
 refine codeAny_loop rfl I (fun n s hI => ?_) n h
 show wpAny _ A ((compTurn (.ListComp elt [⟨target, iter, ifs, 0⟩] scope pos) 0 it acc env).onRaise (fun x => do noteFrame x env; theTreesLotGoes x)) _ _ s
 refine wpAny_noted ?_
 rw [compTurn_list]
 refine afs (wpAny_standAt (afs (agn (turn n s hI) (fun r s₁ h₁ => ?_) fun _ _ h' => h'.elim)))
 cases r with
 | none => exact afV h₁
 | some v =>
   refine afs (agn h₁ (fun _ Si X4 => ?_) fun _ _ h' => h'.elim)
   refine afs (agn X4 (fun _ s₂ h₂ => afs (agn h₂ (fun ok s₃ h₃ => ?_) fun _ _ h' => h'.elim)) fun _ _ h' => h'.elim)
   cases ok with
   | false => exact afV ⟨rfl, h₃⟩
   | true =>
     exact afs (afs (agn h₃ (fun x s₄ h₄ => afs (agn h₄ (fun _ s₅ h₅ => afV (afV ⟨rfl, h₅⟩)) fun _ _ h' => h'.elim)) fun _ _ h' => h'.elim))
end
noncomputable def cA (env : Env) : List (Str × NameKind) -> List (Str × Addr) -> List (Str × Addr)
 | [], cs => cs
 | (n, k) :: r, cs => cA env r (if k == .free then (n, (env.cells.lookup n).getD 0) :: cs else cs)
theorem jh {scope : Scope} {env : Env} (h : ∀ x ∈ scope.names, x.2 = .free -> ∃ c, env.cells.lookup x.1 = some c) : closureFor scope env = pure (cA env scope.names []) := by
 have go : ∀ (l : List (Str × NameKind)) (cs : List (Str × Addr)), (∀ x ∈ l, x.2 = .free -> ∃ c, env.cells.lookup x.1 = some c) →
     (forIn l cs fun x r => match x with | (name, kind) => if (kind == NameKind.free) = true then do let a ← cellOf env name; pure (ForInStep.yield ((name, a) :: r)) else pure (ForInStep.yield r) : Sem (List (Str × Addr))) = pure (cA env l cs) := by
   intro l
   induction l with
   | nil => intro cs _; rfl
   | cons x r ih =>
     intro cs hx
     obtain ⟨n, k⟩ := x
     rw [List.forIn_cons]
     by_cases hk : k = .free
     . subst hk
       obtain ⟨c, hc⟩ := hx (n, .free) afb rfl
       have e : cellOf env n = pure c := by unfold cellOf; rw [hc]
       simp only [agz, agS, e, pure_bind]
       rw [ih _ fun y hy => hx y (afd _ hy)]
       simp only [cA, agz, agS]
       rw [hc]; rfl
     . have hb : (k == NameKind.free) = false := by simpa using hk
       simp only [hb, af2, agE, pure_bind]
       rw [ih _ fun y hy => hx y (afd _ hy)]
       simp only [cA, hb, af2, agE]
 unfold closureFor
 have := go scope.names [] h
 simp only [bind_pure] at this ⊢
 exact this
theorem kr {env : Env} : ∀ {l : List (Str × NameKind)} {cs : List (Str × Addr)} {y : Str} {c : Addr}, (∀ x ∈ l, x.2 = .free -> ∃ c, env.cells.lookup x.1 = some c) -> (∀ y c, cs.lookup y = some c -> env.cells.lookup y = some c) →
   (cA env l cs).lookup y = some c -> env.cells.lookup y = some c
 | [], cs, y, c, _, h, e => h y c e
 | (n, k) :: r, cs, y, c, hx, h, e => by
   refine kr (l := r) (fun z hz => hx z (afd _ hz)) (fun z d hz => ?_) e
   by_cases hk : k = .free
   . subst hk
     obtain ⟨c', hc⟩ := hx (n, .free) afb rfl
     simp only [agz, agS, hc, Option.getD_some, afL] at hz
     by_cases hzn : (z == n) = true
     . rw [hzn] at hz
       have : z = n := by simpa using hzn
       subst this
       cases hz
       exact hc
     . have : (z == n) = false := by simpa using hzn
       rw [this] at hz
       exact h z d hz
   . have hb : (k == NameKind.free) = false := by simpa using hk
     rw [hb] at hz
     exact h z d hz
theorem sF {env : Env} {y : Str} : ∀ {l : List (Str × NameKind)} {cs : List (Str × Addr)}, (∃ c, cs.lookup y = some c) -> ∃ c, (cA env l cs).lookup y = some c
 | [], cs, h => h
 | (n, k) :: r, cs, h => by
   refine sF (l := r) ?_
   by_cases hk : (k == NameKind.free) = true
   . rw [afa hk, afL]
     by_cases hy : (y == n) = true
     . rw [hy]; exact ⟨_, rfl⟩
     . have : (y == n) = false := by simpa using hy
       rw [this]; exact h
   . rw [ae9 hk]; exact h
theorem iJ {env : Env} {y : Str} : ∀ {l : List (Str × NameKind)} {cs : List (Str × Addr)}, l.lookup y = some .free -> ∃ c, (cA env l cs).lookup y = some c
 | [], _, h => by simp at h
 | (n, k) :: r, cs, h => by
   rw [afL] at h
   by_cases hy : (y == n) = true
   . rw [hy] at h
     cases h
     refine sF (l := r) ?_
     rw [afa (by rfl), afL, hy]
     exact ⟨_, rfl⟩
   . have : (y == n) = false := by simpa using hy
     rw [this] at h
     exact iJ (l := r) h
noncomputable def c7 (X : Cx) (scope : Scope) (Nc : List Str) (C : Addr) (s : Shared) (H : Hp) (fp : List Addr) : Cx where
 prog := X.prog
 w := X.w
 K := X.K
 mg := X.mg
 base := X.base
 A := X.A
 N := Nc
 s₀ := s
 H₀ := H
 env := compEnvC scope (cA X.env scope.names []) C X.env
 outer := X.stack
 stack := X.stack
 ex := fp
 fn := fun _ => false
 calm := X.calm
 pn := []
 xe := fun _ _ => False
structure fL (X : Cx) (scope : Scope) (x : Str) (Nc : List Str) (ix : List Nat) : Prop where
 kind : scope.kind = .function
 qY : ∀ y ∈ scope.names, y.2 ≠ .cell
 nd : Nc.Nodup
 names : ∀ y ∈ scope.names, y.2 = .local -> scope.names.lookup y.1 = some .local
 own : scope.names.lookup x = some .local
 frees : ∀ y ∈ scope.names, y.2 = .free -> scope.names.lookup y.1 = some .free /\ (X.env.kindOf y.1 = some .cell \/ X.env.kindOf y.1 = some .free)
 hd : Nc = x :: ix.filterMap (X.N[·]?)
 Sj : ∀ i ∈ ix, ∃ y, X.N[i]? = some y /\ scope.names.lookup y = some .free
theorem eS {env : Env} : ∀ {names : List (Str × NameKind)} {x : Str} {k : NameKind}, names.lookup x = some k -> 
   (names.map fun (n, k) => if (k == NameKind.free && env.scope.kind == .function && env.kindOf n == some .cell) then (n, NameKind.cell) else (n, k)).lookup x = some (if (k == NameKind.free && env.scope.kind == .function && env.kindOf x == some .cell) then .cell else k)
 | [], _, _, h => by simp at h
 | (n, k') :: r, x, k, h => by
   have ih := @eS env r x k
   show List.lookup x ((if (k' == NameKind.free && env.scope.kind == .function && env.kindOf n == some .cell) = true then (n, NameKind.cell) else (n, k')) :: _) = _
   cases hx : x == n with
   | true =>
     simp only [afL, hx] at h
     cases h
     have e : x = n := by simpa using hx
     subst e
     split <;> simp [afL]
   | false =>
     simp only [afL, hx] at h
     split
     . simp only [afL, hx]; exact ih h
     . simp only [afL, hx]; exact ih h
theorem gP {env : Env} : ∀ {names : List (Str × NameKind)} {x : Str}, names.lookup x = none -> 
   (names.map fun (n, k) => if (k == NameKind.free && env.scope.kind == .function && env.kindOf n == some .cell) then (n, NameKind.cell) else (n, k)).lookup x = none
 | [], _, _ => rfl
 | (n, k') :: r, x, h => by
   have ih := @gP env r x
   show List.lookup x ((if (k' == NameKind.free && env.scope.kind == .function && env.kindOf n == some .cell) = true then (n, NameKind.cell) else (n, k')) :: _) = _
   cases hx : x == n with
   | true => simp only [afL, hx] at h; cases h
   | false =>
     simp only [afL, hx] at h
     split
     . simp only [afL, hx]; exact ih h
     . simp only [afL, hx]; exact ih h
section
variable {X : Cx} {scope : Scope} {x : Str} {Nc : List Str} {ix : List Nat} {pins : List (Addr × Obj)} {σ : L2.St} {H : Hp} {s : Shared}
noncomputable def qZ (σ : L2.St) (ix : List Nat) (o : Option V) : L2.St := o :: ix.map fun i => (σ[i]?).getD none
theorem G9 {fp : List Addr} {iE : List (Addr × Obj)} {σ' : L2.St} {H' : Hp} {s' : Shared} {WW : Heap} (I : Inv X pins σ H s) (sC : ∀ b ∈ fp, gT X pins H b)
   (J : Inv (c7 X scope Nc s.heap.objs.size s H fp) iE σ' H' s') (hs : Heap.SameBut s.heap.objs.size s'.heap WW) : Inv X pins σ H' { s' with heap := WW } := by
 have un : Un (IL X.stack) fp H H' s.heap s'.heap := J.base
 have un2 : Un (IL X.stack) fp H H' s.heap WW := by
   have ne : ∀ b o, s.heap.get? b = some o -> b ≠ s.heap.objs.size := fun b o e => afO (afu e)
   refine ⟨fun b o e n hb hx => (hs.2 b (ne b o e)).trans (un.keep b o e n hb hx), fun b o e n hb hx => ?_, un.free, fun b o e hx => ?_, un.yf, un.fG, un.yg⟩
   . obtain ⟨sl, q⟩ := un.slot b o e n hb hx
     exact ⟨sl, (hs.2 b (ne b o e)).trans q⟩
   . obtain ⟨o', q⟩ := un.there b o e hx
     exact ⟨o', (hs.2 b (ne b o e)).trans q⟩
 have nC : H' s.heap.objs.size = none := J.free
 have dw : oA X.prog X.w H' WW := fun b u e => by
   refine (J.dw b u e).ye (fun c v hc q => (hs.2 c ?_).trans q) (fun _ q => q) fun _ _ q => q
   rintro rfl
   rcases hc with z | z
   . subst z; rw [nC] at e; cases e
   . rw [nC] at z; cases z
 obtain ⟨hh, g, d, t, WT⟩ := s'
 obtain rfl : WT = s.os := J.os
 show L2.Inv X pins σ H' { s with heap := WW, gens := g, drawn := d, toks := t }
 exact I.call (h' := WW) (g' := g) (d' := d) (t' := t) (ch := fp) un2 dw J.bare fun b hb => ⟨(sC b hb).2.2.2.1, (sC b hb).2.1, (sC b hb).2.2.2.2.1, (sC b hb).2.2.2.2.2⟩
noncomputable def UL (X : Cx) : List Expr -> TT
 | [] => fun _ H Q => Q true H
 | [c] => Nf X c
 | _ => fun _ _ _ => False
theorem JM {ifs : List Expr} {Q : Bool -> Hp -> Prop} (I : Inv X pins σ H s) (h : UL X ifs σ H Q) (hx : X.xe = fun _ _ => False) :
   wpAny (model X.prog X.w) X.A (forIn ifs true fun c r => if r = true then do let ok ← isTrue c X.env (eval c X.env); pure (ForInStep.yield ok) else pure (ForInStep.yield r)) (TP X pins σ Q) (fun _ _ => False) s := by
 match ifs, h with
 | [], h => exact wpAny_tests_nil ⟨H, I, h⟩
 | [c], h =>
   have := h pins s I
   rw [hx] at this
   exact wpAny_tests_one this
end
noncomputable def ZP (X : Cx) (CL : Str -> Addr) (b : Bx) (ifs : List Expr) (δ : List (Option T)) (p : Bool) : Prop :=
 match ifs with
 | [] => p = true
 | [c] => pI X CL b c δ p δ
 | _ => False
theorem ZP.sem {X : Cx} {CL : Str -> Addr} {b : Bx} {ifs : List Expr} {δ : List (Option T)} {p : Bool} (h : ZP X CL b ifs δ p) {H Z : Hp} {σ : L2.St} {Q : Bool -> Hp -> Prop} (S : bX X.K CL b H Z δ σ [] [])
   (k : ∀ H' Z', aD Z Z' -> aD H H' -> bX X.K CL b H' Z' δ σ [] [] -> Q p H') : UL X ifs σ H Q := by
 match ifs, h with
 | [], h =>
   have e : p = true := h
   subst e
   exact k H Z (.refl _) (.refl _) S
 | [c], h => exact (show pI X CL b c δ p δ from h) H Z σ [] [] Q S k
theorem iB {ts : List T} : (T.lst ts).clean = T.c6 ts := by rw [T.clean]
theorem uD {g : D -> T} : ∀ {ds : List D}, (∀ d ∈ ds, (g d).clean = true) -> T.c6 (ds.map g) = true
 | [], _ => by rw [List.map_nil, T.c6]
 | d :: ds, h => by
   rw [afx, T.c6, h d afb, uD fun e he => h e (afd _ he)]
   rfl
section
variable {X : Cx} {CL : Str -> Addr} {b : Bx} {H Z W1 : Hp} {δ δc : List (Option T)} {σ : L2.St} {ts : List T} {vs us : List V} {ds : List D} {scope : Scope} {Nc : List Str} {ix : List Nat} {elt : Expr} {ifs : List Expr} {p : D -> Bool} {g : D -> T} {J : It}
end
section
variable {K : PySem.W.Frag} {CL : Str -> Addr} {b : Bx} {H H' Z Z' : Hp} {δ δ' : List (Option T)} {σ σ' : L2.St} {ts tl : List T} {vs us : List V} {t : T} {v : V}
theorem aQ.at : ∀ {tl : List T} {us : List V} {fp : List Addr} {j : Nat} {t : T}, aQ K CL H Z tl us fp -> tl[j]? = some t -> ∃ v f1 f2 f3, us[j]? = some v /\ fp = f1 ++ (f2 ++ f3) /\ cK K CL H Z t v f2 ∧
   ∀ {H' : Hp} {t' : T} {v' : V} {g : List Addr}, (∀ a ∈ f1 ++ f3, H' a = H a) -> cK K CL H' Z t' v' g -> aQ K CL H' Z (tl.set j t') (us.set j v') (f1 ++ (g ++ f3))
 | _, _, _, _, _, .nil, e => by simp at e
 | _, _, _, 0, _, .cons (fp := fp) (gp := gp) r q, e => by
   simp at e
   subst e
   exact ⟨_, [], fp, gp, rfl, rfl, r, fun {H' t' v' g} k r' => aQ.cons (fp := g) (gp := gp) r' (aQ.mono (fp := gp) (.refl _) (fun a ha => k a (by simpa using ha)) q)⟩
 | _, _, _, j + 1, t, .cons (fp := fp) (gp := gp) r q, e => by
   obtain ⟨v, f1, f2, f3, h1, h2, h3, h4⟩ := aQ.at (j := j) (t := t) q (by simpa using e)
   refine ⟨v, fp ++ f1, f2, f3, by simpa using h1, by rw [h2, List.append_assoc], h3, fun k r' => ?_⟩
   rw [afi]
   exact .cons (r.mono (.refl _) fun a ha => k a (by simp [ha])) (h4 (fun a ha => k a (by rw [afi]; exact ae8 _ ha)) r')
theorem pN {α : Type} {l : List α} {i : Nat} {x : α} (h : l[i]? = some x) : l.set i x = l := by
 apply agG
 intro j
 rw [List.getElem?_set]
 split
 . rename_i e; subst e
   split
   . exact h.symm
   . rename_i h2; rw [agT (by omega)]
 . rfl
theorem bX.write {a : Addr} {xs : List V} {f1 f2 f3 g gp UM : List Addr} {δ2 : List (Option T)} (S : bX K CL b H Z δ σ ts vs) (nd : ((f1 ++ (f2 ++ f3)) ++ gp).Nodup) (own : ∀ c ∈ (f1 ++ (f2 ++ f3)) ++ gp, Z c = none /\ b.B c = none) (ha : a ∈ f2)
   (hH : ∃ o, H a = some o) (e' : fc K CL (upd H a (.lst xs)) Z δ2 σ (f1 ++ (g ++ f3))) (r' : aQ K CL (upd H a (.lst xs)) Z tl us UM) (pm : ((f1 ++ (g ++ f3)) ++ UM).Nodup) (sub : ∀ c ∈ (f1 ++ (g ++ f3)) ++ UM, c ∈ (f1 ++ (f2 ++ f3)) ++ gp) :
   bX K CL b (upd H a (.lst xs)) Z δ2 σ tl us := by
 have oa := own a (by simp [ha])
 refine ⟨⟨_, _, e', r', pm, fun c hc => own c (sub c hc)⟩, fun c o q => ?_, S.zz, fun c o q => ?_, S.new, fun c o q i => ?_, S.tab⟩
 . rw [az (aE q oa.2)]; exact S.bh c o q
 . rw [az (aE q oa.1)]; exact S.zh c o q
 . by_cases hc : c = a
   . subst hc; rw [aN] at q; cases q; cases i
   . rw [az hc] at q; exact S.tp c o q i
theorem bX.append {i : Nat} (S : bX K CL b H Z δ σ (t :: ts) (v :: vs)) (hi : δ[i]? = some (some (.lst tl))) :
   ∃ a us, σ[i]? = some (some (.ref a)) /\ H a = some (.lst us) /\ us.length = tl.length /\ bX K CL b (upd H a (.lst (us ++ [v]))) Z (δ.set i (some (.lst (tl ++ [t])))) σ ts vs := by
 obtain ⟨fp, gp, e, r, nd, k⟩ := S.rep
 obtain ⟨v0, f1, f2, f3, hv, sC, rt, put, _⟩ := e.get hi
 subst sC
 cases rt with
 | @lst a us _ g ha rs =>
   cases r with
   | @cons _ _ _ _ ft gr q1 q2 =>
     have ne : ∀ c ∈ (f1 ++ (g ++ f3)) ++ (ft ++ gr), c ≠ a := fun c hc e => by
       subst e
       have hp : ((f1 ++ ((c :: g) ++ f3)) ++ (ft ++ gr)).Perm (c :: ((f1 ++ (g ++ f3)) ++ (ft ++ gr))) := by
         rw [afF, ← afF]
         exact (agx.append_right _)
       exact (age.mp (hp.nodup_iff.mp nd)).1 hc
     refine ⟨a, us, hv, ha, rs.length.symm, ?_⟩
     have r1 : cK K CL (upd H a (.lst (us ++ [v]))) Z (.lst (tl ++ [t])) (.ref a) (a :: (g ++ (ft ++ []))) :=
       .lst aN (aQ.app (rs.mono (.refl _) fun c hc => az (ne c (by simp [hc]))) (.cons (q1.mono (.refl _) fun c hc => az (ne c (by simp [hc]))) .nil))
     have e2 := put (H' := upd H a (.lst (us ++ [v]))) (.refl _) (fun c hc => az (ne c (by
       rcases afm.mp hc with h | h
       . simp [h]
       . simp [h]))) r1
     rw [pN hv] at e2
     have hp : ((f1 ++ ((a :: (g ++ (ft ++ []))) ++ f3)) ++ gr).Perm ((f1 ++ ((a :: g) ++ f3)) ++ (ft ++ gr)) := by
       simp only [afQ, afF, afi]
       refine af1 f1 (List.Perm.cons a (af1 g ?_))
       rw [← afi, ← afi]
       exact afX.append_right gr
     exact S.write nd k (afb) ⟨_, ha⟩ e2 (q2.mono (.refl _) fun c hc => az (ne c (by simp [hc]))) (hp.nodup_iff.mpr nd) fun c hc => hp.mem_iff.mp hc
theorem bX.setAt {i j : Nat} (S : bX K CL b H Z δ σ (t :: ts) (v :: vs)) (hi : δ[i]? = some (some (.lst tl))) (hj : j < tl.length) :
   ∃ a us, σ[i]? = some (some (.ref a)) /\ H a = some (.lst us) /\ us.length = tl.length /\ bX K CL b (upd H a (.lst (us.set j v))) Z (δ.set i (some (.lst (tl.set j t)))) σ ts vs := by
 obtain ⟨fp, gp, e, r, nd, k⟩ := S.rep
 obtain ⟨v0, f1, f2, f3, hv, sC, rt, put, _⟩ := e.get hi
 subst sC
 cases rt with
 | @lst a us _ g ha rs =>
   cases r with
   | @cons _ _ _ _ ft gr q1 q2 =>
     have ne : ∀ c ∈ (f1 ++ (g ++ f3)) ++ (ft ++ gr), c ≠ a := fun c hc e => by
       subst e
       have hp : ((f1 ++ ((c :: g) ++ f3)) ++ (ft ++ gr)).Perm (c :: ((f1 ++ (g ++ f3)) ++ (ft ++ gr))) := by
         rw [afF, ← afF]
         exact (agx.append_right _)
       exact (age.mp (hp.nodup_iff.mp nd)).1 hc
     refine ⟨a, us, hv, ha, rs.length.symm, ?_⟩
     obtain ⟨vj, g1, g2, g3, _, hg, _, set⟩ := rs.at (afc hj)
     subst hg
     have r1 : cK K CL (upd H a (.lst (us.set j v))) Z (.lst (tl.set j t)) (.ref a) (a :: (g1 ++ (ft ++ g3))) :=
       .lst aN (set (fun c hc => az (ne c (by
         rcases afm.mp hc with h | h
         . simp [h]
         . simp [h]))) (q1.mono (.refl _) fun c hc => az (ne c (by simp [hc]))))
     have e2 := put (H' := upd H a (.lst (us.set j v))) (.refl _) (fun c hc => az (ne c (by
       rcases afm.mp hc with h | h
       . simp [h]
       . simp [h]))) r1
     rw [pN hv] at e2
     have hp : ((f1 ++ ((a :: (g1 ++ (ft ++ g3))) ++ f3)) ++ gr).Perm ((f1 ++ ((a :: (g1 ++ g3)) ++ f3)) ++ (ft ++ gr)) := by
       simp only [afF, afi]
       refine af1 f1 (List.Perm.cons a (af1 g1 ?_))
       have := (afX (l₁ := ft) (l₂ := g3 ++ f3)).append_right gr
       simp only [afi] at this
       exact this
     have sb : ((f1 ++ ((a :: (g1 ++ g3)) ++ f3)) ++ (ft ++ gr)).Sublist ((f1 ++ ((a :: (g1 ++ (g2 ++ g3))) ++ f3)) ++ (ft ++ gr)) := by
       refine afT (afT (afS _) (afT (List.Sublist.cons₂ a ?_) (afS _))) (afS _)
       exact afT (afS _) (agf _ _)
     exact S.write nd k (afb) ⟨_, ha⟩ e2 (q2.mono (.refl _) fun c hc => az (ne c (by simp [hc]))) (hp.nodup_iff.mpr (nd.sublist sb)) fun c hc => sb.subset (hp.mem_iff.mp hc)
end
section
variable {X : Cx} {CL : Str -> Addr} {b : Bx} {δ δ1 δ2 : List (Option T)} {e e2 : Expr} {t : T} {tl Nr tt tt0 : List T} {D : cW} {pos pp pa pb : Pos}
theorem UN (i : Nat) {x : Str} (h0 : δ[i]? = some (some (.lst Nr))) (h : cg X CL b e δ t δ1) (h1 : δ1[i]? = some (some (.lst tl))) (hl : tl.length < sizeLine) (k : D.nx (δ1.set i (some (.lst (tl ++ [t])))))
   (hi : X.N[i]? = some x := by rfl) (hv : Td X.env.scope x := by first | exact Or.inl rfl | exact Or.inr (Or.inl rfl) | exact Or.inr (Or.inr rfl)) (hd : (x == ("__debug__" : Str)) = false := by decide) (iD : (x == ("__classdict__" : Str)) = false := by decide)
   (uA : attributeBase (.Name x pp) "append" X.env (eval (.Name x pp) X.env) = eval (.Name x pp) X.env := by rfl)
   (Dz : ((backTo pb (starEach [e] X.env)).all (fun x => !x.1) && (backToKw pb (keywordEach [] X.env)).all (fun x => x.1.isSome) && decide ([e].length + ([] : List Keyword).length + (if ([] : List Keyword).isEmpty then 0 else 1) < 30)) = true := by rfl)
   (hline : (pa.endLine == pb.line) = true := by rfl) (hs : starEach [e] X.env = (false, eval e X.env) :: starEach [] X.env := by exact bW rfl) (Hf : swapsWith (.Call (.Attribute (.Name x pp) "append" pa) [e] [] pb) none pos.line X.env = pure false := by rfl) :
   Nj X CL b (.Expr (.Call (.Attribute (.Name x pp) "append" pa) [e] [] pb) pos) δ D := fun H Z σ ts vs E S M =>
 uB (MS (R6 PySem.F.plainAttrs_list PySem.F.slot_list_append PySem.F.type_list_append xG (lz hi hv hd iD) (cD dR e9 hs) uA Dz hline hs rfl) Hf) (by
   obtain ⟨v0, e0, r0⟩ := S.look h0
   refine ⟨v0, e0, ?_, ?_⟩
   . rw [T.dH] at r0
     cases r0 with
     | lst hq _ => exact .inl ⟨rfl, _, hq⟩
   . refine h H Z σ ts vs _ S fun v H1 Z1 z1 k1 S1 => ?_
     obtain ⟨a, us, ea, ha, hu, S2⟩ := S1.append h1
     rw [e0] at ea
     cases ea
     exact ⟨a, us, v, rfl, rfl, ha, by rw [hu]; exact hl, M.nx _ σ _ Z1 z1 S2 k⟩)
end
noncomputable def X5 : Option (Option T) -> Option T
 | some (some t) => some (.sh t.dH)
 | _ => none
noncomputable def shO : Option (Option T) -> Option T
 | some (some (T.sh d)) => some (.sh d)
 | _ => none
noncomputable def wF (δ : List (Option T)) (ix : List Nat) : List (Option T) := ix.map fun i => X5 δ[i]?
noncomputable def BL (δ : List (Option T)) (ix : List Nat) : List (Option T) := ix.map fun i => shO δ[i]?
section
variable {K : PySem.W.Frag} {CL : Str -> Addr} {b : Bx} {H Z : Hp} {δ : List (Option T)} {σ : L2.St} {ts : List T} {vs : List V}
theorem uE (S : bX K CL b H Z δ σ ts vs) : ∀ (ix : List Nat) (H' : Hp), fc K CL H' H (wF δ ix) (ix.map fun i => (σ[i]?).getD none) []
 | [], _ => .nil
 | i :: r, H' => by
   have ih := uE S r H'
   show fc K CL H' H (X5 δ[i]? :: wF δ r) (((σ[i]?).getD none) :: r.map fun i => (σ[i]?).getD none) []
   cases e : δ[i]? with
   | none => exact .skip ih
   | some o =>
     cases o with
     | none => exact .skip ih
     | some t =>
       obtain ⟨v, hv, rv⟩ := S.look e
       rw [hv]
       exact .cons (fp := []) (gp := []) (.sh rv) ih
theorem BO (S : bX K CL b H Z δ σ ts vs) : ∀ (ix : List Nat) (H' : Hp), fc K CL H' Z (BL δ ix) (ix.map fun i => (σ[i]?).getD none) []
 | [], _ => .nil
 | i :: r, H' => by
   have ih := BO S r H'
   show fc K CL H' Z (shO δ[i]? :: BL δ r) (((σ[i]?).getD none) :: r.map fun i => (σ[i]?).getD none) []
   cases e : δ[i]? with
   | none => exact .skip ih
   | some o =>
     cases o with
     | none => exact .skip ih
     | some t =>
       cases t with
       | sh d =>
         obtain ⟨v, hv, rv⟩ := S.Sb e
         rw [hv]
         exact .cons (fp := []) (gp := []) (.sh rv) ih
       | tup _ => exact .skip ih
       | lst _ => exact .skip ih
       | ins _ _ => exact .skip ih
       | jL _ => exact .skip ih
       | pin _ _ => exact .skip ih
end
section
variable {X : Cx} {CL : Str -> Addr} {b : Bx} {δ δ1 : List (Option T)} {scope : Scope} {x : Str} {Nc : List Str} {ix : List Nat} {elt iter : Expr} {ifs : List Expr} {px pos : Pos} {ds : List D}
structure Comes (X : Cx) (CL : Str -> Addr) (b : Bx) (δ1 : List (Option T)) (σ : L2.St) (ts : List T) (vs : List V) (Z H : Hp) (ds : List D) (J : It) (H1 : Hp) : Prop where
 ex : ∃ Z1 us, aD Z Z1 /\ aD H H1 /\ bX X.K CL b H1 Z1 δ1 σ ts vs /\ aC X.K CL Z1 ds us /\ (∀ i H2, aD Z1 H2 -> i < ds.length -> J.go i H2) ∧
   (∀ i H2 x H', aD Z1 H2 -> i < ds.length -> J.R0 i H2 x H' -> H' = H2 /\ us[i]? = some x) /\ (∀ H2, aD Z1 H2 -> J.stop ds.length H2)
noncomputable def JN (X : Cx) (CL : Str -> Addr) (b : Bx) (tg e : Expr) (δ : List (Option T)) (ds : List D) (δ1 : List (Option T)) : Prop :=
 ∃ wi, PI X tg e wi /\ ∀ (H Z : Hp) (σ : L2.St) (ts : List T) (vs : List V) (R : It -> Hp -> Prop), bX X.K CL b H Z δ σ ts vs -> (∀ J H1, Comes X CL b δ1 σ ts vs Z H ds J H1 -> R J H1) -> wi σ H R
theorem ji {tg : Expr} (h : cg X CL b iter δ (.sh (.lst ds)) δ1) : JN X CL b tg iter δ ds δ1 := by
 refine ⟨_, MV dR, fun H Z σ ts vs R S k => h H Z σ ts vs _ S fun v H1 Z1 z1 k1 S1 => ?_⟩
 obtain ⟨fp, gp, _, r, _, _⟩ := S1.rep
 cases r with
 | cons r _ =>
   cases r with
   | sh r =>
     cases r with
     | @lst a us _ hq rr =>
       refine ⟨a, rfl, ⟨us, S1.zh.seq hq⟩, k _ _ ⟨Z1, us, z1, k1, S1.pop, rr, fun i H2 s hi => ?_, fun i H2 y H' s hi hy => ⟨hy.1, hy.2 us (s.seq hq)⟩, fun H2 s => ⟨us, s.seq hq, by rw [rr.length]; exact afg _⟩⟩⟩
       have IU : i < us.length := by rw [← rr.length]; exact hi
       exact ⟨us, us[i], s.seq hq, by simp [IU]⟩
theorem uF {tg : Expr} (h : cg X CL b iter δ (.sh (.tup ds)) δ1) : JN X CL b tg iter δ ds δ1 := by
 refine ⟨_, T3 dR, fun H Z σ ts vs R S k => h H Z σ ts vs _ S fun v H1 Z1 z1 k1 S1 => ?_⟩
 obtain ⟨fp, gp, _, r, _, _⟩ := S1.rep
 cases r with
 | cons r _ =>
   cases r with
   | sh r =>
     cases r with
     | @tup a us _ hq rr =>
       refine ⟨a, rfl, ⟨us, aD.MB S1.zh hq⟩, k _ _ ⟨Z1, us, z1, k1, S1.pop, rr, fun i H2 s hi => ?_, fun i H2 y H' s hi hy => ⟨hy.1, hy.2 us (aD.MB s hq)⟩, fun H2 s => ⟨us, aD.MB s hq, by rw [rr.length]; exact afg _⟩⟩⟩
       have IU : i < us.length := by rw [← rr.length]; exact hi
       exact ⟨us, us[i], aD.MB s hq, by simp [IU]⟩
noncomputable def bM (lo : Int) (n : Nat) : List D := (List.range n).map fun (i : Nat) => D.int (lo + i)
theorem BP {K : PySem.W.Frag} {Z : Hp} (lo : Int) (n : Nat) : aC K CL Z (bM lo n) ((List.range n).map fun (i : Nat) => V.int (lo + i)) := by
 unfold bM
 generalize List.range n = l
 induction l with
 | nil => exact .nil
 | cons i r ih => exact .cons (.int _) ih
theorem fj {tg : Expr} {pr pc : Pos} {n : Int} (hm : X.mg "range" = none) (h : cH X CL b iter δ (.int n) δ1) (hn : -(2 ^ 62) <= n /\ n < 2 ^ 62) (hg : Gl X "range") (Jc : starEach [iter] X.env = [(false, eval iter X.env)] := by rfl) (UO : starEach [iter] X.env = (false, eval iter X.env) :: starEach [] X.env := by exact bW rfl) :
   JN X CL b tg (.Call (.Name "range" pr) [iter] [] pc) δ (bM 0 n.toNat) δ1 := by
 refine ⟨_, GO hg hm (cD dR e9 UO) Jc, fun H Z σ ts vs R S k => h H Z σ ts vs _ S fun v H1 Z1 z1 k1 S1 r => ⟨n, by rw [r.sc rfl], hn.1, hn.2, k _ _ ⟨Z1, _, z1, k1, S1, BP 0 n.toNat, fun i H2 s hi => ?_, fun i H2 y H' s hi hy => ?_, fun H2 s => ?_⟩⟩⟩
 . show i < n.toNat
   have : (bM 0 n.toNat).length = n.toNat := by simp [bM]
   omega
 . have IU : i < n.toNat := by simpa [bM] using hi
   refine ⟨hy.1, ?_⟩
   rw [afH, agm IU, hy.2]
   rfl
 . show n.toNat <= (bM 0 n.toNat).length
   simp [bM]
theorem Hg {tg : Expr} {pr pc : Pos} {e1 e2 : Expr} {δ2 : List (Option T)} {m n : Int} (hm : X.mg "range" = none) (h1 : cH X CL b e1 δ (.int m) δ1) (h2 : cH X CL b e2 δ1 (.int n) δ2) (hn : -(2 ^ 62) <= m /\ m < 2 ^ 62 /\ -(2 ^ 62) <= n /\ n < 2 ^ 62) (hg : Gl X "range")
   (Jc : starEach [e1, e2] X.env = [(false, eval e1 X.env), (false, eval e2 X.env)] := by rfl) (UO : starEach [e2] X.env = [(false, eval e2 X.env)] := by rfl) (aaX : starEach [e1, e2] X.env = (false, eval e1 X.env) :: starEach [e2] X.env := by rfl) (aaY : starEach [e2] X.env = (false, eval e2 X.env) :: starEach [] X.env := by rfl) :
   JN X CL b tg (.Call (.Name "range" pr) [e1, e2] [] pc) δ (bM m (n - m).toNat) δ2 := by
 refine ⟨_, GP hg hm (cD dR (cD dR e9 aaY) aaX) Jc UO, fun H Z σ ts vs R S k => h1 H Z σ ts vs _ S fun v H1 Z1 z1 k1 S1 r => h2 H1 Z1 σ ts vs _ S1 fun v2 H2 Z2 z2 k2 S2 r2 => ⟨m, n, by rw [r.sc rfl, r2.sc rfl], hn, k _ _ ⟨Z2, _, z1.trans z2, k1.trans k2, S2, BP m (n - m).toNat, fun i H2 s hi => ?_, fun i H2 y H' s hi hy => ?_, fun H2 s => ?_⟩⟩⟩
 . show i < (n - m).toNat
   have : (bM m (n - m).toNat).length = (n - m).toNat := by simp [bM]
   omega
 . have IU : i < (n - m).toNat := by simpa [bM] using hi
   refine ⟨hy.1, ?_⟩
   rw [afH, agm IU, hy.2]
   rfl
 . show (n - m).toNat <= (bM m (n - m).toNat).length
   simp [bM]
theorem UQ {D : cW} {fK : List Stmt} (i : Nat) {pos' : Pos} (P : Nat -> List (Option T) -> Prop) (h : JN X CL b (.Name x pos') iter δ ds δ1) (h0 : P 0 δ1) (hl : ∀ j δ, P j δ -> i < δ.length)
   (hs : ∀ j d δ, ds[j]? = some d -> P j δ -> eO X CL b fK (δ.set i (some (.sh d))) { nx := P (j + 1), rt := D.rt, bk := D.nx, ct := P (j + 1) }) (hd : ∀ δ, P ds.length δ -> D.nx δ)
   (hp : PassesOwn (model X.prog X.w) X.A X.env X.xe) (hc : X.calm = true) (hN : X.N.Nodup) (hi : X.N[i]? = some x) (hx : Loc X.env.scope x) (hf : X.fn x = true \/ X.env.scope.names.lookup x = some .local) (hq : ∀ x, foldedSetIterable iter X.env x = pure x := by intro _; rfl) :
   Nj X CL b (.For (.Name x pos') iter fK [] pos) δ D := fun H Z σ ts vs E S M => by
 obtain ⟨wi, pi, hw⟩ := h
 refine uB (Je hp hc pi (pJ hN hi hx hf) Nh hq) (hw H Z σ ts vs _ S fun J H1 zz => ?_)
 obtain ⟨Z1, us, z1, k1, S1, rr, go, yl, st⟩ := zz
 refine ⟨fun j m σ H2 => m = ds.length - j /\ j <= ds.length /\ ∃ Z2 δ2, aD Z1 Z2 /\ bX X.K CL b H2 Z2 δ2 σ ts vs /\ P j δ2, ⟨_, rfl, afG _, Z1, δ1, .refl _, S1, h0⟩, ?_⟩
 rintro j m σ H2 ⟨rfl, hj, Z2, δ2, s, S2, p2⟩
 by_cases n9 : j < ds.length
 . refine .inr ⟨go j H2 (s.trans S2.zh) n9, fun σ' H' => ∃ Z2 δ2, aD Z1 Z2 /\ bX X.K CL b H' Z2 δ2 σ' ts vs /\ P (j + 1) δ2, fun σ' H' h => ⟨ds.length - (j + 1), by omega, rfl, n9, h⟩, fun y H' hy => ?_⟩
   obtain ⟨e, hu⟩ := yl j H2 y H' (s.trans S2.zh) n9 hy
   subst e
   obtain ⟨d, ML, rd⟩ := rr.JA hu
   have S3 := (S2.push (rd.mono s)).set (hl j δ2 p2)
   exact hs j d δ2 ML p2 _ Z2 _ ts vs _ S3 ⟨fun δ' σ' H' Z' s' S' k => ⟨Z', δ', s.trans s', S', k⟩, fun t v H' Z' δ' σ' s' S' k => M.rt t v H' Z' δ' σ' (z1.trans (s.trans s')) S' k, fun δ' σ' H' Z' s' S' k => M.nx δ' σ' H' Z' (z1.trans (s.trans s')) S' k, fun δ' σ' H' Z' s' S' k => ⟨Z', δ', s.trans s', S', k⟩⟩
 . have e : j = ds.length := by omega
   subst e
   exact .inl ⟨st H2 (s.trans S2.zh), M.nx δ2 σ H2 Z2 (z1.trans s) S2 (hd δ2 p2)⟩
noncomputable def Block (X : Cx) (CL : Str -> Addr) (scope : Scope) (Nc : List Str) (ifs : List Expr) (elt : Expr) (δc : List (Option T)) (ds : List D) (p : D -> Bool) (g : D -> T) : Prop :=
 ∀ C s0 H0 f0 b' d, d ∈ ds -> ZP (c7 X scope Nc C s0 H0 f0) CL b' ifs (some (.sh d) :: δc) (p d) /\ (p d = true -> cg (c7 X scope Nc C s0 H0 f0) CL b' elt (some (.sh d) :: δc) (g d) (some (.sh d) :: δc))
variable {p : D -> Bool} {g : D -> T} {δc : List (Option T)}
end
section
variable {X : Cx} {CL : Str -> Addr} {b : Bx} {δ δ1 : List (Option T)} {scope : Scope} {x : Str} {Nc : List Str} {ix : List Nat} {elt iter : Expr} {ifs : List Expr} {px pos : Pos} {ds : List D} {p : D -> Bool} {g : D -> T} {δc : List (Option T)}
noncomputable def isD : L3.D -> String -> Option Bool
 | .non, n => if n = "int" \/ n = "str" \/ n = "list" \/ n = "tuple" \/ n = "bool" \/ n = "dict" then some false else none
 | .bl _, n => if n = "int" \/ n = "bool" then some true else if n = "str" \/ n = "list" \/ n = "tuple" \/ n = "dict" then some false else none
 | .int _, n => if n = "int" then some true else if n = "str" \/ n = "list" \/ n = "tuple" \/ n = "bool" \/ n = "dict" then some false else none
 | .str _, n => if n = "str" then some true else if n = "int" \/ n = "list" \/ n = "tuple" \/ n = "bool" \/ n = "dict" then some false else none
 | .lst _, n => if n = "list" then some true else if n = "int" \/ n = "str" \/ n = "tuple" \/ n = "bool" \/ n = "dict" then some false else none
 | .tup _, n => if n = "tuple" then some true else if n = "int" \/ n = "str" \/ n = "list" \/ n = "bool" \/ n = "dict" then some false else none
 | _, _ => none
noncomputable def UR (t n : String) : Option Bool := if (Value.type t == Value.type n) = true then some true else if PySem.W.kitMeta n = true then (fastBuiltinMro t).map (·.contains (.type n)) else none
theorem jN {K : PySem.W.Frag} {t n : String} : PySem.W.kitOne K (.type t) (.type n) = UR t n := rfl
theorem JQ : (["NoneType", "bool", "int", "str", "list", "tuple"].all fun t => ["int", "str", "list", "tuple", "bool", "dict"].all fun n => UR t n == some (t == n || (t == "bool" && n == "int"))) = true := by decide +kernel
theorem mJ {t n : String} (ht : t ∈ ["NoneType", "bool", "int", "str", "list", "tuple"]) (hn : n ∈ ["int", "str", "list", "tuple", "bool", "dict"]) : UR t n = some (t == n || (t == "bool" && n == "int")) := by
 have := JQ
 rw [af6] at this
 have h := this t ht
 rw [af6] at h
 simpa using h n hn
noncomputable def X6 : L3.D -> Option String
 | .non => some "NoneType"
 | .bl _ => some "bool"
 | .int _ => some "int"
 | .str _ => some "str"
 | .lst _ => some "list"
 | .tup _ => some "tuple"
 | _ => none
theorem Hh : pK X (.builtin "isinstance") (fun xs H Q => ∃ y n d t, xs = [y, .ty n] /\ aZ X.K CL H d y /\ X6 d = some t /\ n ∈ ["int", "str", "list", "tuple", "bool", "dict"] /\ Q (.bl (t == n || (t == "bool" && n == "int"))) H) := by
 intro pins s σ H xs us Q I r h
 obtain ⟨y, n, d, t, rfl, rd, ht, hn, q⟩ := h
 obtain ⟨u, u2, rfl, ru, ru2⟩ := r.two
 cases (show u2 = Value.type n from ru2)
 have fin : ∀ tk, EP X pins σ Q (.bool (t == n || (t == "bool" && n == "int"))) { s with toks := tk } := fun tk => ⟨.bl _, H, I.tok tk, rfl, q⟩
 cases rd with
 | non => cases ht; cases (show u = Value.none from ru); exact agL PySem.W.kitx_none I.Bd True.intro (jN.trans (mJ (by decide) hn)) (fun z => nomatch z) fin
 | bl c => cases ht; cases (show u = Value.bool c from ru); exact agL PySem.W.kitx_bool I.Bd True.intro (jN.trans (mJ (by decide) hn)) (fun z => nomatch z) fin
 | int c => cases ht; obtain ⟨tt, e⟩ := (show ∃ t, u = Value.int c t from ru); cases e; exact agL PySem.W.kitx_int I.Bd True.intro (jN.trans (mJ (by decide) hn)) (fun z => nomatch z) fin
 | str c => cases ht; obtain ⟨tt, e⟩ := (show ∃ t, u = Value.str c t from ru); cases e; exact agL PySem.W.kitx_str I.Bd True.intro (jN.trans (mJ (by decide) hn)) (fun z => nomatch z) fin
 | @lst a ws _ hq rr =>
   cases ht
   cases (show u = Value.ref a from ru)
   obtain ⟨its, _, pl, _⟩ := I.list hq
   obtain ⟨o, n', e, c, _⟩ := pl
   exact agL PySem.W.kitx_list I.Bd ⟨o, e, c⟩ (jN.trans (mJ (by decide) hn)) (fun z => nomatch z) fin
 | @tup a ws _ hq rr =>
   cases ht
   cases (show u = Value.ref a from ru)
   obtain ⟨its, _, pl, _⟩ := I.tuple hq
   obtain ⟨o, e, c, _⟩ := pl
   exact agL PySem.W.kitx_tuple I.Bd ⟨o, e, c⟩ (jN.trans (mJ (by decide) hn)) (fun z => nomatch z) fin
 | ins _ _ => cases ht
 | any _ => cases ht
 | val _ => cases ht
 | jL _ _ => cases ht
theorem yu {e : Expr} {d : L3.D} {t n : String} {nm : Str} {pp pq : Pos} (hm : X.mg "isinstance" = none) (UT : X.mg nm = none) (hg : Gl X "isinstance") (UU : Gl X nm) (hbn : bootBuiltins nm = some (.type n)) (hnm : nm ≠ "__name__") (hnd : (nm == ("__debug__" : Str)) = false) (h : cH X CL b e δ d δ1) (ht : X6 d = some t) (hn : n ∈ ["int", "str", "list", "tuple", "bool", "dict"])
   (hs : starEach [e, .Name nm pq] X.env = (false, eval e X.env) :: starEach [.Name nm pq] X.env := by exact bW rfl) :
   cg X CL b (.Call (.Name "isinstance" pp) [e, .Name nm pq] [] pos) δ (.sh (.bl (t == n || (t == "bool" && n == "int")))) δ1 := fun H Z σ ts vs Q S k =>
 cZ (Bt (Hh (CL := CL)) hg hm boot_isinstance (cD dR (cD (MP UU UT hbn (v := .ty n) rfl hnm hnd) e9) hs) (he := hs)) (h H Z σ ts vs _ S fun v H1 Z1 z1 k1 S1 r =>
   ⟨v, n, d, t, rfl, r, ht, hn, k _ H1 Z1 z1 k1 (S1.push (.bl _))⟩)
end
theorem aG {n : Nat} (h : Nat.ble n 1000 = true) : n <= sizeLine := af9 (cu (afh h))
structure Vn (X : Cx) (i : Nat) (x : Str) : Prop where
 hi : X.N[i]? = some x
 hv : Td X.env.scope x
 hd : (x == ("__debug__" : Str)) = false
 iD : (x == ("__classdict__" : Str)) = false
structure Ln (X : Cx) (i : Nat) (x : Str) : Prop extends Vn X i x where
 loc : Loc X.env.scope x
 hf : X.fn x = true \/ X.env.scope.names.lookup x = some .local
structure Gx (X : Cx) : Prop where
 nd : X.N.Nodup
 calm : X.calm = true
 xe : X.xe = fun _ _ => False
structure Fc (X : Cx) (CL : Str -> Addr) (x : Str) (k n : Nat) {A : Type} (arg : A -> List D) (Pre : A -> Prop) (res : A -> T) : Prop where
 ex : ∃ f fd ps, bV X.prog X.w X.K X.mg X.base gq k f fd ps (kg X.K CL n arg Pre res) /\ X.mg x = some (.ref f) /\ PySem.W.keepIn X.K (.ref f) = true /\ Binds X.K fd ps []
 room : eN k X.A
section
variable {X : Cx} {CL : Str -> Addr} {b : Bx} {δ δ1 δ2 : List (Option T)} {e e1 e2 : Expr} {es : List Expr} {d : L3.D} {t : T} {i : Nat} {x : Str} {pos pp : Pos} {D : cW} {fK : List Stmt} {ds : List L3.D}
theorem v_ (n : Vn X i x) (h : δ[i]? = some (some (.sh d)) := by rfl) : cg X CL b (.Name x pos) δ (.sh d) δ := Ux i n.hi n.hv n.hd n.iD h
theorem vF (n : Vn X i x) (h : δ[i]? = some (some t) := by rfl) : cg X CL b (.Name x pos) δ (.sh t.dH) (δ.set i (some (.sh t.dH))) := Nk i n.hi n.hv n.hd n.iD h
theorem vM (n : Vn X i x) (h : δ[i]? = some (some t) := by rfl) : cg X CL b (.Name x pos) δ t (δ.set i none) := Nm i n.hi n.hv n.hd n.iD h
theorem vB (n : Vn X i x) (h : δ[i]? = some (some t) := by rfl) : cH X CL b (.Name x pos) δ t.dH δ := Uy i n.hi n.hv n.hd n.iD h
theorem gK {k : Int} (h : cH X CL b e δ (.int k) δ1) : cg X CL b (.UnaryOp .USub e pos) δ (.sh (.int (-k))) δ1 := fun H Z σ ts vs Q S kk =>
 cZ (Xr Uc dR) (h H Z σ ts vs _ S fun v H1 Z1 z1 k1 S1 r => ⟨k, r.sc rfl, kk _ H1 Z1 z1 k1 (S1.push (.int _))⟩)
theorem vL (n : Vn X i x) (h : δ[i]? = some (some (.lst (ds.map T.sh))) := by rfl) : cH X CL b (.Name x pos) δ (.lst ds) δ := by
 have := vB (CL := CL) (b := b) (pos := pos) n h
 rwa [T.dH, gW] at this
theorem c_ {k n : Nat} {A : Type} {arg : A -> List L3.D} {Pre : A -> Prop} {res : A -> T} (a : A) (F : Fc X CL x k n arg Pre res) (hg : Gl X x) (h : Sd X CL b (e :: es) δ (arg a) δ1) (hp : Pre a) (hc : (res a).clean = true) (hn : (arg a).length = n := by rfl)
   (wA : (x == ("__debug__" : Str)) = false := by decide) (he : starEach (e :: es) X.env = (false, eval e X.env) :: starEach es X.env := by exact bW rfl) (sy : (backTo pos (starEach es X.env)).any (·.1) = false := by rfl) :
   cg X CL b (.Call (.Name x pp) (e :: es) [] pos) δ (res a) δ1 := by
 obtain ⟨f, fd, ps, F1, m, k, b⟩ := F.ex
 exact Nq a F1 F.room m k b h hn hp hc hg wA he sy
theorem aP {pos' : Pos} (g : Gx X) (n : Ln X i x) (h : cg X CL b e δ t δ1) (k : eO X CL b fK (δ1.set i (some t)) D) (hl : i < δ1.length := by exact afh rfl) (hs : swapsWith e (some (.Name x pos')) pos.line X.env = pure false := by rfl) :
   eO X CL b (.Assign [.Name x pos'] e pos :: fK) δ D := dN (JL i h k hl g.nd n.hi n.loc hs n.hf)
theorem aY (h : cg X CL b e δ t δ1) (k : D.rt t δ1) : eO X CL b (.Return (some e) pos :: fK) δ D := dN (UK h k)
theorem c9 {p : Bool} {a c : List Stmt} (h : pI X CL b e δ p δ1) (h1 : p = true -> eO X CL b a δ1 { D with nx := fun δ2 => eO X CL b fK δ2 D }) (h2 : p = false -> eO X CL b c δ1 { D with nx := fun δ2 => eO X CL b fK δ2 D }) : eO X CL b (.If e a c pos :: fK) δ D := dN (X3 h h1 h2)
theorem eO.to {D' : cW} (h : eO X CL b fK δ D') (h1 : ∀ δ, D'.nx δ -> D.nx δ) (h2 : ∀ t δ, D'.rt t δ -> D.rt t δ) (h3 : ∀ δ, D'.bk δ -> D.bk δ) (h4 : ∀ δ, D'.ct δ -> D.ct δ) : eO X CL b fK δ D := fun H Z σ ts vs E S M => h H Z σ ts vs E S (M.to h1 h2 h3 h4)
theorem xK {p : Bool} {a c : List Stmt} (J : List (Option T) -> Prop) (h : pI X CL b e δ p δ1) (h1 : p = true -> eO X CL b a δ1 { D with nx := J }) (h2 : p = false -> eO X CL b c δ1 { D with nx := J }) (k : ∀ δ2, J δ2 -> eO X CL b fK δ2 D) : eO X CL b (.If e a c pos :: fK) δ D :=
 c9 h (fun hp => eO.to (h1 hp) k (fun _ _ q => q) (fun _ q => q) (fun _ q => q)) (fun hp => eO.to (h2 hp) k (fun _ _ q => q) (fun _ q => q) (fun _ q => q))
theorem gQ {body : List Stmt} {pos' : Pos} (g : Gx X) (n : Ln X i x) (P : Nat -> List (Option T) -> Prop) (h : JN X CL b (.Name x pos') e δ ds δ1) (h0 : P 0 δ1) (hl : ∀ j δ, P j δ -> i < δ.length)
   (hs : ∀ j d δ, ds[j]? = some d -> P j δ -> eO X CL b body (δ.set i (some (.sh d))) { nx := P (j + 1), rt := D.rt, bk := fun δ2 => eO X CL b fK δ2 D, ct := P (j + 1) }) (hd : ∀ δ, P ds.length δ -> eO X CL b fK δ D) (hq : ∀ x, foldedSetIterable e X.env x = pure x := by intro _; rfl) :
   eO X CL b (.For (.Name x pos') e body [] pos :: fK) δ D :=
 dN (UQ (D := { D with nx := fun δ1 => eO X CL b fK δ1 D }) i P h h0 hl hs hd (by rw [g.xe]; exact PassesOwn.never) g.calm g.nd n.hi n.loc n.hf hq)
theorem iK {e : Expr} {o : Option Expr} {l : Nat} {env : Env} (h : ∃ c, swapsWith e o l env = pure c) : swapsWith e o l env = pure true \/ swapsWith e o l env = pure false := by
 obtain ⟨c, h⟩ := h
 cases c
 . exact .inr h
 . exact .inl h
theorem eG {scope : Scope} {Nc : List Str} {C : Addr} {s : Shared} {H : Hp} {fp : List Addr} (h1 : Nc[i]? = some x) (h2 : scope.names.lookup x = some .local) (hd : (x == ("__debug__" : Str)) = false := by decide) (iD : (x == ("__classdict__" : Str)) = false := by decide) : Vn (c7 X scope Nc C s H fp) i x :=
 ⟨h1, .inl (lookup_relabel_local h2), hd, iD⟩
theorem gw {scope : Scope} {Nc : List Str} {C : Addr} {s : Shared} {H : Hp} {fp : List Addr} (h1 : Nc[i]? = some x) (h2 : scope.names.lookup x = some .free) (hd : (x == ("__debug__" : Str)) = false := by decide) (iD : (x == ("__classdict__" : Str)) = false := by decide) : Vn (c7 X scope Nc C s H fp) i x := by
 refine ⟨h1, ?_, hd, iD⟩
 have q := eS (env := X.env) h2
 show (relabel scope X.env).names.lookup x = some .local \/ (relabel scope X.env).names.lookup x = some .cell \/ (relabel scope X.env).names.lookup x = some .free
 rw [show (relabel scope X.env).names.lookup x = _ from q]
 split
 . exact .inr (.inl rfl)
 . exact .inr (.inr rfl)
theorem ku {scope : Scope} {Nc : List Str} {C : Addr} {s : Shared} {H : Hp} {fp : List Addr} (h2 : scope.names.lookup x = some .globalImplicit) : Gl (c7 X scope Nc C s H fp) x := by
 have q := eS (env := X.env) h2
 show (relabel scope X.env).names.lookup x = some .globalImplicit
 rw [show (relabel scope X.env).names.lookup x = _ from q]
 rfl
theorem pO {scope : Scope} {Nc : List Str} {C : Addr} {s : Shared} {H : Hp} {fp : List Addr} {k n : Nat} {A : Type} {arg : A -> List L3.D} {Pre : A -> Prop} {res : A -> T} (F : Fc X CL x k n arg Pre res) : Fc (c7 X scope Nc C s H fp) CL x k n arg Pre res := ⟨F.ex, F.room⟩
end
section
variable {X : Cx} {CL : Str -> Addr} {b : Bx} {δ δ1 δ2 : List (Option T)} {e e1 e2 : Expr} {es : List Expr} {ds : List L3.D} {pos : Pos}
theorem JR {i j : Bool} (h1 : cH X CL b e1 δ (.bl i) δ1) (h2 : cH X CL b e2 δ1 (.bl j) δ2) : pI X CL b (.Compare e1 [.Eq] [e2] pos) δ (decide (i = j)) δ2 /\ cg X CL b (.Compare e1 [.Eq] [e2] pos) δ (.sh (.bl (decide (i = j)))) δ2 :=
 uC Jh h1 h2 rfl rfl (fun _ _ q => ⟨rfl, by rw [show decide (V.bl i = V.bl j) = decide (i = j) by simp]; exact q⟩) (ki _)
theorem Nt (h : DG X CL b es δ (ds.map T.sh) δ1) (hl : ds.length <= sizeLine := by exact aG rfl) : cg X CL b (.List es pos) δ (.sh (.lst ds)) δ1 := by
 have := DH (dF (pos := pos) h (by simpa using hl))
 rwa [T.dH, gW] at this
end
section
variable {X : Cx} {CL : Str -> Addr} {b : Bx} {δ δ1 : List (Option T)} {e : Expr} {d : L3.D} {t : String} {pos pp pq : Pos}
theorem xM : bootBuiltins "int" = some (.type "int") := by decide +kernel
theorem isI (hm : X.mg "isinstance" = none) (UT : X.mg "int" = none) (hg : Gl X "isinstance") (UU : Gl X "int") (h : cH X CL b e δ d δ1) (ht : X6 d = some t := by rfl) (hs : starEach [e, .Name "int" pq] X.env = (false, eval e X.env) :: starEach [.Name "int" pq] X.env := by exact bW rfl) :
   cg X CL b (.Call (.Name "isinstance" pp) [e, .Name "int" pq] [] pos) δ (.sh (.bl (t == "int" || (t == "bool" && "int" == "int")))) δ1 := yu hm UT hg UU xM (by decide) (by decide) h ht (by decide) hs
theorem DJ : bootBuiltins "bool" = some (.type "bool") := by decide +kernel
theorem isB (hm : X.mg "isinstance" = none) (UT : X.mg "bool" = none) (hg : Gl X "isinstance") (UU : Gl X "bool") (h : cH X CL b e δ d δ1) (ht : X6 d = some t := by rfl) (hs : starEach [e, .Name "bool" pq] X.env = (false, eval e X.env) :: starEach [.Name "bool" pq] X.env := by exact bW rfl) :
   cg X CL b (.Call (.Name "isinstance" pp) [e, .Name "bool" pq] [] pos) δ (.sh (.bl (t == "bool" || (t == "bool" && "bool" == "int")))) δ1 := yu hm UT hg UU DJ (by decide) (by decide) h ht (by decide) hs
theorem bG : bootBuiltins "list" = some (.type "list") := by decide +kernel
theorem isL (hm : X.mg "isinstance" = none) (UT : X.mg "list" = none) (hg : Gl X "isinstance") (UU : Gl X "list") (h : cH X CL b e δ d δ1) (ht : X6 d = some t := by rfl) (hs : starEach [e, .Name "list" pq] X.env = (false, eval e X.env) :: starEach [.Name "list" pq] X.env := by exact bW rfl) :
   cg X CL b (.Call (.Name "isinstance" pp) [e, .Name "list" pq] [] pos) δ (.sh (.bl (t == "list" || (t == "bool" && "list" == "int")))) δ1 := yu hm UT hg UU bG (by decide) (by decide) h ht (by decide) hs
theorem BQ : bootBuiltins "tuple" = some (.type "tuple") := by decide +kernel
end
noncomputable def jO (sc : Scope) (l : List (Str × NameKind)) : Bool := l.all fun p => sc.names.lookup p.1 == some p.2
theorem cV {sc : Scope} {l : List (Str × NameKind)} (h : jO sc l = true) (i : Nat) {x : Str} {k : NameKind} (hi : l[i]? = some (x, k)) : sc.names.lookup x = some k := by
 unfold jO at h
 rw [af6] at h
 exact beq_iff_eq.mp (h _ (afM hi))
inductive Nu (X : Cx) : List Nat -> List Str -> Prop where
 | nil : Nu X [] []
 | cons {i : Nat} {y : Str} {ix : List Nat} {ys : List Str} (n : Vn X i y) (k : X.env.kindOf y = some .cell \/ X.env.kindOf y = some .free) (r : Nu X ix ys) : Nu X (i :: ix) (y :: ys)
noncomputable def JS (scope : Scope) (x : Str) (BR : List Str) : Bool :=
 scope.kind == .function && scope.names.lookup x == some .local && BR.all (fun y => scope.names.lookup y == some .free) && decide ((x :: BR).Nodup) &&
   scope.names.all fun y => y.2 != .cell && (y.2 != .local || scope.names.lookup y.1 == some .local) && (y.2 != .free || (BR.contains y.1 && scope.names.lookup y.1 == some .free))
theorem cF {X : Cx} {scope : Scope} {x : Str} {ix : List Nat} {BR : List Str} (c : Nu X ix BR) (ok : JS scope x BR = true) : fL X scope x (x :: BR) ix := by
 unfold JS at ok
 simp only [afJ, af6, agQ, beq_iff_eq] at ok
 obtain ⟨⟨⟨⟨h1, h2⟩, h3⟩, h4⟩, h5⟩ := ok
 have kc : ∀ y ∈ BR, X.env.kindOf y = some .cell \/ X.env.kindOf y = some .free := by
   clear h3 h4 h5
   induction c with
   | nil => intro y hy; cases hy
   | cons n k r ih =>
     intro y hy
     rcases afe.mp hy with e | hy
     . subst e; exact k
     . exact ih y hy
 refine ⟨h1, fun y hy e => ?_, h4, fun y hy e => ?_, h2, fun y hy e => ?_, ?_, fun i hi => ?_⟩
 . have := (h5 y hy).1.1
   rw [e] at this
   simp at this
 . have := (h5 y hy).1.2
   rw [e] at this
   simpa using this
 . have := (h5 y hy).2
   rw [e] at this
   simp at this
   exact ⟨this.2, kc _ this.1⟩
 . congr 1
   clear h3 h4 h5 kc
   induction c with
   | nil => rfl
   | cons n k r ih => rw [agb, n.hi, ← ih]
 . clear h4 h5 kc
   induction c with
   | nil => cases hi
   | @cons i' y ix ys n k r ih =>
     rcases afe.mp hi with e | hi
     . subst e; exact ⟨y, n.hi, h3 y afb⟩
     . exact ih (fun z hz => h3 z (afd _ hz)) hi
noncomputable def D.wg : D -> Int
 | .int i => i
 | _ => 0
noncomputable def D.toS : D -> Str
 | .str x => x
 | _ => Str.empty
theorem eU {bs : List Int} {k : Int} (h0 : 0 <= k) (h1 : k < bs.length) : sZ (bs.map D.int) k = some (.int (bs.getD k.toNat 0)) := by
 obtain ⟨j, rfl⟩ : ∃ j : Nat, k = j := ⟨k.toNat, by omega⟩
 refine dX ?_
 have hl : j < bs.length := by omega
 rw [afH, afc hl]
 simp [List.getD, hl]
theorem cB : ∀ (bs : List Int), D.bN (bs.map D.int) = true
 | [] => rfl
 | i :: r => by rw [afx, D.bN, cB r]; rfl
theorem iL {lo : Int} {n j : Nat} {d : D} (h : (bM lo n)[j]? = some d) : d = .int (lo + j) /\ j < n := by
 have hl : j < n := by
   have := (afA.mp h).1
   simpa [bM] using this
 refine ⟨?_, hl⟩
 unfold bM at h
 rw [afH, agm hl] at h
 exact (afv h).symm
theorem gF {α : Type} (l : List α) : l.filter (fun _ => true) = l := by simp
theorem BU {K : PySem.W.Frag} {CL : Str -> Addr} {Z : Hp} : ∀ (ns : List Int), aC K CL Z (ns.map D.int) (ns.map V.int)
 | [] => .nil
 | n :: r => .cons (.int n) (BU r)
mutual
noncomputable def D.toPy : D -> PyData
 | .non => .none
 | .bl b => .bool b
 | .int i => .int i
 | .str x => .str x
 | .tup ds => .tuple (D.lI ds)
 | .lst ds => .list (D.lI ds)
 | .ins _ _ => .none
 | .jL _ => .none
 | .any => .none
 | .val _ => .none
noncomputable def D.lI : List D -> List PyData
 | [] => []
 | d :: ds => d.toPy :: D.lI ds
end
inductive jk : Nat -> D -> Prop where
 | non (n : Nat) : jk n .non
 | bl (n : Nat) (b : Bool) : jk n (.bl b)
 | int (n : Nat) (i : Int) : jk n (.int i)
 | str (n : Nat) (x : Str) (h : PyData.strOk x = true) : jk n (.str x)
 | tup {n : Nat} {ds : List D} (h : ∀ d ∈ ds, jk n d) : jk (n + 1) (.tup ds)
 | lst {n : Nat} {ds : List D} (h : ∀ d ∈ ds, jk n d) : jk (n + 1) (.lst ds)
noncomputable def Dh (a b : D) : Bool := PyData.eqv a.toPy b.toPy
theorem jk.UW {n : Nat} : ∀ {ds : List D}, (∀ d ∈ ds, d.toPy.canLay0 = true /\ d.toPy.depth <= n) -> PyData.canLayAll0 (D.lI ds) = true /\ PyData.depthAll (D.lI ds) <= n
 | [], _ => ⟨by rw [D.lI, PyData.canLayAll0], by rw [D.lI, PyData.depthAll]; exact afG _⟩
 | d :: ds, h => by
   have h1 := h d afb
   have h2 := jk.UW (ds := ds) fun e he => h e (afd _ he)
   rw [D.lI, PyData.canLayAll0, PyData.depthAll, h1.1, h2.1]
   exact ⟨rfl, Nat.max_le.mpr ⟨h1.2, h2.2⟩⟩
theorem jk.lay {n : Nat} {d : D} (h : jk n d) : d.toPy.canLay0 = true /\ d.toPy.depth <= n := by
 induction h with
 | non n => exact ⟨by rw [D.toPy, PyData.canLay0], by rw [D.toPy, PyData.depth]; exact afG _⟩
 | bl n b => exact ⟨by rw [D.toPy, PyData.canLay0], by rw [D.toPy, PyData.depth]; exact afG _⟩
 | int n i => exact ⟨by rw [D.toPy, PyData.canLay0], by rw [D.toPy, PyData.depth]; exact afG _⟩
 | str n x hx => exact ⟨by rw [D.toPy, PyData.canLay0]; exact hx, by rw [D.toPy, PyData.depth]; exact afG _⟩
 | @tup n ds _ ih =>
   have := jk.UW ih
   rw [D.toPy, PyData.canLay0, PyData.depth]
   exact ⟨this.1, by omega⟩
 | @lst n ds _ ih =>
   have := jk.UW ih
   rw [D.toPy, PyData.canLay0, PyData.depth]
   exact ⟨this.1, by omega⟩
theorem lJ {n : Nat} {d : D} (h : jk n d) : Dh d d = true := SeqAt.eqv_refl _ h.lay.1
section
variable {X : Cx} {CL : Str -> Addr} {pins : List (Addr × Obj)} {σ : L2.St} {H : Hp} {s : Shared}
theorem yw (I : L2.Inv X pins σ H s) {n : Nat} {d : D} {v : V} {u : Value} (hd : jk n d) (q : aZ X.K CL H d v) (r : RelV v u) : ∃ as, Reads s.heap u d.toPy as := by
 refine aZ.rec (motive_1 := fun d v _ => ∀ (n : Nat) (u : Value), jk n d -> RelV v u -> ∃ as, Reads s.heap u d.toPy as)
   (motive_2 := fun ds vs _ => ∀ (n : Nat) (us : List Value), (∀ d ∈ ds, jk n d) -> Vals vs us -> ∃ as, ReadsAll s.heap us (D.lI ds) as) (motive_3 := fun _ _ _ => True) (motive_4 := fun _ _ _ => True)
   (fun _ _ _ r => ?non) (fun b _ _ _ r => ?bl) (fun i _ _ _ r => ?int) (fun x _ _ _ r => ?str) (fun _ _ _ hd _ => by cases hd) (fun _ _ _ hd _ => by cases hd) (fun hq _ ih n u hd r => ?tup) (fun hq _ ih n u hd r => ?lst) (fun _ _ _ _ _ hd _ => by cases hd) (fun _ _ _ _ _ hd _ => by cases hd)
   (fun _ _ _ r => ?nil) (fun _ _ ih ihs n us h r => ?cons) trivial (fun _ _ _ _ => trivial) trivial (fun _ _ _ _ => trivial) q n u hd r
 case non => cases r; rw [D.toPy]; exact ⟨[], .none⟩
 case bl => cases r; rw [D.toPy]; exact ⟨[], .bool b⟩
 case int => obtain ⟨t, rfl⟩ := r; rw [D.toPy]; exact ⟨[], .int i t⟩
 case str => obtain ⟨t, rfl⟩ := r; rw [D.toPy]; exact ⟨[], .str x t⟩
 case tup =>
   cases hd with
   | tup hd =>
     cases r
     obtain ⟨its, rv, ⟨o, e, c, k, dt⟩, _⟩ := I.tuple hq
     obtain ⟨as, ra⟩ := ih _ _ hd rv
     rw [D.toPy]
     exact ⟨as, .tuple e c dt (by simpa using ra)⟩
 case lst =>
   cases hd with
   | lst hd =>
     cases r
     obtain ⟨its, rv, ⟨o, k, e, c, _, dt⟩, _⟩ := I.list hq
     obtain ⟨as, ra⟩ := ih _ _ hd rv
     rw [D.toPy]
     exact ⟨_, .list e c dt (by simpa using ra)⟩
 case nil => cases r; rw [D.lI]; exact ⟨[], .nil⟩
 case cons =>
   cases r with
   | cons r rs =>
     obtain ⟨as, ra⟩ := ih n _ (h _ afb) r
     obtain ⟨bs, rb⟩ := ihs n _ (fun e he => h e (afd _ he)) rs
     rw [D.lI]
     exact ⟨as ++ bs, .cons ra rb⟩
end
section
variable {X : Cx} {CL : Str -> Addr} {b : Bx} {δ δ1 δ2 δ3 : List (Option T)} {e e1 e2 e3 : Expr} {d1 d2 : D} {ds : List D} {pos p2 pp : Pos} {n m : Nat} {i : Nat} {x : Str} {t : T} {fK : List Stmt} {DD : cW}
theorem UX (hu : X.A.units + 64 < cLine) : qV X (compareOp .Eq) (fun x y H Q => ∃ a c, aZ X.K CL H a x /\ aZ X.K CL H c y /\ jk 60 a /\ jk 60 c /\ Q (.bl (Dh a c)) H) := by
 intro pins s σ H x y v u Q I rx ry h
 obtain ⟨a, c, ra, rc, da, dc, q⟩ := h
 obtain ⟨as, r1⟩ := yw I da ra rx
 obtain ⟨bs, r2⟩ := yw I dc rc ry
 exact SeqAt.rcAt_reads r1 r2 da.lay.1 dc.lay.1 (by have := da.lay.2; omega) X.prog X.w X.xe _ ⟨.bl _, H, I, rfl, q⟩
theorem UY (hu : X.A.units + 64 < cLine) : qV X (compareOp .NotEq) (fun x y H Q => ∃ a c, aZ X.K CL H a x /\ aZ X.K CL H c y /\ jk 60 a /\ jk 60 c /\ Q (.bl (!Dh a c)) H) := by
 intro pins s σ H x y v u Q I rx ry h
 obtain ⟨a, c, ra, rc, da, dc, q⟩ := h
 obtain ⟨as, r1⟩ := yw I da ra rx
 obtain ⟨bs, r2⟩ := yw I dc rc ry
 exact SeqAt.rcNeAt_reads r1 r2 da.lay.1 dc.lay.1 (by have := da.lay.2; omega) X.prog X.w X.xe _ ⟨.bl _, H, I, rfl, q⟩
theorem X7 {op : CmpOp} {f : Bool -> Bool} (ho : qV X (compareOp op) (fun x y H Q => ∃ a c, aZ X.K CL H a x /\ aZ X.K CL H c y /\ jk 60 a /\ jk 60 c /\ Q (.bl (f (Dh a c))) H)) (h1 : cH X CL b e1 δ d1 δ1) (h2 : cH X CL b e2 δ1 d2 δ2) (k1 : jk 60 d1) (k2 : jk 60 d2)
   (hm : behindInMarks op e2 = false) : pI X CL b (.Compare e1 [op] [e2] pos) δ (f (Dh d1 d2)) δ2 /\ cg X CL b (.Compare e1 [op] [e2] pos) δ (.sh (.bl (f (Dh d1 d2)))) δ2 := by
 constructor
 . intro H Z σ ts vs Q S k
   refine BI (mF ho dR dR hm) (h1 H Z σ ts vs _ S fun v1 H1 Z1 z1 k1' S1 r1 => h2 H1 Z1 σ ts vs _ S1 fun v2 H2 Z2 z2 X8 S2 r2 => ?_)
   exact ⟨d1, d2, r1.mono X8, r2, k1, k2, _, rfl, k H2 Z2 (z1.trans z2) (k1'.trans X8) S2⟩
 . intro H Z σ ts vs Q S k
   refine cZ (mE ho dR dR hm) (h1 H Z σ ts vs _ S fun v1 H1 Z1 z1 k1' S1 r1 => h2 H1 Z1 σ ts vs _ S1 fun v2 H2 Z2 z2 X8 S2 r2 => ?_)
   exact ⟨d1, d2, r1.mono X8, r2, k1, k2, k _ H2 Z2 (z1.trans z2) (k1'.trans X8) (S2.push (.bl _))⟩
theorem UZ (hu : X.A.units + 64 < cLine) (h1 : cH X CL b e1 δ d1 δ1) (h2 : cH X CL b e2 δ1 d2 δ2) (k1 : jk 60 d1) (k2 : jk 60 d2) : pI X CL b (.Compare e1 [.Eq] [e2] pos) δ (Dh d1 d2) δ2 /\ cg X CL b (.Compare e1 [.Eq] [e2] pos) δ (.sh (.bl (Dh d1 d2))) δ2 :=
 X7 (f := fun b => b) (UX hu) h1 h2 k1 k2 (ki _)
theorem q8 (hu : X.A.units + 64 < cLine) (h1 : cH X CL b e1 δ d1 δ1) (h2 : cH X CL b e2 δ1 d2 δ2) (k1 : jk 60 d1) (k2 : jk 60 d2) : pI X CL b (.Compare e1 [.NotEq] [e2] pos) δ (!Dh d1 d2) δ2 /\ cg X CL b (.Compare e1 [.NotEq] [e2] pos) δ (.sh (.bl (!Dh d1 d2))) δ2 :=
 X7 (f := fun b => !b) (UY hu) h1 h2 k1 k2 (ki _)
noncomputable def cutD {α : Type} (xs : List α) (lo hi : Option Int) : List α := (xs.drop (HT.sY xs.length 0 lo)).take (HT.sY xs.length xs.length hi - HT.sY xs.length 0 lo)
theorem aC.drop {K : PySem.W.Frag} {Z : Hp} : ∀ {ds : List L3.D} {vs : List V} (n : Nat), aC K CL Z ds vs -> aC K CL Z (ds.drop n) (vs.drop n)
 | _, _, 0, r => r
 | _, _, _ + 1, .nil => .nil
 | _, _, n + 1, .cons _ t => aC.drop n t
theorem aC.take {K : PySem.W.Frag} {Z : Hp} : ∀ {ds : List L3.D} {vs : List V} (n : Nat), aC K CL Z ds vs -> aC K CL Z (ds.take n) (vs.take n)
 | _, _, 0, _ => .nil
 | _, _, _ + 1, .nil => .nil
 | _, _, n + 1, .cons r t => .cons r (aC.take n t)
theorem aC.cut {K : PySem.W.Frag} {Z : Hp} {ds : List L3.D} {vs : List V} (r : aC K CL Z ds vs) (lo hi : Option Int) : aC K CL Z (cutD ds lo hi) (GZ vs lo hi) := by
 unfold cutD GZ
 rw [r.length]
 exact (r.drop _).take _
theorem pP : ∀ {ds : List L3.D}, D.bN ds = true -> ∀ d ∈ ds, d.jg = true
 | [], _, _, h => by cases h
 | d :: ds, k, e, h => by
   rw [D.bN, afJ] at k
   rcases afe.mp h with h | h
   . subst h; exact k.1
   . exact pP k.2 e h
theorem kB : ∀ {ds : List L3.D}, (∀ d ∈ ds, d.jg = true) -> D.bN ds = true
 | [], _ => rfl
 | d :: ds, h => by rw [D.bN, h d afb, kB fun e he => h e (afd _ he)]; rfl
theorem Nv {α : Type} {xs : List α} {lo hi : Option Int} {x : α} (h : x ∈ cutD xs lo hi) : x ∈ xs := List.mem_of_mem_drop (List.mem_of_mem_take h)
noncomputable def WX (X : Cx) (CL : Str -> Addr) (b : Bx) (e : Option Expr) (δ : List (Option T)) (k : Option Int) (δ' : List (Option T)) : Prop :=
 ∃ t, PO X e t /\ ∀ (H Z : Hp) (σ : L2.St) (ts : List T) (vs : List V) (Q : Option Int -> Hp -> Prop), bX X.K CL b H Z δ σ ts vs -> (∀ H' Z', aD Z Z' -> aD H H' -> bX X.K CL b H' Z' δ' σ ts vs -> Q k H') -> t σ H Q
theorem yx : WX X CL b none δ none δ := ⟨_, M6, fun H Z σ ts vs Q S k => k H Z (.refl _) (.refl _) S⟩
theorem yy {k : Int} (h : cH X CL b e δ (.int k) δ1) : WX X CL b (some e) δ (some k) δ1 := ⟨_, M7 dR, fun H Z σ ts vs Q S kk => h H Z σ ts vs _ S fun v H1 Z1 z1 k1 S1 r => ⟨k, r.sc rfl, kk H1 Z1 z1 k1 S1⟩⟩
theorem BV {lo hi : Option Expr} {l h : Option Int} (h1 : cH X CL b e δ (.lst ds) δ1) (hi1 : D.bN ds = true) (h2 : WX X CL b lo δ1 l δ2) (h3 : WX X CL b hi δ2 h δ3) : cg X CL b (.Subscript e (.Slice lo hi none p2) pos) δ (.lst ((cutD ds l h).map T.sh)) δ3 := fun H Z σ ts vs Q S k => by
 obtain ⟨t2, po2, w2⟩ := h2
 obtain ⟨t3, po3, w3⟩ := h3
 refine cZ (Bu M8 dR po2 po3) (h1 H Z σ ts vs _ S fun v H1 Z1 z1 k1 S1 r => w2 H1 Z1 σ ts vs _ S1 fun H2 Z2 z2 k2 S2 => w3 H2 Z2 σ ts vs _ S2 fun H3 Z3 z3 k3 S3 => ?_)
 have r' := r.mono (k2.trans k3)
 cases r' with
 | lst hq rr =>
   refine ⟨_, _, rfl, hq, fun p hp => ?_⟩
   have rc := aC.jg S3.tp (kB fun d hd => pP hi1 d (Nv hd)) (rr.cut l h)
   obtain ⟨c, S4⟩ := (bX.sE rc S3).oF (g0 := []) (by simp [rc.length]) hp
   exact k _ _ _ (z1.trans (z2.trans z3)) (k1.trans (k2.trans (k3.trans c))) S4
theorem xN (hm : X.mg "tuple" = none) (h : cH X CL b e δ (.lst ds) δ1) (hi : D.bN ds = true) (hg : Gl X "tuple") (hs : starEach [e] X.env = (false, eval e X.env) :: starEach [] X.env := by exact bW rfl) : cg X CL b (.Call (.Name "tuple" pp) [e] [] pos) δ (.sh (.tup ds)) δ1 := fun H Z σ ts vs Q S k =>
 cZ (jK wC hg hm BQ (cD dR e9 hs) (he := hs)) (h H Z σ ts vs _ S fun v H1 Z1 z1 k1 S1 r => by
   cases r with
   | lst hq rr =>
     refine ⟨_, _, rfl, .inl ⟨hq, fun l hl => ?_⟩⟩
     obtain ⟨a, c, S2⟩ := (bX.sE (aC.jg S1.tp hi rr) S1).JG (by simp [rr.length]) hl
     obtain ⟨Z3, z3, S3⟩ := S2.JC
     rw [T.dH, gW] at S3
     exact k _ _ Z3 (z1.trans (a.trans z3)) (k1.trans c) S3)
theorem lg {tl Nr : List T} {pa pb : Pos} (n : Vn X i x) (h0 : δ[i]? = some (some (.lst Nr))) (h : cg X CL b e δ t δ1) (h1 : δ1[i]? = some (some (.lst tl))) (hl : tl.length <= 1000000) (k : eO X CL b fK (δ1.set i (some (.lst (tl ++ [t])))) DD)
   (uA : attributeBase (.Name x pp) "append" X.env (eval (.Name x pp) X.env) = eval (.Name x pp) X.env := by rfl)
   (Dz : ((backTo pb (starEach [e] X.env)).all (fun x => !x.1) && (backToKw pb (keywordEach [] X.env)).all (fun x => x.1.isSome) && decide ([e].length + ([] : List Keyword).length + (if ([] : List Keyword).isEmpty then 0 else 1) < 30)) = true := by rfl)
   (hline : (pa.endLine == pb.line) = true := by rfl) (hs : starEach [e] X.env = (false, eval e X.env) :: starEach [] X.env := by exact bW rfl) (Hf : swapsWith (.Call (.Attribute (.Name x pp) "append" pa) [e] [] pb) none pos.line X.env = pure false := by rfl) :
   eO X CL b (.Expr (.Call (.Attribute (.Name x pp) "append" pa) [e] [] pb) pos :: fK) δ DD :=
 dN (UN i h0 h h1 (Nat.lt_of_le_of_lt hl (by rw [afP]; decide)) k n.hi n.hv n.hd n.iD uA Dz hline hs Hf)
theorem Sl {tl : List T} {k : Int} {j : Nat} {ps : Pos} (n : Vn X i x) (h : cg X CL b e δ t δ1) (h2 : cH X CL b e2 δ1 (.int k) δ1) (h1 : δ1[i]? = some (some (.lst tl))) (hk : G0 tl.length k = some j) (kk : eO X CL b fK (δ1.set i (some (.lst (tl.set j t)))) DD)
   (ha : ∀ v, assign (.Subscript (.Name x pp) e2 ps) X.env v = (do
     let ov ← holding [v] (eval (.Name x pp) X.env)
     let iv ← holding [v, ov] (eval e2 X.env)
     standAt ps
     holding [v, ov, iv] (setItem ov iv v)
     release [v, ov, iv] []) := by intro _; rfl)
   (hs : swapsWithSole [.Subscript (.Name x pp) e2 ps] e pos.line X.env = pure false := by rfl) (hw : swappedStores [.Subscript (.Name x pp) e2 ps] e X.env = pure none := by rfl) (ha1 : (assignEach [.Subscript (.Name x pp) e2 ps] X.env).map (·.2) = [assign (.Subscript (.Name x pp) e2 ps) X.env] := by rfl) :
   eO X CL b (.Assign [.Subscript (.Name x pp) e2 ps] e pos :: fK) δ DD := by
 refine dN fun H Z σ ts vs E S M => uB (TV dR (TR (lz n.hi n.hv n.hd n.iD) dR set_list ha) hs hw ha1) (h H Z σ ts vs _ S fun v H1 Z1 z1 k1 S1 => ?_)
 have hj : j < tl.length := (yk hk).2.1
 obtain ⟨v0, e0, _⟩ := S1.look h1
 refine ⟨v0, e0, ?_⟩
 refine h2 H1 Z1 σ _ _ _ S1 fun v2 H2 Z2 z2 k2 S2 r2 => ?_
 obtain ⟨a, us, ea, JD, hu, S3⟩ := S2.setAt h1 hj
 rw [e0] at ea
 cases ea
 exact ⟨a, us, k, j, rfl, r2.sc rfl, JD, by rw [hu]; exact hk, M.nx _ σ _ Z2 (z1.trans z2) S3 kk⟩
theorem dz {n : Nat} (hn : ds.length = n) (hm : X.mg "len" = none) (h : cH X CL b e δ (.lst ds) δ1) (hg : Gl X "len") (hs : starEach [e] X.env = (false, eval e X.env) :: starEach [] X.env := by exact bW rfl) : cg X CL b (.Call (.Name "len" pp) [e] [] pos) δ (.sh (.int n)) δ1 := by
 subst hn
 exact pM hm h hg hs
theorem b8 (h : cg X CL b e δ (.lst (ds.map T.sh)) δ1) : cH X CL b e δ (.lst ds) δ1 := by
 have := Se h
 rwa [T.dH, gW] at this
theorem Nx {ds' : List L3.D} (h : cg X CL b e δ (.lst (ds.map T.sh)) δ1) (e' : ds = ds') : cH X CL b e δ (.lst ds') δ1 := e' ▸ b8 h
end
theorem iM {α : Type} {f : α -> D} {l : List α} {k : Int} (z : α) (h0 : 0 <= k) (h1 : k < l.length) : sZ (l.map f) k = some (f (l.getD k.toNat z)) := by
 obtain ⟨j, rfl⟩ : ∃ j : Nat, k = j := ⟨k.toNat, by omega⟩
 refine dX ?_
 have hl : j < l.length := by omega
 rw [afH, afc hl]
 simp [List.getD, hl]
theorem JT {α β : Type} {f : α -> β} {l : List α} {lo hi : Option Int} : cutD (l.map f) lo hi = (cutD l lo hi).map f := by
 unfold cutD
 rw [afj, List.map_take, List.map_drop]
noncomputable def Ny (l : Bool) (ds : List D) : D := match l with
 | true => .lst ds
 | false => .tup ds
theorem iN {α : Type} {f : α -> D} (h : ∀ a, (f a).jg = true) : ∀ (l : List α), D.bN (l.map f) = true
 | [] => rfl
 | a :: l => by rw [afx, D.bN, h a, iN h l]; rfl
section
variable {X : Cx} {CL : Str -> Addr} {b : Bx} {δ δ1 δ2 δ3 : List (Option T)} {e e1 e2 e3 : Expr} {es : List Expr} {d d1 d2 : D} {ds : List D} {pos p2 pp : Pos} {n m : Nat} {i : Nat} {x : Str} {t : T} {fK : List Stmt} {DD : cW}
theorem Nz {k : Int} {u : Tok} (hm : X.mg x = some (.int k u)) (hg : Gl X x) (hd : (x == ("__debug__" : Str)) = false := by decide) : cg X CL b (.Name x pos) δ (.sh (.int k)) δ := fun H Z σ ts vs Q S kk =>
 cZ (MN (v := .int k) hg hm ⟨u, rfl⟩ hd) (kk _ H Z (.refl _) (.refl _) (S.push (.int k)))
theorem lK {k : Int} (hm : ∃ u, X.mg x = some (.int k u)) (hg : Gl X x) (hd : (x == ("__debug__" : Str)) = false := by decide) : cg X CL b (.Name x pos) δ (.sh (.int k)) δ := by
 obtain ⟨u, hm⟩ := hm
 exact Nz hm hg hd
theorem vE (n : Vn X i x) (h : δ[i]? = some (some t)) (e : t.dH = d) : cH X CL b (.Name x pos) δ d δ := e ▸ vB n h
theorem pQ (x : Str) : ∀ l : List Str, R5 (.str x) (l.map V.str) = decide (x ∈ l)
 | [] => by simp [R5]
 | y :: l => by
   have ih := pQ x l
   unfold R5 at ih ⊢
   rw [afx, ago, ih]
   have e : ∀ a c : Str, Jr (.str a) (.str c) = (a == c) := fun _ _ => rfl
   rw [e]
   by_cases h : y = x
   . subst h; simp
   . have h' : ¬ x = y := fun e => h e.symm
     simp [h, h']
theorem aC.strs {K : PySem.W.Frag} {Z : Hp} : ∀ {l : List Str} {vs : List V}, aC K CL Z (l.map D.str) vs -> vs = l.map V.str
 | [], _, r => by
   have r' : aC K CL Z [] _ := r
   cases r'; rfl
 | y :: l, _, r => by
   have r' : aC K CL Z (D.str y :: l.map D.str) _ := r
   cases r' with
   | cons r1 r2 => rw [r1.sc rfl, aC.strs r2]; rfl
theorem fQ : ∀ l : List Str, (l.map V.str).all n8 = true
 | [] => rfl
 | y :: l => by rw [afx, ag5, fQ l]; rfl
theorem X9 {l : List Str} (h1 : cH X CL b e1 δ (.str x) δ1) (h2 : cH X CL b e2 δ1 (.tup (l.map .str)) δ2) (hm : behindInMarks .In e2 = false) :
   pI X CL b (.Compare e1 [.In] [e2] pos) δ (decide (x ∈ l)) δ2 /\ cg X CL b (.Compare e1 [.In] [e2] pos) δ (.sh (.bl (decide (x ∈ l)))) δ2 := by
 constructor
 . intro H Z σ ts vs Q S k
   refine BI (mF mH dR dR hm) (h1 H Z σ ts vs _ S fun v1 H1 Z1 z1 k1 S1 r1 => h2 H1 Z1 σ ts vs _ S1 fun v2 H2 Z2 z2 k2 S2 r2 => ?_)
   cases r2 with
   | tup hq rr =>
     have e := rr.strs
     subst e
     refine ⟨_, _, rfl, .inr hq, by rw [r1.sc rfl]; rfl, fQ l, _, rfl, ?_⟩
     rw [ae9 afr, r1.sc rfl, pQ]
     exact k H2 Z2 (z1.trans z2) (k1.trans k2) S2
 . intro H Z σ ts vs Q S k
   refine cZ (mE mH dR dR hm) (h1 H Z σ ts vs _ S fun v1 H1 Z1 z1 k1 S1 r1 => h2 H1 Z1 σ ts vs _ S1 fun v2 H2 Z2 z2 k2 S2 r2 => ?_)
   cases r2 with
   | tup hq rr =>
     have e := rr.strs
     subst e
     refine ⟨_, _, rfl, .inr hq, by rw [r1.sc rfl]; rfl, fQ l, ?_⟩
     rw [ae9 afr, r1.sc rfl, pQ]
     exact k _ H2 Z2 (z1.trans z2) (k1.trans k2) (S2.push (.bl _))
theorem JV {l : List Str} {j : Nat} (h1 : cH X CL b e1 δ (.str x) δ1) (h2 : DG X CL b es δ1 ((l.map D.str).map T.sh) δ2) (hl : (l.map D.str).length <= sizeLine := by exact aG rfl) :
   pI X CL b (.Compare e1 [.In] [.Tuple es j p2] pos) δ (decide (x ∈ l)) δ2 /\ cg X CL b (.Compare e1 [.In] [.Tuple es j p2] pos) δ (.sh (.bl (decide (x ∈ l)))) δ2 := X9 h1 (ah (cz h2 hl)) rfl
theorem NB {p : Bool} (hm : X.mg "int" = none) (h : cH X CL b e δ (.bl p) δ1) (hg : Gl X "int") (hs : starEach [e] X.env = (false, eval e X.env) :: starEach [] X.env := by exact bW rfl) : cg X CL b (.Call (.Name "int" pp) [e] [] pos) δ (.sh (.int (if p then 1 else 0))) δ1 := fun H Z σ ts vs Q S k =>
 cZ (jK GU hg hm xM (cD dR e9 hs) (he := hs)) (h H Z σ ts vs _ S fun v H1 Z1 z1 k1 S1 r => .inr ⟨p, by rw [r.sc rfl], k _ H1 Z1 z1 k1 (S1.push (.int _))⟩)
noncomputable def uG : Expr -> Option Str
 | .Constant (.str x) _ _ => some x
 | _ => none
noncomputable def rg : List Expr -> Option (List Str)
 | [] => some []
 | e :: es => (uG e).bind fun x => (rg es).map (x :: ·)
theorem BW {e : Expr} {x : Str} (h : uG e = some x) : ∃ j p, e = .Constant (.str x) j p := by
 unfold uG at h
 split at h
 . cases h; exact ⟨_, _, rfl⟩
 . cases h
theorem tN : ∀ {es : List Expr} {l : List Str}, rg es = some l -> DG X CL b es δ ((l.map D.str).map T.sh) δ
 | [], l, h => by
   have e : l = [] := (afv h).symm
   subst e
   exact dD
 | e :: es, l, h => by
   rw [rg] at h
   obtain ⟨x, hx, h⟩ := Option.bind_eq_some_iff.mp h
   obtain ⟨l', hl, rfl⟩ := Option.map_eq_some_iff.mp h
   obtain ⟨j, p, rfl⟩ := BW hx
   exact fz aX (tN hl)
end
theorem JW {α : Type} {l : List α} {k : Int} (z : α) (h0 : 0 <= k) (h1 : k < l.length) : sZ l k = some (l.getD k.toNat z) := by
 obtain ⟨j, rfl⟩ : ∃ j : Nat, k = j := ⟨k.toNat, by omega⟩
 refine dX ?_
 have hl : j < l.length := by omega
 rw [afc hl]
 simp [List.getD, hl]
theorem str_len (x y : Str) : (x ++ y).length = x.length + y.length := by
 show (x.cps ++ y.cps).size = _
 rw [Array.size_append]; rfl
theorem rj (x y : Str) (h1 : PyData.strOk x = true) (h2 : PyData.strOk y = true) : PyData.strOk (x ++ y) = true := by
 unfold PyData.strOk at *
 show (x.cps ++ y.cps).all _ = true
 rw [Array.all_append, h1, h2]; rfl
theorem sG (l : List Int) : T.c6 ((l.map D.int).map T.sh) = true := by
 rw [afR]
 induction l with
 | nil => rfl
 | cons i r ih => rw [afx, T.c6, ih]; rfl
noncomputable def Itv (K : PySem.W.Frag) (a : Addr) (n : Nat) : It :=
 ⟨fun i H => i < n /\ ∃ xs, kh K H a xs /\ xs.length = n, fun i H x H' => H' = H /\ ∀ xs, kh K H a xs -> xs[n - 1 - i]? = some x, fun i _ => i = n⟩
theorem JX {P : Program} {w : World} {K : PySem.W.Frag} {tg : Expr} (a it : Addr) (n : Nat) : Turn P w K tg (Itv K a n) [it] it (fun i h => PySem.Heap.IsRevIter h it a ((n : Int) - 1 - (i : Int))) where
 mem := by simp
 obj := fun i h st b hb => by
   have e : b = it := by simpa using hb
   subst e
   obtain ⟨o, e, c, d⟩ := st
   exact ⟨o, e, fun v z => by rw [d] at z; cases z⟩
 keep := fun i h h' st k => st.at fun o e => k it (by simp) o e
 item := by
   intro X hP hw hK hc i pins s σ H E I hf st hg
   subst hP hw hK
   obtain ⟨hi, xs, hq, hl⟩ := hg
   obtain ⟨its, rv, p, hz⟩ := I.list hq
   have n9 : n - 1 - i < xs.length := by omega
   obtain ⟨u, hu, ru⟩ := rv.get (afc n9)
   obtain ⟨f0, f1, f2, f3, f4, f5⟩ := hf it (by simp)
   have e1 : (n : Int) - 1 - (i : Int) = ((n - 1 - i : Nat) : Int) := by omega
   have st1 : PySem.Heap.IsRevIter s.heap it a ((n - 1 - i : Nat) : Int) := e1 ▸ st
   refine PySem.wpAny_pyNext_rev_item st1 p.isList (x := u) (by simpa using hu) fun h' Be sb => ?_
   have I1 : L2.Inv X pins σ H { s with heap := h' } := I.turned (t' := s.toks) (fun b o hb e => (sb.2 b hb).trans e) f0 f1 f3 f4 f5
   have e2 : ((n - 1 - i : Nat) : Int) - 1 = (n : Int) - 1 - ((i + 1 : Nat) : Int) := by omega
   have st2 : PySem.Heap.IsRevIter h' it a ((n : Int) - 1 - ((i + 1 : Nat) : Int)) := e2 ▸ Be
   obtain ⟨o, e, c, d⟩ := id Be
   exact ⟨u, rfl, Fx (s := { s with heap := h' }) e c d (by decide) ⟨_, H, I1, ru, ⟨rfl, fun ys hy => by rw [I.uv hy hq]; exact afc n9⟩, st2, fun b hb => (hf b hb).1⟩⟩
 done := by
   intro X hP hw hK hc i pins s σ H E I hf st hg
   subst hP hw hK
   obtain ⟨f0, f1, f2, f3, f4, f5⟩ := hf it (by simp)
   have e1 : (n : Int) - 1 - (i : Int) = -1 := by have : i = n := hg; omega
   have st1 : PySem.Heap.IsRevIter s.heap it a (-1) := e1 ▸ st
   exact PySem.wpAny_pyNext_rev_end (I.ok.hd hc) st1 fun h' eb => ⟨rfl, I.turned (t' := s.toks) (fun b o hb e => eb b o hb e) f0 f1 f3 f4 f5⟩
 self := fun _ _ _ _ _ st h => PySem.wpAny_pyIter_revIter st h
section
variable {X : Cx} {tg : Expr}
noncomputable def aa3 (K : PySem.W.Frag) (ta : TA) : TI := fun σ H R => ta σ H fun vs H1 => ∃ a xs, vs = [.ref a] /\ kh K H1 a xs /\ R (Itv K a xs.length) H1
theorem U0 {a : Expr} {ta : TA} {p pos : Pos} (hg : Gl X "reversed") (hm : X.mg "reversed" = none) (ha : PA X [a] ta) (hs : starEach [a] X.env = (false, eval a X.env) :: starEach [] X.env) : PI X tg (.Call (.Name "reversed" p) [a] [] pos) (aa3 X.K ta) := by
 intro pins s σ H R I h
 refine Call_ (lA I hg hm boot_reversed (agi (dU (ha pos pins s σ H _ I h) fun us s1 zz => ?_) hs rfl))
 obtain ⟨vs, H1, I1, r1, q1⟩ := zz
 obtain ⟨l, xs, e, hq, q⟩ := q1
 subst e
 cases r1 with
 | cons r rr =>
   cases rr
   cases r
   obtain ⟨its, rv, p, hz⟩ := I1.list hq
   refine PySem.call_reversed_list p.isList ?_
   have hl := rv.length
   have e0 : ((its.toArray.size : Int) - 1) = (xs.length : Int) - 1 - ((0 : Nat) : Int) := by rw [afz, ← hl]; omega
   have I2 : L2.Inv X pins σ H1 { s1 with heap := s1.heap.push (PySem.revObj l ((its.toArray.size : Int) - 1)) } := I1.kept (t' := s1.toks) fun b o e => afn _ e
   have st : PySem.Heap.IsRevIter (s1.heap.push (PySem.revObj l ((its.toArray.size : Int) - 1))) s1.heap.objs.size l ((xs.length : Int) - 1 - ((0 : Nat) : Int)) := e0 ▸ ⟨_, afE _ rfl, rfl, rfl⟩
   refine PySem.wpAny_pyIter_revIter st ?_
   refine ⟨s1.heap.objs.size, [s1.heap.objs.size], _, _, H1, rfl, I2, JX l _ xs.length, st, fun b hb => ?_, q⟩
   have e : b = s1.heap.objs.size := by simpa using hb
   subst e
   exact I1.wu (afg _) (I1.dw.fresh (afg _))
end
section
variable {X : Cx} {CL : Str -> Addr} {b : Bx} {δ δ1 : List (Option T)} {e : Expr} {ds : List D} {tg : Expr} {pr pc : Pos}
theorem U1 (hm : X.mg "reversed" = none) (h : cg X CL b e δ (.sh (.lst ds)) δ1) (hg : Gl X "reversed") (hs : starEach [e] X.env = (false, eval e X.env) :: starEach [] X.env := by exact bW rfl) : JN X CL b tg (.Call (.Name "reversed" pr) [e] [] pc) δ ds.reverse δ1 := by
 refine ⟨_, U0 hg hm (cD dR e9 hs) hs, fun H Z σ ts vs R S k => h H Z σ ts vs _ S fun v H1 Z1 z1 k1 S1 => ?_⟩
 obtain ⟨fp, gp, _, r, _, _⟩ := S1.rep
 cases r with
 | cons r _ =>
   cases r with
   | sh r =>
     cases r with
     | @lst a us _ hq rr =>
       have hlen := rr.length
       have aa4 : aC X.K CL Z1 ds.reverse us.reverse := by
         have go : ∀ {ds : List L3.D} {us : List V} {es : List L3.D} {ws : List V}, aC X.K CL Z1 ds us -> aC X.K CL Z1 es ws -> aC X.K CL Z1 (ds.reverse ++ es) (us.reverse ++ ws) := by
           intro ds us es ws r
           induction ds generalizing us es ws with
           | nil => cases r; exact fun q => q
           | cons d ds ih =>
             cases r with
             | cons r1 r2 =>
               intro q
               rw [agh, agh, afi, afi]
               exact ih r2 (.cons r1 q)
         simpa using go rr .nil
       refine ⟨a, us, rfl, S1.zh.seq hq, k _ _ ⟨Z1, us.reverse, z1, k1, S1.pop, aa4, fun i H2 s hi => ?_, fun i H2 y H' s hi hy => ?_, fun H2 s => ?_⟩⟩
       . rw [List.length_reverse] at hi
         exact ⟨by omega, us, s.seq hq, rfl⟩
       . rw [List.length_reverse] at hi
         refine ⟨hy.1, ?_⟩
         rw [List.getElem?_reverse (by omega)]
         exact hy.2 us (s.seq hq)
       . show ds.reverse.length = us.length
         rw [List.length_reverse]; exact hlen
end
section
variable {K : PySem.W.Frag} {CL : Str -> Addr} {b : Bx} {H Z : Hp} {δ : List (Option T)} {σ : L2.St} {ts tt : List T} {vs : List V} {t : T}
end
section
variable {X : Cx} {CL : Str -> Addr} {b : Bx} {δ : List (Option T)} {tt : List T} {t : T} {i : Nat} {x : Str} {pp pc ps : Pos} {kj : Nat}
end
section
variable {X : Cx} {CL : Str -> Addr} {b : Bx} {δ δ1 : List (Option T)} {e : Expr} {ds : List D} {t : T} {i : Nat} {x : Str} {pos pp p2 : Pos} {kj : Nat}
theorem vFL (n : Vn X i x) (h : δ[i]? = some (some (.lst (ds.map T.sh)))) : cg X CL b (.Name x pos) δ (.sh (.lst ds)) (δ.set i (some (.sh (.lst ds)))) := by
 have := vF (CL := CL) (b := b) (pos := pos) n h
 rwa [T.dH, gW] at this
end
section
variable {K : PySem.W.Frag} {CL : Str -> Addr} {b : Bx} {H H' Z Z' : Hp} {δ δ' : List (Option T)} {σ σ' : L2.St} {ts tl : List T} {vs us : List V} {t : T} {v : V}
theorem fP.get : ∀ {fs : List (Str × D)} {gs : List (Str × V)} {f : Str} {d : D}, fP K CL Z fs gs -> fs.lookup f = some d -> ∃ v, gs.lookup f = some v /\ aZ K CL Z d v
 | _, _, _, _, .nil, e => by simp at e
 | _, _, f, d, .cons (x := x) r t, e => by
   rw [afL] at e ⊢
   cases h : f == x with
   | true => rw [h] at e; cases e; exact ⟨_, rfl, r⟩
   | false => rw [h] at e; exact fP.get t e
noncomputable def wG (f : Str) (t : T) : List (Str × T) -> List (Str × T)
 | [] => [(f, t)]
 | (g, x) :: r => if g = f then (g, t) :: r else (g, x) :: wG f t r
theorem bQ.length {fs : List (Str × T)} {gs : List (Str × V)} {fp : List Addr} (h : bQ K CL H Z fs gs fp) : fs.length = gs.length :=
 bQ.ind (P := fun d v _ => d.length = v.length) rfl (fun _ _ i => congrArg (· + 1) i) h
theorem bQ.put {f : Str} {g : List Addr} (q : cK K CL H Z t v g) : ∀ {fs : List (Str × T)} {gs : List (Str × V)} {fp : List Addr}, bQ K CL H Z fs gs fp →
   ∃ FQ f', bQ K CL H Z (wG f t fs) (iF f v gs) FQ /\ f'.Sublist fp /\ FQ.Perm (g ++ f')
 | _, _, _, .nil => ⟨g ++ [], [], .cons q .nil, afS _, ag2 _⟩
 | _, _, _, .cons (x := x) (fp := fp) (gp := gp) r rs => by
   rw [wG, iF]
   by_cases h : x = f
   . rw [afa h, afa h]
     exact ⟨g ++ gp, gp, .cons q rs, agf _ _, ag2 _⟩
   . rw [ae9 h, ae9 h]
     obtain ⟨p, p', h1, h2, h3⟩ := bQ.put (f := f) q rs
     refine ⟨fp ++ p, fp ++ p', .cons r h1, afT (afS _) h2, (af1 fp h3).trans ?_⟩
     rw [← afi, ← afi]
     exact afX.append_right p'
theorem bX.JY {a : Addr} {o : HO} {FQ gp fp UM : List Addr} {δ2 : List (Option T)} (hm : iH o = false) (S : bX K CL b H Z δ σ ts vs) (own : ∀ c ∈ fp ++ gp, Z c = none /\ b.B c = none) (ha : a ∈ fp ++ gp)
   (e' : fc K CL (upd H a o) Z δ2 σ FQ) (r' : aQ K CL (upd H a o) Z tl us UM) (pm : (FQ ++ UM).Nodup) (sub : ∀ c ∈ FQ ++ UM, c ∈ fp ++ gp) :
   bX K CL b (upd H a o) Z δ2 σ tl us := by
 have oa := own a ha
 refine ⟨⟨_, _, e', r', pm, fun c hc => own c (sub c hc)⟩, fun c u q => ?_, S.zz, fun c u q => ?_, S.new, fun c u q i => ?_, S.tab⟩
 . rw [az (aE q oa.2)]; exact S.bh c u q
 . rw [az (aE q oa.1)]; exact S.zh c u q
 . by_cases hc : c = a
   . subst hc; rw [aN] at q; cases q; rw [hm] at i; cases i
   . rw [az hc] at q; exact S.tp c u q i
theorem bX.setField {i : Nat} {x : Addr} {c f : Str} {fs : List (Str × T)} (S : bX K CL b H Z δ σ (t :: ts) (v :: vs)) (hi : δ[i]? = some (some (.pin x (.ins c fs)))) :
   ∃ dx gs, σ[i]? = some (some (.ref x)) /\ H x = some (.ins (CL c) dx gs) /\ gs.length = fs.length /\ bX K CL b (upd H x (.ins (CL c) dx (iF f v gs))) Z (δ.set i (some (.pin x (.ins c (wG f t fs))))) σ ts vs := by
 obtain ⟨fp, gp, e, r, nd, k⟩ := S.rep
 obtain ⟨v0, f1, f2, f3, hv, sC, rt, put, _⟩ := e.get hi
 subst sC
 cases rt with
 | pin rt =>
 cases rt with
 | @ins a dx _ gs _ g ha rs =>
   cases r with
   | @cons _ _ _ _ ft gr q1 q2 =>
     have ne : ∀ c ∈ (f1 ++ (g ++ f3)) ++ (ft ++ gr), c ≠ x := fun c hc e => by
       subst e
       have hp : ((f1 ++ ((c :: g) ++ f3)) ++ (ft ++ gr)).Perm (c :: ((f1 ++ (g ++ f3)) ++ (ft ++ gr))) := by
         rw [afF, ← afF]
         exact (agx.append_right _)
       exact (age.mp (hp.nodup_iff.mp nd)).1 hc
     refine ⟨dx, gs, hv, ha, rs.length.symm, ?_⟩
     have q1' := q1.mono (H' := upd H x (.ins (CL c) dx (iF f v gs))) (.refl _) fun c hc => az (ne c (by simp [hc]))
     have rs' := rs.mono (H' := upd H x (.ins (CL c) dx (iF f v gs))) (.refl _) fun c hc => az (ne c (by simp [hc]))
     obtain ⟨p, p', h1, h2, h3⟩ := bQ.put (f := f) q1' rs'
     have r1 : cK K CL (upd H x (.ins (CL c) dx (iF f v gs))) Z (.pin x (.ins c (wG f t fs))) (.ref x) (x :: p) := .pin (.ins aN h1)
     have e2 := put (H' := upd H x (.ins (CL c) dx (iF f v gs))) (.refl _) (fun c hc => az (ne c (by
       rcases afm.mp hc with h | h
       . simp [h]
       . simp [h]))) r1
     rw [pN hv] at e2
     have hp : ((f1 ++ ((x :: p) ++ f3)) ++ gr).Perm ((f1 ++ ((x :: p') ++ f3)) ++ (ft ++ gr)) := by
       have h4 : ((f1 ++ ((x :: p) ++ f3)) ++ gr).Perm ((f1 ++ ((x :: (ft ++ p')) ++ f3)) ++ gr) := ((h3.cons x).append_right f3).append_left f1 |>.append_right gr
       refine h4.trans ?_
       simp only [afF, afi]
       refine af1 f1 (List.Perm.cons x ?_)
       have := (afX (l₁ := ft) (l₂ := p' ++ f3)).append_right gr
       simp only [afi] at this
       exact this
     have sb : ((f1 ++ ((x :: p') ++ f3)) ++ (ft ++ gr)).Sublist ((f1 ++ ((x :: g) ++ f3)) ++ (ft ++ gr)) :=
       afT (afT (afS _) (afT (List.Sublist.cons₂ x h2) (afS _))) (afS _)
     exact S.JY rfl k (by simp) e2 (q2.mono (.refl _) fun c hc => az (ne c (by simp [hc]))) (hp.nodup_iff.mpr (nd.sublist sb)) fun c hc => sb.subset (hp.mem_iff.mp hc)
end
section
variable {X : Cx} {CL : Str -> Addr} {b : Bx} {δ δ1 δ2 : List (Option T)} {e : Expr} {es : List Expr} {t : T} {d : D} {c f x : Str} {fs : List (Str × D)} {pos pp : Pos} {DD : cW} {i : Nat}
theorem jl (hc : wc X.K (CL c)) (n : bB X.K (CL c) f) (h : cH X CL b e δ (.ins c fs) δ1) (hl : fs.lookup f = some d) (hb : attributeBase e f X.env (eval e X.env) = eval e X.env := by rfl) :
   cH X CL b (.Attribute e f pos) δ d δ1 := fun H Z σ ts vs Q S k =>
 cZ (Jj dR hb) (h H Z σ ts vs _ S fun v H' Z' z s S' r => by
   cases r with
   | @ins a dx _ gs _ ha rf =>
     obtain ⟨w, hw, Uj⟩ := rf.get hl
     exact ⟨a, CL c, dx, gs, w, rfl, ha, hc, n, hw, k w H' Z' z s S' Uj⟩)
theorem DK (hc : wc X.K (CL c)) (n : bB X.K (CL c) f) (h : cg X CL b e δ (.sh (.ins c fs)) δ1) (hl : fs.lookup f = some d) (hb : attributeBase e f X.env (eval e X.env) = eval e X.env := by rfl) :
   cg X CL b (.Attribute e f pos) δ (.sh d) δ1 := fun H Z σ ts vs Q S k =>
 cZ (Jj dR hb) (h H Z σ ts vs _ S fun v H' Z' z s S' => by
   obtain ⟨fp, gp, _, r, _, _⟩ := S'.rep
   cases r with
   | cons r _ =>
     cases r with
     | sh r =>
       cases r with
       | @ins a dx _ gs _ ha rf =>
         obtain ⟨w, hw, Uj⟩ := rf.get hl
         exact ⟨a, CL c, dx, gs, w, rfl, S'.zh _ _ ha, hc, n, hw, k w H' Z' z s (S'.pop.push Uj)⟩)
theorem pR {fK : List Stmt} {a : Addr} {gs : List (Str × T)} {pa pb pc : Pos} (hc : wc X.K (CL c)) (n : bB X.K (CL c) f) (nm : Vn X i x) (h : cg X CL b e δ t δ1) (h1 : δ1[i]? = some (some (.pin a (.ins c gs)))) (hl : gs.length < 1000)
   (k : eO X CL b fK (δ1.set i (some (.pin a (.ins c (wG f t gs))))) DD) (hs : swapsWith e (some (.Attribute (.Name x pa) f pb)) pc.line X.env = pure false := by rfl) :
   eO X CL b (.Assign [.Attribute (.Name x pa) f pb] e pc :: fK) δ DD := dN fun H Z σ ts vs E S M =>
 uB (Ud (lz nm.hi nm.hv nm.hd nm.iD) dR hs) (h H Z σ ts vs _ S fun v H' Z' z s S' => by
   obtain ⟨dx, ws, hv, hx, hlen, S2⟩ := S'.setField (f := f) h1
   exact ⟨.ref a, hv, a, CL c, dx, ws, rfl, hx, hc, n, by rw [hlen]; exact hl, M.nx _ σ _ Z' z S2 k⟩)
end
noncomputable def Yb (K : PySem.W.Frag) (CL : Str -> Addr) {A : Type} (c : Str) (n : Nat) (arg : A -> List D) (Pre : A -> Prop) (res : A -> List (Str × T)) : Sp := fun vs H Q _ =>
 ∃ (W H0 : Hp) (a : A) (x dx : Addr) (us : List V), vs = .ref x :: us /\ H0 x = none /\ H0 dx = none /\ dx ≠ x /\ H = upd (upd H0 dx (.own x)) x (.ins (CL c) dx []) ∧
   aD W H0 /\ (∀ c o, H0 c = some o -> iH o = true -> W c = some o) /\ aC K CL W (arg a) us /\ (arg a).length + 1 = n /\ Pre a /\ lE CL W ∧
   ∀ H' W' fp, aD H0 H' -> aD W W' -> aD W' H' -> (∀ c o, W' c = some o -> W c = none -> H0 c = none) -> (∀ c o, H' c = some o -> iH o = true -> W' c = some o) →
     cK K CL H' W' (.ins c (res a)) (.ref x) fp -> fp.Nodup -> (∀ c ∈ fp, W' c = none /\ H0 c = none) -> Q .non H'
section
variable {X : Cx} {CL : Str -> Addr} {b : Bx} {δ δ1 δ2 : List (Option T)} {e o : Expr} {es : List Expr} {pos pp apos : Pos}
variable {A : Type} {k n : Nat} {f : Addr} {fd : FuncData} {ps : List Str} {arg : A -> List D} {Pre : A -> Prop} {x c m : Str}
theorem NC {res : A -> List (Str × T)} (a : A) (M : Mk X.K (CL c) f) (F : bV X.prog X.w X.K X.mg X.base gq k f fd ps (Yb X.K CL c n arg Pre res)) (hr : eN (k + 1) X.A) (hm : X.mg x = some (.ref (CL c))) (hb : Binds X.K fd ps [])
   (h : Sd X CL b (e :: es) δ (arg a) δ1) (hn : (arg a).length + 1 = n) (hp : Pre a) (hc : T.bf (res a) = true) (hg : Gl X x)
   (wA : (x == ("__debug__" : Str)) = false := by decide) (he : starEach (e :: es) X.env = (false, eval e X.env) :: starEach es X.env := by exact bW rfl) (sy : (backTo pos (starEach es X.env)).any (·.1) = false := by rfl) :
   cg X CL b (.Call (.Name x pp) (e :: es) [] pos) δ (.ins c (res a)) δ1 := fun H Z σ ts vs Q S kk =>
 cZ (FH M F hr hg hm hb .nil FL Ng wA he sy) (h H Z σ ts vs _ S fun us H1 Z1 z1 k1 S1 r x dx hx Yc ne => by
   rw [afQ]
   refine ⟨H1, H1, a, x, dx, us, rfl, hx, Yc, ne, rfl, .refl _, fun _ _ q _ => q, r, hn, hp, S1.G8, fun H' W' fp hh ww wh nw tp rt nd own => ⟨rfl, ?_⟩⟩
   obtain ⟨Z', z', S'⟩ := S1.back hh S1.zh ww wh nw tp rt nd own (.inr (by rw [T.clean]; exact hc))
   exact kk _ H' Z' (z1.trans z') (k1.trans hh) S')
end
theorem FT {P : Program} {w : World} {K : PySem.W.Frag} {mg : Str -> Option Value} {base : Heap} {CL : Str -> Addr} {x qual c : Str} {st : Stmt} {f : Addr} {fd : FuncData} {N ps : List Str} {k : Nat} {A : Type} {arg : A -> List D} {Pre : A -> Prop} {res : A -> List (Str × T)} (F : iY K x qual st f fd) (S : aL N ps (ao st))
   (hb : ∀ (dI : Value) (Ar : Around) (outer : List Env) (s : Shared) (H : Hp) (E : XK) (b : Bx) (a : A) (y : Addr), eN k (Ar.deeper (envOfC qual (ao st) s.heap.objs.size f dI)) -> Pre a →
     eO (uy gq P w K mg base N qual (ao st) f dI Ar outer s H E).Mz CL b (fu st) (some (.pin y (.ins c [])) :: ((arg a).map (fun d => some (T.sh d)) ++ List.replicate (N.length - ((arg a).length + 1)) none))
       { nx := fun δ => δ[0]? = some (some (.pin y (.ins c (res a)))), rt := fun _ _ => False }) :
   bV P w K mg base gq (k + 1) f fd ps (Yb K CL c ps.length arg Pre res) := by
 refine F.ok S (fun vs H Q E h => ?_) (fun dI Ar outer s H vs Q E hr h => ?_)
 . obtain ⟨W, H0, a, y, dx, us, rfl, _, _, _, _, _, _, r, hl, _⟩ := h
   rw [afI, ← r.length]; exact hl
 . obtain ⟨W, H0, a, y, dx, us, rfl, hy, Yc, ne, rfl, wh, tp, r, hl, hp, tb, kk⟩ := h
   have old : ∀ {d : Addr} {o : HO}, H0 d = some o -> upd (upd H0 dx (.own y)) y (.ins (CL c) dx []) d = some o := fun {d o} q => by
     rw [az (aE q hy), az (aE q Yc)]; exact q
   refine ⟨_, Nh, hb dI Ar outer s _ E ⟨H0, W⟩ a y hr hp _ W _ [] [] _ ⟨⟨[y] ++ [], [], ?_, .nil, by simp, fun d hd => ?_⟩, fun d o q => old q, .refl _, fun d o q => old (wh d o q), fun d o q z => ?_, fun d o q i => ?_, tb⟩ ⟨fun δ' σ' H' Z' s' S' e => ?_, fun t v H' Z' δ' σ' s' S' e => e.elim, fun _ _ _ _ _ _ e => e.elim, fun _ _ _ _ _ _ e => e.elim⟩⟩
   . unfold L2.start
     rw [afx, afI, afF, ← r.length]
     exact .cons (.pin (.ins aN .nil)) (iI _ r)
   . have : d = y := by simpa using hd
     subst this
     exact ⟨Uv wh hy, hy⟩
   . have q' : W d = some o := q
     have z' : W d = none := z
     rw [q'] at z'; cases z'
   . by_cases h1 : d = y
     . subst h1; rw [aN] at q; cases q; cases i
     . rw [az h1] at q
       by_cases h2 : d = dx
       . subst h2; rw [aN] at q; cases q; cases i
       . rw [az h2] at q; exact tp d o q i
   . obtain ⟨fp, gp, eE, _, nd, own⟩ := S'.rep
     obtain ⟨v, f1, f2, f3, hv, sC, rt, _, _⟩ := eE.get e
     subst sC
     cases rt with
     | pin rt =>
       refine kk H' Z' f2 S'.bh S'.zz S'.zh S'.new S'.tp rt ?_ fun d hd => own d (by simp [hd])
       have h1 := (afZ.mp nd).1
       exact (afZ.mp (afZ.mp h1).2.1).1
section
variable {X : Cx} {CL : Str -> Addr} {b : Bx} {δ δ1 δ2 : List (Option T)} {e e1 e2 : Expr} {es : List Expr} {t : T} {d : D} {ds Hi : List D} {x : Str} {pos pp : Pos} {DD : cW} {i : Nat} {fK body : List Stmt}
theorem FU (g : Gx X) (P : Nat -> List (Option T) -> Prop) (m : Nat) (h0 : P m δ)
   (hs : ∀ m δ, P m δ -> ∃ p δ1, pI X CL b e δ p δ1 ∧
     (p = true -> eO X CL b body δ1 { nx := fun δ2 => ∃ m', m' < m /\ P m' δ2, rt := DD.rt, bk := fun δ2 => eO X CL b fK δ2 DD, ct := fun δ2 => ∃ m', m' < m /\ P m' δ2 }) /\ (p = false -> eO X CL b fK δ1 DD)) :
   eO X CL b (.While e body [] pos :: fK) δ DD := dN fun H Z σ ts vs E S M =>
 uB (Jd (by rw [g.xe]; exact PassesOwn.never) Uu Nh) (by
   refine ⟨fun m σ H => ∃ Z2 δ2, aD Z Z2 /\ bX X.K CL b H Z2 δ2 σ ts vs /\ P m δ2, ⟨m, Z, δ, .refl _, S, h0⟩, ?_⟩
   rintro m σ H ⟨Z2, δ2, z2, S2, p2⟩
   obtain ⟨p, δ3, ht, h1, h2⟩ := hs m δ2 p2
   refine ht H Z2 σ ts vs _ S2 fun H3 Z3 z3 k3 S3 => ?_
   cases p with
   | true =>
     rw [afa rfl]
     refine ⟨fun σ' H' => ∃ m', m' < m /\ ∃ Z2 δ2, aD Z Z2 /\ bX X.K CL b H' Z2 δ2 σ' ts vs /\ P m' δ2, fun σ' H' q => q, ?_⟩
     refine h1 rfl H3 Z3 σ ts vs _ S3 ⟨fun δ' σ' H' Z' s' S' ⟨m', l, q⟩ => ⟨m', l, Z', δ', z2.trans (z3.trans s'), S', q⟩, fun t v H' Z' δ' σ' s' S' q => M.rt t v H' Z' δ' σ' (z2.trans (z3.trans s')) S' q,
       fun δ' σ' H' Z' s' S' q => M.nx δ' σ' H' Z' (z2.trans (z3.trans s')) S' q, fun δ' σ' H' Z' s' S' ⟨m', l, q⟩ => ⟨m', l, Z', δ', z2.trans (z3.trans s'), S', q⟩⟩
   | false =>
     rw [ae9 (by decide)]
     exact M.nx δ3 σ H3 Z3 (z2.trans z3) S3 (h2 rfl))
noncomputable def Yd (K : PySem.W.Frag) : R2 := fun x y H Q => ∃ l b xs zs, x = .ref l /\ y = .ref b /\ kh K H l xs /\ kh K H b zs /\ xs.length + zs.length <= sizeLine /\ ∀ p, H p = none -> Q (.ref p) (upd H p (.lst (xs ++ zs)))
theorem NF : qV X (binaryOp .Add) (Yd X.K) := by
 intro pins s σ H x y v u Q I rx ry h
 obtain ⟨l, b, xs, zs, rfl, rfl, hH, hB, hz, q⟩ := h
 cases rx
 cases ry
 obtain ⟨its, r, pl, _⟩ := I.list hH
 obtain ⟨U3, r2, pl2, _⟩ := I.list hB
 have e1 := r.length
 have e2 := r2.length
 obtain ⟨⟨c1, dd, da1, sl⟩, ho, hc, n, hd⟩ := pl.isList
 obtain ⟨⟨c2, dd2, da2, sl2⟩, ho2, U4, n2, hd2⟩ := pl2.isList
 cases hc; cases U4; cases hd; cases hd2
 refine concat_meets ⟨_, ho, rfl⟩ ⟨_, ho2, rfl⟩ noFill_list_add seq_list_add PySem.F.slot_list_add PySem.F.entry_list_add (PySem.F.args_list_add_2 (Value.ref l) (Value.ref b))
   (list_addW l b its.toArray U3.toArray n n2 dd dd2 sl sl2 (by rw [afz, afz]; omega)) ⟨ho, ho2, ?_⟩
 have ea : its.toArray ++ U3.toArray = (its ++ U3).toArray := by simp
 rw [ea]
 exact ⟨.ref _, _, I.XI (t' := s.toks) (r.append r2) (by rw [afy]; omega), rfl, q _ I.fresh⟩
theorem aC.app {K : PySem.W.Frag} {Z : Hp} {ds Hi : List L3.D} {vs vs2 : List V} (h : aC K CL Z ds vs) (r2 : aC K CL Z Hi vs2) : aC K CL Z (ds ++ Hi) (vs ++ vs2) :=
 aC.ind (P := fun ds vs => aC K CL Z (ds ++ Hi) (vs ++ vs2)) r2 (fun r _ i => .cons r i) h
theorem tO (h1 : cH X CL b e1 δ (.lst ds) δ1) (h2 : cH X CL b e2 δ1 (.lst Hi) δ2) (i1 : D.bN ds = true) (i2 : D.bN Hi = true) (hz : ds.length + Hi.length <= sizeLine) :
   cg X CL b (.BinOp e1 .Add e2 pos) δ (.lst ((ds ++ Hi).map T.sh)) δ2 := fun H Z σ ts vs Q S k =>
 cZ (Jf NF dR dR) (h1 H Z σ ts vs _ S fun v1 H1 Z1 z1 k1 S1 r1 => h2 H1 Z1 σ ts vs _ S1 fun v2 H2 Z2 z2 k2 S2 r2 => by
   have UH := r1.mono k2
   cases UH with
   | lst hq1 WY =>
     cases r2 with
     | lst hq2 rr2 =>
       refine ⟨_, _, _, _, rfl, rfl, hq1, hq2, by rw [← WY.length, ← rr2.length]; exact hz, fun p hp => ?_⟩
       have rc := aC.app (aC.jg S2.tp i1 WY) (aC.jg S2.tp i2 rr2)
       obtain ⟨c, S4⟩ := (bX.sE rc S2).oF (g0 := []) (by simp [rc.length, WY.length, rr2.length]) hp
       exact k _ _ _ (z1.trans z2) (k1.trans (k2.trans c)) S4)
theorem boot_str : bootBuiltins "str" = some (.type "str") := by decide +kernel
theorem FW {i : Int} (hm : X.mg "str" = none) (hg : Gl X "str") (h : cH X CL b e δ (.int i) δ1) (hi : i.natAbs.log2 < 1920) (hs : starEach [e] X.env = (false, eval e X.env) :: starEach [] X.env := by exact bW rfl) :
   cg X CL b (.Call (.Name "str" pp) [e] [] pos) δ (.sh (.str (toString i))) δ1 := fun H Z σ ts vs Q S k =>
 cZ (jK yj hg hm boot_str (cD dR e9 hs) (he := hs)) (h H Z σ ts vs _ S fun v H1 Z1 z1 k1 S1 r => by
   rw [r.sc rfl]
   exact ⟨i, rfl, hi, k _ H1 Z1 z1 k1 (S1.push (.str _))⟩)
end
structure Fm (X : Cx) (CL : Str -> Addr) (x : Str) (k n : Nat) {A : Type} (arg : A -> List D) (Pre : A -> Prop) (res : A -> List (Str × T)) : Prop where
 ex : ∃ f fd ps, Mk X.K (CL x) f /\ bV X.prog X.w X.K X.mg X.base gq k f fd ps (Yb X.K CL x n arg Pre res) /\ X.mg x = some (.ref (CL x)) /\ Binds X.K fd ps []
 room : eN (k + 1) X.A
noncomputable def JZ (N : List Str) (y : Addr) (c : Str) (ds : List D) : List (Option T) := some (.pin y (.ins c [])) :: (ds.map (fun d => some (T.sh d)) ++ List.replicate (N.length - (ds.length + 1)) none)
section
variable {X : Cx} {CL : Str -> Addr} {b : Bx} {δ δ1 δ2 : List (Option T)} {e e1 e2 o : Expr} {es : List Expr} {d : L3.D} {t : T} {i : Nat} {x c m : Str} {pos pp apos : Pos} {D : cW} {fK : List Stmt} {ds : List L3.D}
theorem mk_ {k n : Nat} {A : Type} {arg : A -> List L3.D} {Pre : A -> Prop} {res : A -> List (Str × T)} (a : A) (F : Fm X CL x k n arg Pre res) (hg : Gl X x) (h : Sd X CL b (e :: es) δ (arg a) δ1) (hp : Pre a) (hc : T.bf (res a) = true) (hn : (arg a).length + 1 = n := by rfl)
   (wA : (x == ("__debug__" : Str)) = false := by decide) (he : starEach (e :: es) X.env = (false, eval e X.env) :: starEach es X.env := by exact bW rfl) (sy : (backTo pos (starEach es X.env)).any (·.1) = false := by rfl) :
   cg X CL b (.Call (.Name x pp) (e :: es) [] pos) δ (.ins x (res a)) δ1 := by
 obtain ⟨f, fd, ps, M, F1, m, b⟩ := F.ex
 exact NC a M F1 F.room m b h hn hp hc hg wA he sy
end
theorem pS {α : Type} {f : Str} {d : α} {fs : List (Str × α)} : ((f, d) :: fs).lookup f = some d := by
 rw [afL, agz]
theorem gA {α : Type} {f g : Str} {d : α} {fs : List (Str × α)} (h : (f == g) = false) : ((g, d) :: fs).lookup f = fs.lookup f := by
 rw [afL, h]
theorem fS {f : Str} {t : T} : wG f t [] = [(f, t)] := rfl
theorem bK {f g : Str} {t u : T} {fs : List (Str × T)} (h : ¬ g = f) : wG f t ((g, u) :: fs) = (g, u) :: wG f t fs := by
 rw [wG, ae9 h]
section
variable {X : Cx} {CL : Str -> Addr} {b : Bx} {δ δ1 δ2 : List (Option T)} {e1 e2 : Expr} {x : Str} {pos : Pos} {d : L3.D}
theorem pT (x : Int) : ∀ l : List Int, R5 (.int x) (l.map V.int) = decide (x ∈ l)
 | [] => by simp [R5]
 | y :: l => by
   have ih := pT x l
   unfold R5 at ih ⊢
   rw [afx, ago, ih]
   by_cases h : y = x
   . subst h; simp [Jr]
   . have h' : ¬ x = y := fun e => h e.symm
     simp [Jr, h, h']
theorem aC.ints {K : PySem.W.Frag} {Z : Hp} : ∀ {l : List Int} {vs : List V}, aC K CL Z (l.map D.int) vs -> vs = l.map V.int
 | [], _, r => by
   have r' : aC K CL Z [] _ := r
   cases r'; rfl
 | y :: l, _, r => by
   have r' : aC K CL Z (D.int y :: l.map D.int) _ := r
   cases r' with
   | cons r1 r2 => rw [r1.sc rfl, aC.ints r2]; rfl
theorem fU : ∀ l : List Int, (l.map V.int).all n8 = true
 | [] => rfl
 | y :: l => by rw [afx, ag5, fU l]; rfl
noncomputable def uH (d : L3.D) : Option (List L3.D) := match d with
 | .lst ds => some ds
 | .tup ds => some ds
 | _ => none
theorem aZ.uH {K : PySem.W.Frag} {Z : Hp} {v : V} {ds : List L3.D} (r : aZ K CL Z d v) (h : L3.uH d = some ds) : ∃ p us, v = .ref p /\ (kh K Z p us \/ sX K Z p us) /\ aC K CL Z ds us := by
 cases r with
 | tup hq rr => cases h; exact ⟨_, _, rfl, .inr hq, rr⟩
 | lst hq rr => cases h; exact ⟨_, _, rfl, .inl hq, rr⟩
 | non => cases h
 | bl => cases h
 | int => cases h
 | str => cases h
 | any => cases h
 | val => cases h
 | jL => cases h
 | ins => cases h
theorem mK {l : List Int} {i : Int} (h1 : cH X CL b e1 δ (.int i) δ1) (h2 : cH X CL b e2 δ1 d δ2) (hd : L3.uH d = some (l.map .int)) (hm : behindInMarks .In e2 = false) :
   pI X CL b (.Compare e1 [.In] [e2] pos) δ (decide (i ∈ l)) δ2 /\ cg X CL b (.Compare e1 [.In] [e2] pos) δ (.sh (.bl (decide (i ∈ l)))) δ2 := by
 constructor
 . intro H Z σ ts vs Q S k
   refine BI (mF mH dR dR hm) (h1 H Z σ ts vs _ S fun v1 H1 Z1 z1 k1 S1 r1 => h2 H1 Z1 σ ts vs _ S1 fun v2 H2 Z2 z2 k2 S2 r2 => ?_)
   obtain ⟨p, us, rfl, hq, rr⟩ := aZ.uH r2 hd
   have e := rr.ints
   subst e
   refine ⟨_, _, rfl, hq, by rw [r1.sc rfl]; rfl, fU l, _, rfl, ?_⟩
   rw [ae9 afr, r1.sc rfl, pT]
   exact k H2 Z2 (z1.trans z2) (k1.trans k2) S2
 . intro H Z σ ts vs Q S k
   refine cZ (mE mH dR dR hm) (h1 H Z σ ts vs _ S fun v1 H1 Z1 z1 k1 S1 r1 => h2 H1 Z1 σ ts vs _ S1 fun v2 H2 Z2 z2 k2 S2 r2 => ?_)
   obtain ⟨p, us, rfl, hq, rr⟩ := aZ.uH r2 hd
   have e := rr.ints
   subst e
   refine ⟨_, _, rfl, hq, by rw [r1.sc rfl]; rfl, fU l, ?_⟩
   rw [ae9 afr, r1.sc rfl, pT]
   exact k _ H2 Z2 (z1.trans z2) (k1.trans k2) (S2.push (.bl _))
theorem yz {l : List Int} {i : Int} (h1 : cH X CL b e1 δ (.int i) δ1) (h2 : cH X CL b e2 δ1 d δ2) (hd : L3.uH d = some (l.map .int)) (hm : behindInMarks .NotIn e2 = false) :
   pI X CL b (.Compare e1 [.NotIn] [e2] pos) δ (!decide (i ∈ l)) δ2 /\ cg X CL b (.Compare e1 [.NotIn] [e2] pos) δ (.sh (.bl (!decide (i ∈ l)))) δ2 := by
 constructor
 . intro H Z σ ts vs Q S k
   refine BI (mF gU dR dR hm) (h1 H Z σ ts vs _ S fun v1 H1 Z1 z1 k1 S1 r1 => h2 H1 Z1 σ ts vs _ S1 fun v2 H2 Z2 z2 k2 S2 r2 => ?_)
   obtain ⟨p, us, rfl, hq, rr⟩ := aZ.uH r2 hd
   have e := rr.ints
   subst e
   refine ⟨_, _, rfl, hq, by rw [r1.sc rfl]; rfl, fU l, _, rfl, ?_⟩
   rw [afa rfl, r1.sc rfl, pT]
   exact k H2 Z2 (z1.trans z2) (k1.trans k2) S2
 . intro H Z σ ts vs Q S k
   refine cZ (mE gU dR dR hm) (h1 H Z σ ts vs _ S fun v1 H1 Z1 z1 k1 S1 r1 => h2 H1 Z1 σ ts vs _ S1 fun v2 H2 Z2 z2 k2 S2 r2 => ?_)
   obtain ⟨p, us, rfl, hq, rr⟩ := aZ.uH r2 hd
   have e := rr.ints
   subst e
   refine ⟨_, _, rfl, hq, by rw [r1.sc rfl]; rfl, fU l, ?_⟩
   rw [afa rfl, r1.sc rfl, pT]
   exact k _ H2 Z2 (z1.trans z2) (k1.trans k2) (S2.push (.bl _))
theorem yC {l : List Str} (h1 : cH X CL b e1 δ (.str x) δ1) (h2 : cH X CL b e2 δ1 d δ2) (hd : L3.uH d = some (l.map .str)) (hm : behindInMarks .NotIn e2 = false) :
   pI X CL b (.Compare e1 [.NotIn] [e2] pos) δ (!decide (x ∈ l)) δ2 /\ cg X CL b (.Compare e1 [.NotIn] [e2] pos) δ (.sh (.bl (!decide (x ∈ l)))) δ2 := by
 constructor
 . intro H Z σ ts vs Q S k
   refine BI (mF gU dR dR hm) (h1 H Z σ ts vs _ S fun v1 H1 Z1 z1 k1 S1 r1 => h2 H1 Z1 σ ts vs _ S1 fun v2 H2 Z2 z2 k2 S2 r2 => ?_)
   obtain ⟨p, us, rfl, hq, rr⟩ := aZ.uH r2 hd
   have e := rr.strs
   subst e
   refine ⟨_, _, rfl, hq, by rw [r1.sc rfl]; rfl, fQ l, _, rfl, ?_⟩
   rw [afa rfl, r1.sc rfl, pQ]
   exact k H2 Z2 (z1.trans z2) (k1.trans k2) S2
 . intro H Z σ ts vs Q S k
   refine cZ (mE gU dR dR hm) (h1 H Z σ ts vs _ S fun v1 H1 Z1 z1 k1 S1 r1 => h2 H1 Z1 σ ts vs _ S1 fun v2 H2 Z2 z2 k2 S2 r2 => ?_)
   obtain ⟨p, us, rfl, hq, rr⟩ := aZ.uH r2 hd
   have e := rr.strs
   subst e
   refine ⟨_, _, rfl, hq, by rw [r1.sc rfl]; rfl, fQ l, ?_⟩
   rw [afa rfl, r1.sc rfl, pQ]
   exact k _ H2 Z2 (z1.trans z2) (k1.trans k2) (S2.push (.bl _))
end
section
variable {X : Cx} {CL : Str -> Addr} {b : Bx} {δ δ1 δ2 : List (Option T)} {e : Expr} {es : List Expr} {d : L3.D} {ds : List L3.D} {t : T} {i : Nat} {x : Str} {pos pp : Pos} {DD : cW} {fK : List Stmt}
theorem b9 : DG X CL b [] δ (([] : List L3.D).map T.sh) δ := dD
theorem aH (h1 : cg X CL b e δ (.sh d) δ1) (h2 : DG X CL b es δ1 (ds.map T.sh) δ2) (hs : starEach (e :: es) X.env = (false, eval e X.env) :: starEach es X.env := by exact bW rfl) : DG X CL b (e :: es) δ ((d :: ds).map T.sh) δ2 := fz h1 h2 hs
theorem i9 (h : DG X CL b es δ (ds.map T.sh) δ1) (hl : ds.length <= sizeLine) : cg X CL b (.List es pos) δ (.lst (ds.map T.sh)) δ1 := dF h (by simpa using hl)
theorem jP (l : List Str) : D.bN (l.map L3.D.str) = true := iN (fun _ => rfl) _
theorem pU (h : cg X CL b e δ (.lst (ds.map T.sh)) δ1) : cg X CL b e δ (.sh (.lst ds)) δ1 := by
 have := DH h
 rwa [T.dH, gW] at this
theorem NK (h : DD.bk δ) : eO X CL b (.Break pos :: fK) δ DD := dN (JK h)
theorem xO {d2 : L3.D} (h : cH X CL b e δ d δ1) (q : d = d2) : cH X CL b e δ d2 δ1 := q ▸ h
theorem aV {t2 : T} (h : cg X CL b e δ t δ1) (q : t = t2) : cg X CL b e δ t2 δ1 := q ▸ h
end
structure yE (Z H Z' H' : Hp) : Prop where
 z : aD Z Z'
 h : aD H H'
 zh : aD Z' H'
 new : ∀ a o, Z' a = some o -> Z a = none -> H a = none
 tp : ∀ a o, H' a = some o -> iH o = true -> Z' a = some o
theorem yE.refl {Z H : Hp} (zh : aD Z H) (tp : ∀ a o, H a = some o -> iH o = true -> Z a = some o) : yE Z H Z H := ⟨.refl _, .refl _, zh, fun a o q z => (by rw [q] at z; cases z), tp⟩
theorem yE.tup {Z H : Hp} {p : Addr} {xs : List V} (zh : aD Z H) (tp : ∀ a o, H a = some o -> iH o = true -> Z a = some o) (hp : H p = none) : yE Z H (upd Z p (.tup xs)) (upd H p (.tup xs)) := by
 have zp : Z p = none := zh.free hp
 refine ⟨aD.upd zp, aD.upd hp, fun a o q => ?_, fun a o q z => ?_, fun a o q i => ?_⟩
 . by_cases e : a = p
   . subst e; rw [aN] at q ⊢; exact q
   . rw [az e] at q ⊢; exact zh a o q
 . by_cases e : a = p
   . subst e; exact hp
   . rw [az e, z] at q; cases q
 . by_cases e : a = p
   . subst e; rw [aN] at q ⊢; exact q
   . rw [az e] at q ⊢; exact tp a o q i
section
variable {K : PySem.W.Frag} {CL : Str -> Addr} {b : Bx} {H H' Z Z' : Hp} {δ : List (Option T)} {σ : L2.St} {ts : List T} {vs : List V}
theorem bX.grow (S : bX K CL b H Z δ σ ts vs) (g : yE Z H Z' H') : bX K CL b H' Z' δ σ ts vs := by
 obtain ⟨fp, gp, e, r, nd, k⟩ := S.rep
 have old : ∀ a ∈ fp ++ gp, ∃ o, H a = some o := fun a ha => (afm.mp ha).elim (e.there a) (r.there a)
 have keep : ∀ a ∈ fp ++ gp, H' a = H a := fun a ha => by
   obtain ⟨o, q⟩ := old a ha
   rw [q]; exact g.h a o q
 refine ⟨⟨fp, gp, e.mono g.z (fun a ha => keep a (afl _ ha)), r.mono g.z (fun a ha => keep a (ae8 _ ha)), nd, fun a ha => ⟨?_, (k a ha).2⟩⟩, S.bh.trans g.h, S.zz.trans g.z, g.zh, fun a o q z => ?_, g.tp, S.tab⟩
 . cases q : Z' a with
   | none => rfl
   | some o =>
     obtain ⟨u, hu⟩ := old a ha
     rw [g.new a o q (k a ha).1] at hu; cases hu
 . cases e2 : Z a with
   | none => exact S.bh.free (g.new a o q e2)
   | some u =>
     have := g.z a u e2
     rw [q] at this; cases this
     exact S.new a o e2 z
noncomputable def FY (δ : List (Option T)) : List Nat -> List D -> List (Option T)
 | i :: is, d :: ds => FY (δ.set i (some (.sh d))) is ds
 | _, _ => δ
noncomputable def uI (σ : L2.St) : List Nat -> List V -> L2.St
 | i :: is, v :: vs => uI (σ.set i (some v)) is vs
 | _, _ => σ
theorem bX.sets {ps : List D} {ys : List V} : ∀ {is : List Nat} {δ : List (Option T)} {σ : L2.St}, bX K CL b H Z δ σ ts vs -> aC K CL Z ps ys -> (∀ i ∈ is, i < δ.length) -> bX K CL b H Z (FY δ is ps) (uI σ is ys) ts vs := by
 intro is
 induction is generalizing ps ys with
 | nil =>
   intro δ σ S r _
   cases ps <;> cases ys <;> exact S
 | cons i is ih =>
   intro δ σ S r hl
   cases r with
   | nil => exact S
   | cons r rr => exact ih ((S.push r).set (hl i afb)) rr (fun j hj => by rw [List.length_set]; exact hl j (afd _ hj))
end
section
variable {X : Cx} {CL : Str -> Addr} {b : Bx} {δ δ1 : List (Option T)} {ds : List D} {iter tg : Expr} {pos : Pos}
structure yF (X : Cx) (CL : Str -> Addr) (b : Bx) (δ1 : List (Option T)) (σ : L2.St) (ts : List T) (vs : List V) (Z H : Hp) (ds : List D) (J : It) (H1 : Hp) : Prop where
 ex : ∃ Z1, aD Z Z1 /\ aD H H1 /\ bX X.K CL b H1 Z1 δ1 σ ts vs /\ (∀ i H2, aD Z1 H2 -> i < ds.length -> J.go i H2) ∧
   (∀ i Z2 H2 x H', aD Z1 Z2 -> aD Z2 H2 -> (∀ a o, H2 a = some o -> iH o = true -> Z2 a = some o) -> i < ds.length -> J.R0 i H2 x H' -> ∃ Z3 d, ds[i]? = some d /\ yE Z2 H2 Z3 H' /\ aZ X.K CL Z3 d x) /\ (∀ H2, aD Z1 H2 -> J.stop ds.length H2)
noncomputable def Sn (X : Cx) (CL : Str -> Addr) (b : Bx) (tg e : Expr) (δ : List (Option T)) (ds : List D) (δ1 : List (Option T)) : Prop :=
 ∃ wi, PI X tg e wi /\ ∀ (H Z : Hp) (σ : L2.St) (ts : List T) (vs : List V) (R : It -> Hp -> Prop), bX X.K CL b H Z δ σ ts vs -> (∀ J H1, yF X CL b δ1 σ ts vs Z H ds J H1 -> R J H1) -> wi σ H R
theorem Sq (h : JN X CL b tg iter δ ds δ1) : Sn X CL b tg iter δ ds δ1 := by
 obtain ⟨wi, pi, hw⟩ := h
 refine ⟨wi, pi, fun H Z σ ts vs R S k => hw H Z σ ts vs R S fun J H1 zz => ?_⟩
 obtain ⟨Z1, us, z1, k1, S1, rr, go, yl, st⟩ := zz
 refine k J H1 ⟨Z1, z1, k1, S1, go, fun i Z2 H2 x H' s1 s2 tp hi hy => ?_, st⟩
 obtain ⟨e, hu⟩ := yl i H2 x H' (s1.trans s2) hi hy
 subst e
 obtain ⟨d, hd, rd⟩ := rr.JA hu
 exact ⟨Z2, d, hd, .refl s2 tp, rd.mono s1⟩
noncomputable def Ye (X : Cx) (CL : Str -> Addr) (tg : Expr) (is : List Nat) (parts : D -> Option (List D)) : Prop :=
 ∃ t : TG, PG X tg t /\ ∀ (Z H : Hp) (d : D) (ps : List D) (x : V) (σ : L2.St) (Q : L2.St -> Hp -> Prop), aD Z H -> aZ X.K CL Z d x -> parts d = some ps -> (∀ ys, aC X.K CL Z ps ys -> Q (uI σ is ys) H) -> t x σ H Q
noncomputable def part1 (d : D) : Option (List D) := some [d]
noncomputable def part2 : D -> Option (List D)
 | .tup [a, c] => some [a, c]
 | _ => none
theorem Hj {d : D} {ps : List D} (h : part2 d = some ps) : ∃ d1 d2, d = .tup [d1, d2] /\ ps = [d1, d2] := by
 unfold part2 at h
 split at h
 . cases h; exact ⟨_, _, rfl, rfl⟩
 . cases h
theorem DL {K : PySem.W.Frag} {i j : Nat} {Z H : Hp} {d : D} {ps : List D} {x : V} {σ : L2.St} {Q : L2.St -> Hp -> Prop} (zh : aD Z H) (r : aZ K CL Z d x) (e : part2 d = some ps) (k : ∀ ys, aC K CL Z ps ys -> Q (uI σ [i, j] ys) H) : TN K 2 (Bm (sq i) (Bm (sq j) TL)) x σ H Q := by
 obtain ⟨d1, d2, rfl, rfl⟩ := Hj e
 cases r with
 | tup hq rr =>
   cases rr with
   | cons r1 rr =>
     cases rr with
     | cons r2 rr =>
       cases rr
       exact ⟨_, _, rfl, aD.MB zh hq, rfl, _, _, rfl, _, _, rfl, rfl, k _ (.cons r1 (.cons r2 .nil))⟩
theorem J1 {i : Nat} {x : Str} {px : Pos} (hN : X.N.Nodup) (n : Ln X i x) : Ye X CL (.Name x px) [i] part1 :=
 ⟨sq i, pJ hN n.hi n.loc n.hf, fun Z H d ps x σ Q zh r e k => by
   cases e
   exact k [x] (.cons r .nil)⟩
theorem NP {i j k : Nat} {x y : Str} {px py pt : Pos} (hN : X.N.Nodup) (hc : X.calm = true) (n : Ln X i x) (m : Ln X j y) (hs : (assignEach [.Name x px, .Name y py] X.env).map (·.2) = assign (.Name x px) X.env :: (assignEach [.Name y py] X.env).map (·.2) := by rfl) (GQ : (assignEach [.Name y py] X.env).map (·.2) = assign (.Name y py) X.env :: (assignEach [] X.env).map (·.2) := by rfl)
   (hn : (assignEach [.Name x px, .Name y py] X.env).length = 2 := by rfl) (Jc : (assignEach [.Name x px, .Name y py] X.env).findIdx? (·.1) = none := by rfl) : Ye X CL (.Tuple [.Name x px, .Name y py] k pt) [i, j] part2 :=
 ⟨TN X.K 2 (Bm (sq i) (Bm (sq j) TL)), TQ hc (Bo (pJ hN n.hi n.loc n.hf) (Bo (pJ hN m.hi m.loc m.hf) MT GQ) hs) hn Jc, fun Z H d ps x σ Q zh r e k => DL zh r e k⟩
theorem NQ {D : cW} {fK : List Stmt} (is : List Nat) (parts : L3.D -> Option (List L3.D)) (P : Nat -> List (Option T) -> Prop) (h : Sn X CL b tg iter δ ds δ1) (ht : Ye X CL tg is parts) (h0 : P 0 δ1) (hl : ∀ j δ, P j δ -> ∀ i ∈ is, i < δ.length)
   (hs : ∀ j d δ, ds[j]? = some d -> P j δ -> ∃ ps, parts d = some ps /\ eO X CL b fK (FY δ is ps) { nx := P (j + 1), rt := D.rt, bk := D.nx, ct := P (j + 1) }) (hd : ∀ δ, P ds.length δ -> D.nx δ)
   (hp : PassesOwn (model X.prog X.w) X.A X.env X.xe) (hc : X.calm = true) (hq : ∀ x, foldedSetIterable iter X.env x = pure x := by intro _; rfl) :
   Nj X CL b (.For tg iter fK [] pos) δ D := fun H Z σ ts vs E S M => by
 obtain ⟨wi, pi, hw⟩ := h
 obtain ⟨t, pg, ht⟩ := ht
 refine uB (Je hp hc pi pg Nh hq) (hw H Z σ ts vs _ S fun J H1 zz => ?_)
 obtain ⟨Z1, z1, k1, S1, go, yl, st⟩ := zz
 refine ⟨fun j m σ H2 => m = ds.length - j /\ j <= ds.length /\ ∃ Z2 δ2, aD Z1 Z2 /\ bX X.K CL b H2 Z2 δ2 σ ts vs /\ P j δ2, ⟨_, rfl, afG _, Z1, δ1, .refl _, S1, h0⟩, ?_⟩
 rintro j m σ H2 ⟨rfl, hj, Z2, δ2, s, S2, p2⟩
 by_cases n9 : j < ds.length
 . refine .inr ⟨go j H2 (s.trans S2.zh) n9, fun σ' H' => ∃ Z2 δ2, aD Z1 Z2 /\ bX X.K CL b H' Z2 δ2 σ' ts vs /\ P (j + 1) δ2, fun σ' H' h => ⟨ds.length - (j + 1), by omega, rfl, n9, h⟩, fun y H' hy => ?_⟩
   obtain ⟨Z3, d, ML, gr, rd⟩ := yl j Z2 H2 y H' s S2.zh S2.tp n9 hy
   obtain ⟨ps, hps, hb⟩ := hs j d δ2 ML p2
   have S3 := S2.grow gr
   refine ht Z3 H' d ps y σ _ S3.zh rd hps fun ys ZQ => ?_
   have S4 := S3.sets (is := is) ZQ (hl j δ2 p2)
   have s3 := s.trans gr.z
   exact hb _ Z3 _ ts vs _ S4 ⟨fun δ' σ' H' Z' s' S' k => ⟨Z', δ', s3.trans s', S', k⟩, fun t v H' Z' δ' σ' s' S' k => M.rt t v H' Z' δ' σ' (z1.trans (s3.trans s')) S' k, fun δ' σ' H' Z' s' S' k => M.nx δ' σ' H' Z' (z1.trans (s3.trans s')) S' k, fun δ' σ' H' Z' s' S' k => ⟨Z', δ', s3.trans s', S', k⟩⟩
 . have e : j = ds.length := by omega
   subst e
   exact .inl ⟨st H2 (s.trans S2.zh), M.nx δ2 σ H2 Z2 (z1.trans s) S2 (hd δ2 p2)⟩
theorem U5 {D : cW} {body fK : List Stmt} {is : List Nat} {parts : L3.D -> Option (List L3.D)} (g : Gx X) (ht : Ye X CL tg is parts) (P : Nat -> List (Option T) -> Prop) (h : Sn X CL b tg iter δ ds δ1) (h0 : P 0 δ1) (hl : ∀ j δ, P j δ -> ∀ i ∈ is, i < δ.length)
   (hs : ∀ j d δ, ds[j]? = some d -> P j δ -> ∃ ps, parts d = some ps /\ eO X CL b body (FY δ is ps) { nx := P (j + 1), rt := D.rt, bk := fun δ2 => eO X CL b fK δ2 D, ct := P (j + 1) }) (hd : ∀ δ, P ds.length δ -> eO X CL b fK δ D) (hq : ∀ x, foldedSetIterable iter X.env x = pure x := by intro _; rfl) :
   eO X CL b (.For tg iter body [] pos :: fK) δ D :=
 dN (NQ (D := { D with nx := fun δ1 => eO X CL b fK δ1 D }) is parts P h ht h0 hl hs hd (by rw [g.xe]; exact PassesOwn.never) g.calm hq)
end
structure lM (X : Cx) (scope : Scope) (xs : List Str) (Nc : List Str) (ix : List Nat) : Prop where
 kind : scope.kind = .function
 qY : ∀ y ∈ scope.names, y.2 ≠ .cell
 nd : Nc.Nodup
 names : ∀ y ∈ scope.names, y.2 = .local -> scope.names.lookup y.1 = some .local
 own : ∀ x ∈ xs, scope.names.lookup x = some .local
 frees : ∀ y ∈ scope.names, y.2 = .free -> scope.names.lookup y.1 = some .free /\ (X.env.kindOf y.1 = some .cell \/ X.env.kindOf y.1 = some .free)
 hd : Nc = xs ++ ix.filterMap (X.N[·]?)
 Sj : ∀ i ∈ ix, ∃ y, X.N[i]? = some y /\ scope.names.lookup y = some .free
noncomputable def Hl (σ : L2.St) (ix : List Nat) (os : List (Option V)) : L2.St := os ++ ix.map fun i => (σ[i]?).getD none
section
variable {X : Cx} {scope : Scope} {xs : List Str} {Nc : List Str} {ix : List Nat} {pins : List (Addr × Obj)} {σ : L2.St} {H : Hp} {s : Shared}
theorem BX {fp : List Addr} (sc : lM X scope xs Nc ix) (I : Inv X pins σ H s) (sC : ∀ b ∈ fp, gT X pins H b /\ b < s.heap.objs.size) {h' : Heap} {m : Str -> Option Value} {tk : Nat}
   (hn : h'.Ns s.heap.objs.size m) (hk : ∀ b o, s.heap.get? b = some o -> h'.get? b = some o) :
   Inv (c7 X scope Nc s.heap.objs.size s H fp) [] (Hl σ ix (List.replicate xs.length none)) H { s with heap := h', toks := tk } := by
 have frees : ∀ y ∈ scope.names, y.2 = .free -> ∃ c, X.env.cells.lookup y.1 = some c := fun y hy e => I.ok.has y.1 (sc.frees y hy e).2
 have sub : ∀ {y : Str} {c : Addr}, (cA X.env scope.names []).lookup y = some c -> X.env.cells.lookup y = some c := fun {y c} e => kr frees (fun _ _ z => by cases z) e
 have hlen : (Hl σ ix (List.replicate xs.length none)).length = Nc.length := by
   have all : ∀ l : List Nat, (∀ i ∈ l, ∃ y, X.N[i]? = some y /\ scope.names.lookup y = some .free) -> (l.filterMap (X.N[·]?)).length = l.length := by
     intro l
     induction l with
     | nil => intro _; rfl
     | cons i r ih =>
       intro h
       obtain ⟨y, e, _⟩ := h i afb
       rw [agb, e]
       show _ + 1 = _ + 1
       rw [ih fun j hj => h j (afd _ hj)]
   unfold Hl
   rw [sc.hd, afy, afy, afj, agr, all ix sc.Sj]
 have C0 : s.heap.get? s.heap.objs.size = none := Heap.get?_none_of_le (afg _)
 refine ⟨⟨I.ok.mod, sc.kind, I.ok.glob, I.ok.blt, afg _, fun y z c h1 h2 => I.ok.inj y z c (sub h1) (sub h2), fun y hy => ?_, fun y c hf _ => (by cases (show false = true from hf)), I.ok.hd, I.ok.frames, .inl rfl, fun b hb => ⟨afO (sC b hb).2, fun y c e => (sC b hb).1.2.2.2.2.1 y c (sub e)⟩, I.bs, afU I.ok.My I.sz, fun b o e hb => ?_, fun b hb hf => ?_, I.stack, I.yi⟩,
   rfl, I.bare, Un.kept hk, ⟨m, hn, fun i y v h1 h2 h3 => ?_⟩, fun y c e => ?_, I.dw.fresh (afg _), fun y c e => I.ly y c (sub e), fun p hp => absurd (show p ∈ ([] : List (Addr × Obj)) from hp) (by simp), I.dw.kept hk, hlen⟩
 . 
   have ZR : (relabel scope X.env).names.lookup y = some .cell \/ (relabel scope X.env).names.lookup y = some .free := hy
   cases e : scope.names.lookup y with
   | none => 
     have := gP (env := X.env) e
     rcases ZR with q | q <;> (rw [show (relabel scope X.env).names.lookup y = none from this] at q; cases q)
   | some k =>
     have q := eS (env := X.env) e
     have hk : k = .free := by
       by_cases hk : k = .free
       . exact hk
       . have hb : (k == NameKind.free) = false := by simpa using hk
         rw [ae9 (by rw [hb]; simp)] at q
         have nc : k ≠ .cell := fun z => by
           subst z
           exact sc.qY _ (af7 e) rfl
         rcases ZR with z | z
         . rw [show (relabel scope X.env).names.lookup y = some k from q] at z
           exact absurd (afv z) nc
         . rw [show (relabel scope X.env).names.lookup y = some k from q] at z
           exact absurd (afv z) hk
     subst hk
     exact iJ e
 . 
   rcases (sC b hb).1.2.2.2.1 with z | z
   . exact I.ok.IY b o e z
   . exact absurd (afN (afu e) (afU I.ok.My z)) (agV _)
 . rcases afe.mp (I.yh b hf) with z | z
   . exact (sC b hb).1.2.1 z
   . exact (sC b hb).1.2.2.1 z
 . 
   unfold Hl at h2
   by_cases hi : i < xs.length
   . rw [agY (by rw [agr]; exact hi), List.getElem?_replicate, afa hi] at h2
     cases h2
   . obtain ⟨n, rfl⟩ : ∃ n, i = xs.length + n := ⟨i - xs.length, by omega⟩
     rw [agp (by rw [agr]; omega), agr, Nat.add_sub_cancel_left, afH] at h2
     cases ei : ix[n]? with
     | none => rw [ei] at h2; cases h2
     | some j =>
       rw [ei] at h2
       have J2 : (σ[j]?).getD none = some v := afv h2
       have hj : σ[j]? = some (some v) := by
         cases q : σ[j]? with
         | none => rw [q] at J2; cases J2
         | some o => rw [q] at J2; exact congrArg some J2
       obtain ⟨y', Yg, U6⟩ := sc.Sj j (afM ei)
       have hNc : Nc[xs.length + n]? = some y' := by
         have all : ∀ (l : List Nat) (i : Nat), (∀ j ∈ l, ∃ y, X.N[j]? = some y /\ scope.names.lookup y = some .free) -> l[i]? = some j -> (l.filterMap (X.N[·]?))[i]? = some y' := by
           intro l
           induction l with
           | nil => intro i _ h; simp at h
           | cons a r ih =>
             intro i h hi
             obtain ⟨ya, ea, _⟩ := h a afb
             rw [agb, ea]
             cases i with
             | zero =>
               simp at hi
               subst hi
               rw [Yg] at ea
               cases ea
               rfl
             | succ i => exact ih i (fun j hj => h j (List.mem_cons_of_mem _ hj)) (by simpa using hi)
         rw [sc.hd, agp (by omega), Nat.add_sub_cancel_left]
         exact all ix n sc.Sj ei
       have ey : y' = y := by
         have Ss : Nc[xs.length + n]? = some y := h1
         rw [hNc] at Ss
         exact afv Ss
       subst ey
       have uz := (sc.frees (y', .free) (af7 U6) rfl).2
       have U7 : Td X.env.scope y' := uz.elim (fun z => .inr (.inl z)) (fun z => .inr (.inr z))
       obtain ⟨m0, hn0, ZS⟩ := I.loc
       obtain ⟨u, ru, lk⟩ := ZS j y' v Yg hj U7
       refine ⟨u, ru, ?_⟩
       rcases lk with ⟨kk, _⟩ | ⟨_, c, hc, sj⟩
       . rcases uz with z | z
         . rw [kk] at z; cases z
         . rw [kk] at z; cases z
       . obtain ⟨c', IZ⟩ := iJ (env := X.env) (cs := []) U6
         have : c' = c := by
           have := sub IZ
           rw [hc] at this
           exact (afv this).symm
         subst this
         obtain ⟨o, ho, hd⟩ := sj
         refine .inr ⟨?_, c', IZ, o, hk _ _ ho, hd⟩
         have q := eS (env := X.env) U6
         show (relabel scope X.env).names.lookup y' = some .cell \/ (relabel scope X.env).names.lookup y' = some .free
         rw [show (relabel scope X.env).names.lookup y' = _ from q]
         split
         . exact .inl rfl
         . exact .inr rfl
 . obtain ⟨v, o, ho, hd⟩ := I.cell y c (sub e)
   exact ⟨v, o, hk _ _ ho, hd⟩
noncomputable def J3 (X : Cx) (tg elt : Expr) (ifs : List Expr) (n : Nat) (σ : L2.St) (ix : List Nat) (D : Addr) (N : Hp -> Prop) (xv : V) (os : List (Option V)) (H3 : Hp) : Prop :=
 ∃ t : TG, PG X tg t /\ t xv (Hl σ ix os) H3 fun σ8 H4 => ∃ WT, WT.length = n /\ σ8 = Hl σ ix WT /\ UL X ifs σ8 H4 fun ok H5 =>
   if ok = true then BH X elt σ8 H5 fun y H6 => ∃ acc, H6 D = some (.lst acc) /\ acc.length < sizeLine /\ N (upd H6 D (.lst (acc ++ [y]))) else N H5
theorem DM {elt iter tg : Expr} {pos : Pos} {ifs : List Expr} {J : It} {fp : List Addr} {it : Addr} {tn : Nat -> Heap -> Prop} {G : Addr -> Hp -> Prop} {RR : Value -> Addr -> Result -> Shared -> Prop} {E : Value -> Shared -> Prop}
   (sc : lM X scope xs Nc ix) (hc : X.calm = true) (I : Inv X pins σ H s) (Tn : Turn X.prog X.w X.K tg J fp it tn) (st : tn 0 s.heap) (hf : ∀ b ∈ fp, gT X pins H b)
   (loop : ∀ D, H D = none -> ∃ W : Nat -> Nat -> Hp -> Prop, (∃ m, W 0 m (upd H D (.lst []))) /\ ∀ i m H2, W i m H2 -> (J.stop i H2 /\ G D H2) ∨
     (J.go i H2 /\ ∃ N : Hp -> Prop, (∀ H', N H' -> ∃ m', m' < m /\ W (i + 1) m' H') /\ ∀ xv H3, J.R0 i H2 xv H3 -> ∀ C s0 H0 f0 os, os.length = xs.length -> J3 (c7 X scope Nc C s0 H0 f0) tg elt ifs xs.length σ ix D N xv os H3))
   (hRR : ∀ D C s' H', (∃ m, s'.heap.Ns C m) -> (∃ o, s'.heap.get? C = some o /\ ∀ v, o.data ≠ .cell v) -> H' C = none -> (C ≠ X.env.locals /\ C ∉ X.fs /\ X.s₀.heap.objs.size <= C /\ (∀ y c, X.env.cells.lookup y = some c -> c ≠ C) /\ ∀ q ∈ X.pn ++ pins, q.1 ≠ C) -> (∀ h', Heap.SameBut C s'.heap h' -> Inv X pins σ H' { s' with heap := h' }) -> G D H' -> RR (.ref D) C (.ok .next) s') :
   wpAny (model X.prog X.w) X.A (newList []) (fun acc s₃ => wpAny (model X.prog X.w) X.A (newFunctionEnv scope X.env.globals (cA X.env scope.names []) [] X.env.qual none .none (some X.env)) (fun J4 s₄ =>
     codeAny (model X.prog X.w) X.A (.compStart (.ListComp elt [⟨tg, iter, ifs, 0⟩] scope pos) 0 (.ref it) acc { J4 with scope := relabel scope X.env }) (RR acc J4.locals) s₄) E s₃) E s := by
 refine wpAny_newObj_type ?_
 have I3 : Inv X pins σ (upd H s.heap.objs.size (.lst [])) { s with heap := s.heap.push { cls := .type "list", dict := none, data := .seq ([] : List Value).toArray } } :=
   I.laid (t' := s.toks) (fun b u e => afn _ e) (afg _) ⟨by show 0 <= sizeLine; exact afG _, [], 0, .nil, afE _ rfl⟩
 have hD : H s.heap.objs.size = none := I.dw.fresh (afg _)
 obtain ⟨W, ⟨m0, w0⟩, turn⟩ := loop _ hD
 have J5 : ∀ b ∈ fp, gT X pins (upd H s.heap.objs.size (.lst [])) b /\ b < (s.heap.push { cls := .type "list", dict := none, data := .seq ([] : List Value).toArray }).objs.size := fun b hb => by
   obtain ⟨f0, f1⟩ := hf b hb
   obtain ⟨o, ho, _⟩ := Tn.obj 0 _ st b hb
   have n9 := afu ho
   refine ⟨⟨by rw [az (afO n9)]; exact f0, f1⟩, ?_⟩
   rw [Heap.size_push]; exact Nat.lt_succ_of_lt n9
 have Xq : tn 0 (s.heap.push { cls := .type "list", dict := none, data := .seq ([] : List Value).toArray }) := Tn.keep 0 _ _ st fun b _ o e => afn _ e
 generalize hs3 : ({ s with heap := s.heap.push { cls := .type "list", dict := none, data := .seq ([] : List Value).toArray } } : Shared) = s3 at I3 ⊢
 have U8 : s3.heap = s.heap.push { cls := .type "list", dict := none, data := .seq ([] : List Value).toArray } := by rw [← hs3]
 rw [← U8] at J5 Xq
 refine wpAny_newFunctionEnv sc.qY (by intro y hy; simp at hy) (fun h₁ U9 Va => ?_) sc.kind
 have old : ∀ b o, s3.heap.get? b = some o -> h₁.get? b = some o := fun b o e => (Va.2 b (afO (afu e))).trans (afn _ e)
 have J0 := BX (tk := s3.toks + ([] : List (Str × Value)).length) sc I3 J5 U9 old
 have st4 : tn 0 h₁ := Tn.keep 0 _ _ Xq fun b _ o e => old b o e
 have Sv : ∀ s4 : Shared, s4 = { s3 with heap := h₁, toks := s3.toks + ([] : List (Str × Value)).length } -> codeAny (model X.prog X.w) X.A (.compLoop (.ListComp elt [⟨tg, iter, ifs, 0⟩] scope pos) 0 (.ref it) (.ref s.heap.objs.size) (compEnvC scope (cA X.env scope.names []) s3.heap.objs.size X.env)) (RR (.ref s.heap.objs.size) s3.heap.objs.size) s4 := by
   rintro s4 rfl
   have stat : ∀ {H' : Hp}, (∀ b ∈ fp, H' b = none) -> ∀ b ∈ fp, gT (c7 X scope Nc s3.heap.objs.size s3 (upd H s.heap.objs.size (.lst [])) fp) [] H' b := fun {H'} hn b hb => by
     obtain ⟨⟨f0, f1, f2, f3, f4, f5⟩, n9⟩ := J5 b hb
     refine ⟨hn b hb, afO n9, fun z => ?_, .inl hb, fun y c e => f4 y c (kr (fun y hy e => I.ok.has y.1 (sc.frees y hy e).2) (fun _ _ z => by cases z) e), fun p hp => absurd (show p ∈ ([] : List (Addr × Obj)) from hp) (by simp)⟩
     rcases afe.mp (I3.yh b z) with q | q
     . exact f1 q
     . exact f2 q
   refine yt (fun n s' => ∃ i o H', o.length = xs.length /\ Inv (c7 X scope Nc s3.heap.objs.size s3 (upd H s.heap.objs.size (.lst [])) fp) [] (Hl σ ix o) H' s' /\ tn i s'.heap /\ (∀ b ∈ fp, H' b = none) /\ W i n H') ?_ m0 ⟨0, _, _, agr, J0, st4, fun b hb => (J5 b hb).1.1, w0⟩
   rintro n s5 ⟨i, o5, H5, ol5, I5, WR, ZI, w5⟩
   rcases turn i n H5 w5 with ⟨stop, g⟩ | ⟨go, N, hN, step⟩
   . refine dU (Tn.done (c7 X scope Nc s3.heap.objs.size s3 (upd H s.heap.objs.size (.lst [])) fp) rfl rfl rfl hc i [] s5 _ H5 _ I5 (stat ZI) WR stop) fun r s6 zz => ?_
     obtain ⟨hr, I6⟩ := zz
     subst hr
     obtain ⟨m6, hn6, _⟩ := I6.loc
     obtain ⟨oc, esc, epc, WQ, hdc, _⟩ := id hn6
     have ZT := I3.wu (afg s3.heap.objs.size) (H' := fun _ => none) rfl
     refine hRR _ _ s6 H5 ⟨m6, hn6⟩ ⟨oc, WQ, fun v z => by rw [hdc] at z; cases z⟩ I6.free ⟨ZT.2.1, ZT.2.2.1, ?_, ZT.2.2.2.2.1, ZT.2.2.2.2.2⟩ (fun h' Yh => G9 I3 (fun b hb => (J5 b hb).1) I6 Yh) g
     exact I3.sz
   . refine dU (Tn.item (c7 X scope Nc s3.heap.objs.size s3 (upd H s.heap.objs.size (.lst [])) fp) rfl rfl rfl hc i [] s5 _ H5 _ I5 (stat ZI) WR go) fun r s6 zz => ?_
     obtain ⟨u, hr, h6⟩ := zz
     subst hr
     refine dU h6 fun _ s7 zz => ?_
     obtain ⟨xv, H7, I7, r7, y7, st7, fr7⟩ := zz
     have I7' := I7.pinned (stat fr7) (Tn.obj _ _ st7)
     obtain ⟨t, hg, ht⟩ := step xv _ y7 s3.heap.objs.size s3 (upd H s.heap.objs.size (.lst [])) fp o5 ol5
     refine dU (hg _ s7 _ H7 xv u _ I7' r7 ht) fun _ s8 zz => ?_
     obtain ⟨σ8, H8, I8, os8, ol8, e8, h8⟩ := zz
     subst e8
     refine dU (JM I8 h8 rfl) fun ok s9 zz => ?_
     obtain ⟨H9, I9, q9⟩ := zz
     have again : ∀ {Ha : Hp} {sa : Shared}, Inv (c7 X scope Nc s3.heap.objs.size s3 (upd H s.heap.objs.size (.lst [])) fp) ([] ++ uw fp s7.heap) (Hl σ ix os8) Ha sa -> N Ha -> ∃ m, m < n /\ ∃ i o H', o.length = xs.length /\ Inv (c7 X scope Nc s3.heap.objs.size s3 (upd H s.heap.objs.size (.lst [])) fp) [] (Hl σ ix o) H' sa /\ tn i sa.heap /\ (∀ b ∈ fp, H' b = none) /\ W i m H' := fun {Ha sa} Ia na => by
       obtain ⟨m', hm, wa⟩ := hN Ha na
       refine ⟨m', hm, i + 1, os8, Ha, ol8, Ia.lC, Tn.keep _ _ _ st7 fun b hb o e => (Ia.pin (b, o) (ae8 _ (ae8 _ (gu hb e)))).1, fun b hb => ?_, wa⟩
       obtain ⟨o, e, d⟩ := Tn.obj _ _ st7 b hb
       exact (Ia.pin (b, o) (ae8 _ (ae8 _ (gu hb e)))).2.1
     cases ok with
     | false =>
       rw [ae9 afr] at q9 ⊢
       exact again I9 q9
     | true =>
       rw [afa rfl] at q9 ⊢
       refine dU (q9 _ s9 I9) fun v sa zz => ?_
       obtain ⟨y, Ha, Ia, ra, acc, NR, hlen, na⟩ := zz
       refine dU (xG (X := c7 X scope Nc s3.heap.objs.size s3 (upd H s.heap.objs.size (.lst [])) fp) _ sa _ Ha (.ref s.heap.objs.size) [y] (.ref s.heap.objs.size) [v] (fun _ Hb => Hb = upd Ha s.heap.objs.size (.lst (acc ++ [y]))) Ia rfl (.cons ra .nil) ⟨_, acc, y, rfl, rfl, NR, hlen, rfl⟩) fun _ sb zz => ?_
       obtain ⟨_, Hb, Ib, _, eb⟩ := zz
       subst eb
       exact again Ib na
 exact codeAny_compStart_list (Sv _ rfl) (Tn.self _ 0 _ _ _ st4 (Sv _ rfl))
end
noncomputable def Ho (ps : List D) : List (Option T) := ps.map fun p => some (.sh p)
theorem xP : ∀ {ys : List V} {os : List (Option V)} {pre r : L2.St}, os.length = ys.length -> uI (pre ++ (os ++ r)) (List.range' pre.length ys.length) ys = pre ++ (ys.map some ++ r)
 | [], os, pre, r, h => by
   have : os = [] := List.length_eq_zero_iff.mp h
   subst this
   rfl
 | y :: ys, os, pre, r, h => by
   match os, h with
   | o :: os, h =>
     show uI ((pre ++ (o :: (os ++ r))).set pre.length (some y)) (List.range' (pre.length + 1) ys.length) ys = _
     rw [List.set_append_right _ _ (afg _), Nat.sub_self, List.set_cons_zero]
     have := xP (ys := ys) (os := os) (pre := pre ++ [some y]) (r := r) (by simpa using h)
     simp only [afy, afI, agj, afi, List.singleton_append] at this
     rw [this]
     simp
theorem NS {K : PySem.W.Frag} {CL : Str -> Addr} {H Z : Hp} : ∀ {ps : List D} {ys : List V} {δc : List (Option T)} {σc : L2.St}, aC K CL Z ps ys -> fc K CL H Z δc σc [] -> fc K CL H Z (Ho ps ++ δc) (ys.map some ++ σc) [] := fun {ps ys δc σc} h e =>
 aC.ind (P := fun ps ys => fc K CL H Z (Ho ps ++ δc) (ys.map some ++ σc) []) e (fun r _ i => .cons (fp := []) (gp := []) (.sh r) i) h
section
variable {X : Cx} {CL : Str -> Addr} {b : Bx} {H Z W1 : Hp} {δ δc : List (Option T)} {σ : L2.St} {ts : List T} {vs : List V} {ds : List D} {scope : Scope} {Nc : List Str} {n : Nat} {ix : List Nat} {elt tg : Expr} {ifs : List Expr} {p : D -> Bool} {g : D -> T} {J : It} {parts : D -> Option (List D)}
noncomputable def rq (X : Cx) (CL : Str -> Addr) (scope : Scope) (Nc : List Str) (n : Nat) (tg : Expr) (parts : D -> Option (List D)) (ifs : List Expr) (elt : Expr) (δc : List (Option T)) (ds : List D) (p : D -> Bool) (g : D -> T) : Prop :=
 ∀ C s0 H0 f0 b', Ye (c7 X scope Nc C s0 H0 f0) CL tg (List.range' 0 n) parts /\ ∀ d, d ∈ ds -> ∃ ps, parts d = some ps /\ ps.length = n /\ ZP (c7 X scope Nc C s0 H0 f0) CL b' ifs (Ho ps ++ δc) (p d) /\ (p d = true -> cg (c7 X scope Nc C s0 H0 f0) CL b' elt (Ho ps ++ δc) (g d) (Ho ps ++ δc))
theorem uJ (S : bX X.K CL b H Z δ σ ts vs) (zw : aD Z W1) (wh : aD W1 H) (tp : ∀ a o, H a = some o -> iH o = true -> W1 a = some o)
   (cap : ∀ H', fc X.K CL H' W1 δc (ix.map fun i => (σ[i]?).getD none) []) (inner : rq X CL scope Nc n tg parts ifs elt δc ds p g)
   (NT : ∀ i H2, aD W1 H2 -> i < ds.length -> J.go i H2)
   (hy : ∀ i Z2 H2 x H', aD W1 Z2 -> aD Z2 H2 -> (∀ a o, H2 a = some o -> iH o = true -> Z2 a = some o) -> i < ds.length -> J.R0 i H2 x H' -> ∃ Z3 d, ds[i]? = some d /\ yE Z2 H2 Z3 H' /\ aZ X.K CL Z3 d x)
   (Jc : ∀ H2, aD W1 H2 -> J.stop ds.length H2) (hlen : ds.length <= sizeLine) (c : W1 = Z \/ ∀ d ∈ ds, (g d).clean = true) :
   ∀ D, H D = none -> ∃ W : Nat -> Nat -> Hp -> Prop, (∃ m, W 0 m (upd H D (.lst []))) /\ ∀ i m H2, W i m H2 -> (J.stop i H2 /\ ∃ Z2, aD Z Z2 /\ aD H H2 /\ bX X.K CL b H2 Z2 δ σ (.lst ((ds.filter p).map g) :: ts) (.ref D :: vs)) ∨
     (J.go i H2 /\ ∃ N : Hp -> Prop, (∀ H', N H' -> ∃ m', m' < m /\ W (i + 1) m' H') /\ ∀ xv H3, J.R0 i H2 xv H3 -> ∀ C s0 H0 f0 os, os.length = n -> J3 (c7 X scope Nc C s0 H0 f0) tg elt ifs n σ ix D N xv os H3) := by
 intro D hD
 have wD : W1 D = none := wh.free hD
 refine ⟨fun i m H2 => m = ds.length - i /\ i <= ds.length /\ ∃ Z2 Di fp, aD H H2 /\ aD W1 Z2 /\ aD Z2 H2 /\ Z2 D = none /\ (∀ a o, Z2 a = some o -> W1 a = none -> H a = none) /\ (∀ a o, H2 a = some o -> iH o = true -> Z2 a = some o) ∧
   H2 D = some (.lst Di) /\ aQ X.K CL H2 Z2 (((ds.take i).filter p).map g) Di fp /\ fp.Nodup /\ D ∉ fp /\ (∀ a ∈ fp, Z2 a = none /\ H a = none) /\ Di.length <= i, ⟨ds.length, rfl, afG _, W1, [], [], aD.upd hD, .refl _, wh.trans (aD.upd hD), wD, fun a o q z => ?_, fun a o q i => ?_, aN, .nil, agy, by simp, by simp, by simp⟩, ?_⟩
 . rw [q] at z; cases z
 . by_cases ha : a = D
   . subst ha; rw [aN] at q; cases q; cases i
   . rw [az ha] at q; exact tp a o q i
 . rintro i m H2 ⟨rfl, hi, Z2, Di, fp, hh, wz, zh, zD, nw, tp2, ZU, ra, nd, nD, own, hav⟩
   by_cases n9 : i < ds.length
   . refine .inr ⟨NT i H2 (wz.trans zh) n9, fun H' => ∃ Z2 Di fp, aD H H' /\ aD W1 Z2 /\ aD Z2 H' /\ Z2 D = none /\ (∀ a o, Z2 a = some o -> W1 a = none -> H a = none) /\ (∀ a o, H' a = some o -> iH o = true -> Z2 a = some o) ∧
       H' D = some (.lst Di) /\ aQ X.K CL H' Z2 (((ds.take (i + 1)).filter p).map g) Di fp /\ fp.Nodup /\ D ∉ fp /\ (∀ a ∈ fp, Z2 a = none /\ H a = none) /\ Di.length <= i + 1, fun H' h => ⟨ds.length - (i + 1), by omega, rfl, n9, h⟩, fun xv H3 y C s0 H0 f0 os hos => ?_⟩
     obtain ⟨Z3, d, hd, gr, rd⟩ := hy i Z2 H2 xv H3 wz zh tp2 n9 y
     have Vb : ∀ a, Z2 a = none -> (∃ o, H2 a = some o) -> Z3 a = none := fun a e ⟨o, e2⟩ => by
       cases q : Z3 a with
       | none => rfl
       | some u => rw [gr.new a u q e] at e2; cases e2
     have nw3 : ∀ a o, Z3 a = some o -> W1 a = none -> H a = none := fun a o q z => by
       cases e : Z2 a with
       | none => exact hh.free (gr.new a o q e)
       | some u =>
         have := gr.z a u e
         rw [q] at this; cases this
         exact nw a o e z
     have Vc : aQ X.K CL H3 Z3 (((ds.take i).filter p).map g) Di fp := ra.mono gr.z fun a ha => by
       obtain ⟨o, e⟩ := ra.there a ha
       rw [e]; exact gr.h a o e
     have ZV : ∀ a ∈ fp, Z3 a = none /\ H a = none := fun a ha => ⟨Vb a (own a ha).1 (ra.there a ha), (own a ha).2⟩
     have zD3 : Z3 D = none := Vb D zD ⟨_, ZU⟩
     have Sw : H3 D = some (.lst Di) := gr.h D _ ZU
     have U8 := hh.trans gr.h
     have ZW := wz.trans gr.z
     have zh3 := gr.zh
     have tp3 := gr.tp
     clear own nw ra zD ZU hh wz zh tp2 gr Vb
     have Vd : d ∈ ds := afM hd
     have FZ : ds.take (i + 1) = ds.take i ++ [d] := by rw [af8, hd]; rfl
     obtain ⟨tgt, inn⟩ := inner C s0 H0 f0 ⟨H3, Z3⟩
     obtain ⟨ps, hps, sy, it, ie⟩ := inn d Vd
     obtain ⟨t, pg, ht⟩ := tgt
     refine ⟨t, pg, ht Z3 H3 d ps xv _ _ zh3 rd hps fun ys ZQ => ?_⟩
     have hyl : ys.length = n := by rw [← ZQ.length]; exact sy
     have es : uI (Hl σ ix os) (List.range' 0 n) ys = Hl σ ix (ys.map some) := by
       have := xP (ys := ys) (os := os) (pre := []) (r := ix.map fun i => (σ[i]?).getD none) (by rw [hos, hyl])
       rw [hyl] at this
       exact this
     refine ⟨ys.map some, by rw [afj]; exact hyl, es, ?_⟩
     rw [es]
     have S0 : bX X.K CL ⟨H3, Z3⟩ H3 Z3 (Ho ps ++ δc) (Hl σ ix (ys.map some)) [] [] :=
       ⟨⟨[], [], NS ZQ ((cap H3).mono ZW fun a ha => by cases ha), .nil, agy, fun a ha => by cases ha⟩, .refl _, .refl _, zh3, fun a o q z => (by have z' : Z3 a = none := z; rw [show Z3 a = some o from q] at z'; cases z'), tp3, (S.XU.mono zw).mono ZW⟩
     refine it.sem S0 fun H4 Z4 z4 k4 S4 => ?_
     have abj : ∀ a ∈ fp, H4 a = H3 a := fun a ha => by
       obtain ⟨o, e⟩ := Vc.there a ha
       rw [e]; exact k4 a o e
     have J6 : ∀ a, Z3 a = none -> (∃ o, H3 a = some o) -> Z4 a = none := fun a e ⟨o, e2⟩ => by
       cases q : Z4 a with
       | none => rfl
       | some u =>
         have := S4.new a u q e
         rw [show H3 a = none from this] at e2; cases e2
     cases hp : p d with
     | false =>
       refine Ju ⟨Z4, Di, fp, U8.trans k4, ZW.trans z4, S4.zh, J6 D zD3 ⟨_, Sw⟩, fun a o q z => ?_, S4.tp, k4 D _ Sw, ?_, nd, nD, fun a ha => ⟨J6 a (ZV a ha).1 (Vc.there a ha), (ZV a ha).2⟩, by omega⟩
       . cases e : Z3 a with
         | none => exact U8.free (S4.new a o q e)
         | some u => 
           have := z4 a u e
           rw [q] at this; cases this
           exact nw3 a o e z
       . rw [FZ, agB, agI (by simp [hp]), agZ, afQ]
         exact Vc.mono z4 abj
     | true =>
       refine Jv ((ie hp) H4 Z4 (Hl σ ix (ys.map some)) [] [] _ S4 fun yv H5 Z5 z5 k5 S5 => ⟨Di, k5 D _ (k4 D _ Sw), by omega, ?_⟩)
       obtain ⟨f1, g1, e1, r1, XW, Yi⟩ := S5.rep
       cases r1 with
       | @cons _ _ _ _ fy fn ry rn =>
         cases rn
         rw [afQ] at XW Yi
         have ndy : fy.Nodup := (afZ.mp XW).2.1
         have NV : ∀ a ∈ fy, Z5 a = none /\ H3 a = none := fun a ha => Yi a (ae8 _ ha)
         have DN : ∀ a, Z3 a = none -> (∃ o, H3 a = some o) -> Z5 a = none := fun a e ⟨o, e2⟩ => by
           cases q : Z5 a with
           | none => rfl
           | some u =>
             have := S5.new a u q e
             rw [show H3 a = none from this] at e2; cases e2
         have yD : ∀ a ∈ fy, a ≠ D := fun a ha e => by
           subst e
           rw [(NV a ha).2] at Sw; cases Sw
         have h5D : H5 D = some (.lst Di) := k5 D _ (k4 D _ Sw)
         have sD : aD H (upd H5 D (.lst (Di ++ [yv]))) := fun a o q => by
           rw [az (aE q hD)]
           exact k5 a o (k4 a o (U8 a o q))
         refine ⟨Z5, Di ++ [yv], fp ++ fy, sD, ZW.trans (z4.trans z5), fun a o q => ?_, DN D zD3 ⟨_, Sw⟩, fun a o q z => ?_, fun a o q im => ?_, aN, ?_, ?_, ?_, fun a ha => ?_, ?_⟩
         . rw [az (aE q (DN D zD3 ⟨_, Sw⟩))]; exact S5.zh a o q
         . cases e : Z3 a with
           | none => exact U8.free (S5.new a o q e)
           | some u =>
             have := z5 a u (z4 a u e)
             rw [q] at this; cases this
             exact nw3 a o e z
         . by_cases ha : a = D
           . subst ha; rw [aN] at q; cases q; cases im
           . rw [az ha] at q; exact S5.tp a o q im
         . rw [FZ, agB, agJ hp, agZ, ag0]
           refine aQ.app (Vc.mono (z4.trans z5) fun a ha => ?_) (by
             have := aQ.cons (fp := fy) (gp := []) (ry.mono (.refl _) fun a ha => az (yD a ha)) (aQ.nil (H := upd H5 D (.lst (Di ++ [yv]))) (Z := Z5))
             rwa [afQ] at this)
           have : a ≠ D := fun e => nD (e ▸ ha)
           rw [az this]
           obtain ⟨o, e⟩ := Vc.there a ha
           rw [e]; exact k5 a o (k4 a o e)
         . refine afZ.mpr ⟨nd, ndy, fun a ha a' JD e => ?_⟩
           subst e
           obtain ⟨o, e⟩ := Vc.there a ha
           rw [(NV a JD).2] at e; cases e
         . intro h
           rcases afm.mp h with h | h
           . exact nD h
           . exact yD D h rfl
         . rcases afm.mp ha with h | h
           . exact ⟨DN a (ZV a h).1 (Vc.there a h), (ZV a h).2⟩
           . exact ⟨(NV a h).1, U8.free (NV a h).2⟩
         . rw [afy, List.length_singleton]; omega
   . have e : i = ds.length := by omega
     subst e
     refine .inl ⟨Jc H2 (wz.trans zh), ?_⟩
     rw [aga] at ra
     obtain ⟨Z', z', S'⟩ := S.back (H' := H2) (W := W1) (W' := Z2) (t := .lst ((ds.filter p).map g)) (v := .ref D) (fp := D :: fp) hh zw wz zh nw tp2 (.lst ZU ra) (age.mpr ⟨nD, nd⟩) (fun a ha => by
       rcases afe.mp ha with h | h
       . subst h; exact ⟨zD, hD⟩
       . exact own a h) (c.imp id fun c => by
         rw [iB]
         exact uD fun d hd => c d (af4.mp hd).1)
     exact ⟨Z', z', hh, S'⟩
end
section
variable {X : Cx} {CL : Str -> Addr} {b : Bx} {δ δ1 : List (Option T)} {scope : Scope} {xs : List Str} {Nc : List Str} {ix : List Nat} {elt iter tg : Expr} {ifs : List Expr} {pos : Pos} {ds : List D} {p : D -> Bool} {g : D -> T} {δc : List (Option T)} {parts : D -> Option (List D)}
theorem xQ {J : It} {fp : List Addr} {it : Addr} {tn : Nat -> Heap -> Prop} {pins : List (Addr × Obj)} {σ : L2.St} {H H1 Z : Hp} {s : Shared} {ts : List T} {vs : List V} {RR : Value -> Addr -> Result -> Shared -> Prop} {E : Value -> Shared -> Prop}
   (sc : lM X scope xs Nc ix) (hc : X.calm = true) (C : yF X CL b δ1 σ ts vs Z H ds J H1) (I : L2.Inv X pins σ H1 s) (Tn : Turn X.prog X.w X.K tg J fp it tn) (st : tn 0 s.heap) (hf : ∀ b ∈ fp, gT X pins H1 b)
   (hb : (δc = wF δ1 ix /\ ∀ d ∈ ds, (g d).clean = true) \/ δc = BL δ1 ix) (inner : rq X CL scope Nc xs.length tg parts ifs elt δc ds p g) (hlen : ds.length <= sizeLine)
   (hRR : ∀ D C s' H' Z', (∃ m, s'.heap.Ns C m) -> (∃ o, s'.heap.get? C = some o /\ ∀ v, o.data ≠ .cell v) -> H' C = none -> (C ≠ X.env.locals /\ C ∉ X.fs /\ X.s₀.heap.objs.size <= C /\ (∀ y c, X.env.cells.lookup y = some c -> c ≠ C) /\ ∀ q ∈ X.pn ++ pins, q.1 ≠ C) -> (∀ h', Heap.SameBut C s'.heap h' -> L2.Inv X pins σ H' { s' with heap := h' }) -> aD Z Z' -> aD H H' -> bX X.K CL b H' Z' δ1 σ (.lst ((ds.filter p).map g) :: ts) (.ref D :: vs) -> RR (.ref D) C (.ok .next) s') :
   wpAny (model X.prog X.w) X.A (newList []) (fun acc s₃ => wpAny (model X.prog X.w) X.A (newFunctionEnv scope X.env.globals (cA X.env scope.names []) [] X.env.qual none .none (some X.env)) (fun J4 s₄ =>
     codeAny (model X.prog X.w) X.A (.compStart (.ListComp elt [⟨tg, iter, ifs, 0⟩] scope pos) 0 (.ref it) acc { J4 with scope := relabel scope X.env }) (RR acc J4.locals) s₄) E s₃) E s := by
 obtain ⟨Z1, z1, k1, S1, go, yl, stp⟩ := C.ex
 have lp : ∀ D, H1 D = none -> ∃ W : Nat -> Nat -> Hp -> Prop, (∃ m, W 0 m (upd H1 D (.lst []))) /\ ∀ i m H2, W i m H2 -> (J.stop i H2 /\ ∃ Z2, aD Z1 Z2 /\ aD H1 H2 /\ bX X.K CL b H2 Z2 δ1 σ (.lst ((ds.filter p).map g) :: ts) (.ref D :: vs)) ∨
     (J.go i H2 /\ ∃ N : Hp -> Prop, (∀ H', N H' -> ∃ m', m' < m /\ W (i + 1) m' H') /\ ∀ xv H3, J.R0 i H2 xv H3 -> ∀ C s0 H0 f0 os, os.length = xs.length -> J3 (c7 X scope Nc C s0 H0 f0) tg elt ifs xs.length σ ix D N xv os H3) := by
   rcases hb with ⟨e, cl⟩ | e
   . subst e
     exact uJ (W1 := H1) S1 S1.zh (.refl _) (fun _ _ q _ => q) (uE S1 ix) inner (fun i H2 s => go i H2 (S1.zh.trans s)) (fun i Z2 H2 y H' s => yl i Z2 H2 y H' (S1.zh.trans s)) (fun H2 s => stp H2 (S1.zh.trans s)) hlen (.inr cl)
   . subst e
     exact uJ (W1 := Z1) S1 (.refl _) S1.zh S1.tp (BO S1 ix) inner go yl stp hlen (.inl rfl)
 exact DM sc hc I Tn st hf lp fun D C s' H' m io nC ch ci ⟨Z', z', k', S'⟩ => hRR D C s' H' Z' m io nC ch ci (z1.trans z') (k1.trans k') S'
theorem sH (sc : lM X scope xs Nc ix) {pins : List (Addr × Obj)} {σ : L2.St} {H : Hp} {s : Shared} (I : L2.Inv X pins σ H s) : closureFor scope X.env = pure (cA X.env scope.names []) :=
 jh fun y hy e => I.ok.has y.1 (sc.frees y hy e).2
theorem BZ (sc : lM X scope xs Nc ix) (hc : X.calm = true) (h : Sn X CL b tg iter δ ds δ1) (hb : (δc = wF δ1 ix /\ ∀ d ∈ ds, (g d).clean = true) \/ δc = BL δ1 ix) (inner : rq X CL scope Nc xs.length tg parts ifs elt δc ds p g) (hlen : ds.length <= sizeLine)
   (hs : ∀ x, foldedSetIterable iter X.env x = pure x := by intro _; rfl) : cg X CL b (.ListComp elt [⟨tg, iter, ifs, 0⟩] scope pos) δ (.lst ((ds.filter p).map g)) δ1 := fun H Z σ ts vs Q S k pins s I => by
 obtain ⟨wi, pi, hw⟩ := h
 rw [eval_ListComp]
 refine wpAny_comprehension_free (use := none) rfl hs (sH sc I) sc.kind sc.names ?_
 refine dU (pi pins s σ H _ I (hw H Z σ ts vs (fun J H1 => yF X CL b δ1 σ ts vs Z H ds J H1) S fun J H1 C => C)) fun v s1 h1 => dU h1 fun ZG s2 zz => ?_
 obtain ⟨it, fp, tn, J, H1, e, I1, Tn, st, hf, C⟩ := zz
 subst e
 refine xQ (RR := fun acc C => compPost (model X.prog X.w) X.A X.xe none (EP X pins σ Q) acc C) sc hc C I1 Tn st hf hb inner hlen fun D C' s' H' Z' m io nC ch ci z' k' S' => ?_
 obtain ⟨m, hn⟩ := m
 exact ⟨m, hn, fun h' Yh => ⟨.ref D, H', ci h' Yh, rfl, k _ H' Z' z' k' S'⟩⟩
theorem NW {D : cW} {y : Str} {py Yj : Pos} (i : Nat) (sc : lM X scope xs Nc ix) (hc : X.calm = true) (h : Sn X CL b tg iter δ ds δ1) (hb : (δc = wF δ1 ix /\ ∀ d ∈ ds, (g d).clean = true) \/ δc = BL δ1 ix) (inner : rq X CL scope Nc xs.length tg parts ifs elt δc ds p g) (hlen : ds.length <= sizeLine)
   (k : D.nx (δ1.set i (some (.lst ((ds.filter p).map g))))) (hl : i < δ1.length) (hN : X.N.Nodup) (hi : X.N[i]? = some y) (hx : Loc X.env.scope y) (hf' : X.fn y = true \/ X.env.scope.names.lookup y = some .local)
   (Hf : swapsWith (.ListComp elt [⟨tg, iter, ifs, 0⟩] scope pos) (some (.Name y py)) Yj.line X.env = pure true)
   (hs : ∀ x, foldedSetIterable iter X.env x = pure x := by intro _; rfl) : Nj X CL b (.Assign [.Name y py] (.ListComp elt [⟨tg, iter, ifs, 0⟩] scope pos) Yj) δ D := fun H Z σ ts vs E S M pins s I => by
 obtain ⟨wi, pi, hw⟩ := h
 rw [exec_Assign_Name_used _ _ _ _ Hf]
 refine afs (wpAny_standAt (afs ?_))
 show wpAny _ X.A (do let _ ← comprehension (.ListComp elt [⟨tg, iter, ifs, 0⟩] scope pos) scope X.env _ (newList []) false (eval iter X.env) (some (assign (.Name y py) X.env))) _ _ s
 refine afs (agn (wpAny_comprehension_free (use := some (assign (.Name y py) X.env)) (Q := fun _ s' => SP X pins E .next s') rfl hs (sH sc I) sc.kind sc.names ?_) (fun _ s' hq => afV (afV hq)) fun _ _ e => e)
 refine dU (pi pins s σ H _ I (hw H Z σ ts vs (fun J H1 => yF X CL b δ1 σ ts vs Z H ds J H1) S fun J H1 C => C)) fun v s1 h1 => dU h1 fun ZG s2 zz => ?_
 obtain ⟨it, fp, tn, J, H1, e, I1, Tn, st, hf, C⟩ := zz
 subst e
 refine xQ (RR := fun acc C => compPost (model X.prog X.w) X.A X.xe (some (assign (.Name y py) X.env)) (fun _ s' => SP X pins E .next s') acc C) sc hc C I1 Tn st hf hb inner hlen fun D' C' s' H' Z' m io nC ch ci z' k' S' => ?_
 obtain ⟨m, hn⟩ := m
 obtain ⟨o, ho, sj⟩ := io
 have I' : L2.Inv X pins σ H' s' := ci s'.heap (.refl ..)
 have I2 : L2.Inv X (pins ++ [(C', o)]) σ H' s' := I'.tH fun q hq => by
   rcases afm.mp hq with z | z
   . exact I'.pin q (ae8 _ z)
   . have e : q = (C', o) := by simpa using z
     subst e
     exact ⟨ho, nC, ch.1, ch.2.1, sj⟩
 show wpAny _ X.A (assign (.Name y py) X.env (.ref D')) _ _ s'
 have hg : PG X (.Name y py) (sq i) := pJ hN hi hx hf'
 refine dU (hg _ s' σ H' (.ref D') (.ref D') (fun σ8 H8 => σ8 = σ.set i (some (.ref D')) /\ H8 = H') I2 rfl ⟨rfl, rfl⟩) fun _ s8 zz => ?_
 obtain ⟨σ8, H8, I8, e8, e8'⟩ := zz
 subst e8
 subst e8'
 obtain ⟨hC8, nC8, _⟩ := I8.pin (C', o) (ae8 _ (ae8 _ (by simp)))
 refine ⟨m, hn.at' fun o' e' => by rw [ho] at e'; cases e'; exact hC8, fun h' Yh => ?_⟩
 have I9 : L2.Inv X pins (σ.set i (some (.ref D'))) _ s8 := I8.tH fun q hq => I8.pin q (ae8 _ (afl _ hq))
 have I10 := I9.turned (it := C') (h' := h') (t' := s8.toks) (fun b o hb e => (Yh.2 b hb).trans e) nC8 ch.1.symm.symm (.inr ch.2.2.1) ch.2.2.2.1 ch.2.2.2.2
 exact ⟨_, _, I10, M.nx _ _ _ Z' z' (S'.set hl) k⟩
theorem Ve {D : cW} {fK : List Stmt} {i : Nat} {x : Str} {pos' pc : Pos} (gx : Gx X) (n : Ln X i x) (sc : lM X scope xs Nc ix) (h : Sn X CL b tg iter δ ds δ1)
   (hb : (δc = wF δ1 ix /\ ∀ d ∈ ds, (g d).clean = true) \/ δc = BL δ1 ix) (inner : rq X CL scope Nc xs.length tg parts ifs elt δc ds p g) (hlen : ds.length <= sizeLine) (k : eO X CL b fK (δ1.set i (some (.lst ((ds.filter p).map g)))) D) (hl : i < δ1.length)
   (Hf : swapsWith (.ListComp elt [⟨tg, iter, ifs, 0⟩] scope pc) (some (.Name x pos')) pos.line X.env = pure true \/ swapsWith (.ListComp elt [⟨tg, iter, ifs, 0⟩] scope pc) (some (.Name x pos')) pos.line X.env = pure false) (hs : ∀ x, foldedSetIterable iter X.env x = pure x := by intro _; rfl) :
   eO X CL b (.Assign [.Name x pos'] (.ListComp elt [⟨tg, iter, ifs, 0⟩] scope pc) pos :: fK) δ D := by
 rcases Hf with Hf | Hf
 . exact dN (NW i sc gx.calm h hb inner hlen k hl gx.nd n.hi n.loc n.hf Hf hs)
 . exact dN (JL i (BZ sc gx.calm h hb inner hlen hs) k hl gx.nd n.hi n.loc Hf n.hf)
theorem Vf {i : Nat} {x : Str} {C : Addr} {s : Shared} {H : Hp} {fp : List Addr} (h1 : Nc[i]? = some x) (h2 : scope.names.lookup x = some .local) (hd : (x == ("__debug__" : Str)) = false := by decide) (iD : (x == ("__classdict__" : Str)) = false := by decide) : Ln (c7 X scope Nc C s H fp) i x :=
 ⟨eG h1 h2 hd iD, .inl (lookup_relabel_local h2), .inr (lookup_relabel_local h2)⟩
end
noncomputable def Ite (K : PySem.W.Frag) (a : Addr) : It :=
 ⟨fun i H => ∃ xs x, kh K H a xs /\ xs[i]? = some x, fun i H x H' => ∃ T y, H T = none /\ x = .ref T /\ (∀ xs, kh K H a xs -> xs[i]? = some y) /\ H' = upd H T (.tup [.int i, y]), fun i H => ∃ xs, kh K H a xs /\ xs.length <= i⟩
theorem Hq {P : Program} {w : World} {K : PySem.W.Frag} {elts : List Expr} {kk : Nat} {pt : Pos} (a e it : Addr) (oG : e ≠ it) : Turn P w K (.Tuple elts kk pt) (Ite K a) [e, it] e (fun i h => (∃ old, PySem.IsEnum h e it i old) /\ h.IsListIter it a i) where
 mem := by simp
 obj := fun i h st b hb => by
   obtain ⟨⟨old, he⟩, hit⟩ := st
   rcases afe.mp hb with z | z
   . subst z
     exact ⟨_, he, fun v z => by
       have z' : Data.fields _ = Data.cell v := z
       cases z'⟩
   . have z : b = it := by simpa using z
     subst z
     obtain ⟨o, e, c, d⟩ := hit
     exact ⟨o, e, fun v z => by rw [d] at z; cases z⟩
 keep := fun i h h' st k => by
   obtain ⟨⟨old, he⟩, hit⟩ := st
   exact ⟨⟨old, k e (by simp) _ he⟩, hit.at fun o q => k it (by simp) o q⟩
 item := by
   intro X hP hw hK hc i pins s σ H E I hf st hg
   subst hP hw hK
   obtain ⟨xs, x, hq, hx⟩ := hg
   obtain ⟨its, rv, p, hz⟩ := I.list hq
   obtain ⟨u, hu, ru⟩ := rv.get hx
   obtain ⟨⟨old, he⟩, hit⟩ := st
   have fe := hf e (by simp)
   have fi := hf it (by simp)
   have hT0 : H s.heap.objs.size = none := I.dw.fresh (afg _)
   have fT := I.wu (afg s.heap.objs.size) hT0
   refine PySem.wpAny_pyNext_enum_item he hit p.isList (x := u) (by simpa using hu) oG fun h' ho abl hT hsz hk => ⟨_, rfl, ?_⟩
   refine PySem.wpAny_letOwnedTupleGo_enum ho fun h2 he2 GQ => ?_
   replace GQ : Heap.SameBut e h' h2 := GQ
   have eT : e < s.heap.objs.size := afu he
   have keep : ∀ b o, b ≠ e -> b ≠ it -> s.heap.get? b = some o -> h2.get? b = some o := fun b o h1 h3 q => (GQ.2 b h1).trans (hk b o h1 h3 q)
   have hT2 : h2.get? s.heap.objs.size = some { cls := .type "tuple", data := .seq #[.int i s.toks, u] } := (GQ.2 _ (Nat.ne_of_gt eT)).trans hT
   have nH : ∀ b o, H b = some o -> b ≠ e /\ b ≠ it /\ b ≠ s.heap.objs.size := fun b o q => ⟨fun z => (by rw [z, fe.1] at q; cases q), fun z => (by rw [z, fi.1] at q; cases q), fun z => (by rw [z, hT0] at q; cases q)⟩
   have I' : L2.Inv X pins σ (upd H s.heap.objs.size (.tup [.int i, x])) { s with heap := h2, toks := s.toks + 1 } := by
     refine I.step (g' := s.gens) (d' := s.drawn) (ch := [e, it, s.heap.objs.size]) (fun b hb => ?_) (fun b o _ _ hc q _ => ?_) (fun b o _ _ hc q _ => ⟨o.slots, ?_⟩) (fun b o hc q n => ?_) (fun b o hc q => ⟨o, ?_⟩) (fun b ys q => ?_) (fun b o u q => ?_) (fun b ps q => ⟨#[], ?_⟩) (fun m hm => ?_) (fun b o q => ?_) I.bare
     . rcases afe.mp hb with z | hb
       . subst z; exact ⟨fe.2.2.2.1, fe.2.1, fe.2.2.2.2.1, fe.2.2.2.2.2⟩
       . rcases afe.mp hb with z | hb
         . subst z; exact ⟨fi.2.2.2.1, fi.2.1, fi.2.2.2.2.1, fi.2.2.2.2.2⟩
         . have z : b = s.heap.objs.size := by simpa using hb
           subst z; exact ⟨fT.2.2.2.1, fT.2.1, fT.2.2.2.2.1, fT.2.2.2.2.2⟩
     . exact keep b o (fun z => hc (by simp [z])) (fun z => hc (by simp [z])) q
     . exact keep b o (fun z => hc (by simp [z])) (fun z => hc (by simp [z])) q
     . rw [az (fun z => hc (by simp [z]))]; exact n
     . exact keep b o (fun z => hc (by simp [z])) (fun z => hc (by simp [z])) q
     . rw [az (nH b _ q).2.2]; exact q
     . rw [az (nH b _ q).2.2]; exact q
     . rw [az (nH b _ q).2.2, q]; simp
     . obtain ⟨o, es, ep, ho, r⟩ := hm
       exact ⟨o, es, ep, keep _ o (Ne.symm fe.2.1) (Ne.symm fi.2.1) ho, r⟩
     . by_cases hb : b = s.heap.objs.size
       . subst hb
         rw [aN] at q
         cases q
         exact ⟨af9 (cu (afh rfl)), [.int i s.toks, u], .cons ⟨s.toks, rfl⟩ (.cons ru .nil), ⟨_, hT2, rfl, _, rfl⟩⟩
       . rw [az hb] at q
         refine (I.dw b o q).ye (fun c v hc z => keep c v ?_ ?_ z) (fun c z => by rw [az (nH c _ z).2.2]; exact z) (fun c ys z => by rw [az (nH c _ z).2.2]; exact z) fun c ys z => by rw [az (nH c _ z).2.2]; exact z
         . rcases hc with z | z
           . rw [z]; exact (nH b _ q).1
           . exact (nH c _ z).1
         . rcases hc with z | z
           . rw [z]; exact (nH b _ q).2.1
           . exact (nH c _ z).2.1
   have ei : ((i + 1 : Nat) : Int) = (i : Int) + 1 := by omega
   refine ⟨.ref s.heap.objs.size, _, I', rfl, ⟨_, x, hT0, rfl, fun ys hy => by rw [I.uv hy hq]; exact hx, rfl⟩, ⟨⟨u, by rw [ei]; exact he2⟩, abl.at fun o q => (GQ.2 it (Ne.symm oG)).trans q⟩, fun b hb => ?_⟩
   have hb' := hf b hb
   obtain ⟨o, MK, _⟩ : ∃ o, s.heap.get? b = some o /\ True := by
     rcases afe.mp hb with z | z
     . subst z; exact ⟨_, he, trivial⟩
     . have z : b = it := by simpa using z
       subst z
       obtain ⟨o, q, _⟩ := hit
       exact ⟨o, q, trivial⟩
   rw [az (afO (afu MK))]
   exact hb'.1
 done := by
   intro X hP hw hK hc i pins s σ H E I hf st hg
   subst hP hw hK
   obtain ⟨xs, hq, hx⟩ := hg
   obtain ⟨its, rv, p, hz⟩ := I.list hq
   obtain ⟨⟨old, he⟩, hit⟩ := st
   obtain ⟨f0, f1, f2, f3, f4, f5⟩ := hf it (by simp)
   have hl := rv.length
   exact PySem.wpAny_pyNext_enum_end (I.ok.hd hc) he hit p.isList (by simp; omega) fun h' eb => ⟨rfl, I.turned (t' := s.toks) (fun b o hb e => eb b o hb e) f0 f1 f3 f4 f5⟩
 self := fun _ _ _ _ _ st h => by
   obtain ⟨⟨old, he⟩, _⟩ := st
   exact PySem.wpAny_pyIter_enum he h
section
variable {X : Cx} {elts : List Expr} {kk : Nat} {pt : Pos}
noncomputable def Yk (K : PySem.W.Frag) (ta : TA) : TI := fun σ H R => ta σ H fun vs H1 => ∃ a xs, vs = [.ref a] /\ kh K H1 a xs /\ R (Ite K a) H1
theorem NX {a : Expr} {ta : TA} {p pos : Pos} (hg : Gl X "enumerate") (hm : X.mg "enumerate" = none) (ha : PA X [a] ta) (hs : starEach [a] X.env = (false, eval a X.env) :: starEach [] X.env) : PI X (.Tuple elts kk pt) (.Call (.Name "enumerate" p) [a] [] pos) (Yk X.K ta) := by
 intro pins s σ H R I h
 refine Call_ (lA I hg hm boot_enumerate (agi (dU (ha pos pins s σ H _ I h) fun us s1 zz => ?_) hs rfl))
 obtain ⟨vs, H1, I1, r1, q1⟩ := zz
 obtain ⟨l, xs, e, hq, q⟩ := q1
 subst e
 cases r1 with
 | cons r rr =>
   cases rr
   cases r
   obtain ⟨its, rv, p, hz⟩ := I1.list hq
   refine PySem.call_enumerate_list p.isList fun h' he hit hsz hk => ?_
   have I2 : L2.Inv X pins σ H1 { s1 with heap := h' } := I1.kept (t' := s1.toks) fun b o e => hk b o e
   refine PySem.wpAny_pyIter_enum he ?_
   refine ⟨s1.heap.objs.size + 1, [s1.heap.objs.size + 1, s1.heap.objs.size], _, _, H1, rfl, I2, Hq l _ _ (Nat.succ_ne_self _), ⟨⟨_, he⟩, hit⟩, fun b hb => ?_, q⟩
   rcases afe.mp hb with z | z
   . subst z
     exact I1.wu (agW _) (I1.dw.fresh (agW _))
   . have z : b = s1.heap.objs.size := by simpa using z
     subst z
     exact I1.wu (afg _) (I1.dw.fresh (afg _))
end
noncomputable def uK (ds : List D) : List D := (List.range ds.length).map fun (i : Nat) => .tup [.int i, ds.getD i .non]
theorem rA (ds : List D) : (uK ds).length = ds.length := by simp [uK]
theorem Hr {ds : List D} {i : Nat} {d : D} (h : ds[i]? = some d) : (uK ds)[i]? = some (.tup [.int i, d]) := by
 have hi : i < ds.length := (afA.mp h).1
 unfold uK
 rw [afH, agm hi]
 show some (D.tup [.int i, ds.getD i .non]) = _
 rw [afk, h]
 rfl
section
variable {X : Cx} {CL : Str -> Addr} {b : Bx} {δ δ1 : List (Option T)} {e : Expr} {ds : List D} {elts : List Expr} {kk : Nat} {pt pr pc : Pos}
theorem NZ (hm : X.mg "enumerate" = none) (h : cg X CL b e δ (.sh (.lst ds)) δ1) (hg : Gl X "enumerate") (hs : starEach [e] X.env = (false, eval e X.env) :: starEach [] X.env := by exact bW rfl) : Sn X CL b (.Tuple elts kk pt) (.Call (.Name "enumerate" pr) [e] [] pc) δ (uK ds) δ1 := by
 refine ⟨_, NX hg hm (cD dR e9 hs) hs, fun H Z σ ts vs R S k => h H Z σ ts vs _ S fun v H1 Z1 z1 k1 S1 => ?_⟩
 obtain ⟨fp, gp, _, r, _, _⟩ := S1.rep
 cases r with
 | cons r _ =>
   cases r with
   | sh r =>
     cases r with
     | @lst a us _ hq rr =>
       have hl := rr.length
       refine ⟨a, us, rfl, S1.zh.seq hq, k _ _ ⟨Z1, z1, k1, S1.pop, fun i H2 s hi => ?_, fun i Z2 H2 x H' s1 s2 tp hi hy => ?_, fun H2 s => ?_⟩⟩
       . rw [rA] at hi
         have IU : i < us.length := by rw [← hl]; exact hi
         exact ⟨us, us[i], s.seq hq, afc IU⟩
       . rw [rA] at hi
         obtain ⟨T, y, hT, rfl, hx, rfl⟩ := hy
         obtain ⟨d, hd, rd⟩ := rr.JA (hx us ((s1.trans s2).seq hq))
         have gr : yE Z2 H2 _ _ := yE.tup (xs := [.int i, y]) s2 tp hT
         exact ⟨_, _, Hr hd, gr, .tup (sX.of aN) (.cons (.int _) (.cons ((rd.mono s1).mono gr.z) .nil))⟩
       . rw [rA]
         exact ⟨us, s.seq hq, by rw [← hl]; exact afg _⟩
end
section
variable {X : Cx}
theorem yG : bootBuiltins "sorted" = some (.builtin "sorted") := by decide +kernel
end
section
variable {X : Cx} {CL : Str -> Addr} {b : Bx} {δ δ1 : List (Option T)} {e : Expr} {pos pp : Pos}
theorem Hs {K : PySem.W.Frag} {Z : Hp} {l : List Int} {us : List V} (h : aC K CL Z (l.map D.int) us) : us = l.map V.int := by
 refine aC.ind (P := fun ds us => ∀ l : List Int, ds = l.map D.int -> us = l.map V.int) ?_ ?_ h l rfl
 . intro l e
   cases l with
   | nil => rfl
   | cons => cases e
 . intro d v ds vs r _ i l e
   cases l with
   | nil => cases e
   | cons a l =>
     injection e with e1 e2
     subst e1
     rw [i l e2]
     cases r
     rfl
end
section
variable {X : Cx}
end
section
variable {X : Cx} {CL : Str -> Addr} {b : Bx} {δ δ1 : List (Option T)} {e : Expr} {pos pp : Pos}
end
section
variable {prog : Program} {w : World} {A : Around} {s : Shared}
end
section
variable {prog : Program} {w : World} {A : Around} {s : Shared}
end
section
variable {X : Cx}
end
section
variable {X : Cx} {CL : Str -> Addr} {b : Bx} {δ δ1 : List (Option T)} {e : Expr} {ds : List D} {pos pp pq pr : Pos}
end
theorem rB {α β : Type} {f : α -> β} {l : List α} {j : Nat} {d : β} (h : (l.map f)[j]? = some d) : ∃ x, d = f x /\ l[j]? = some x /\ x ∈ l /\ j < l.length /\ l.drop j = x :: l.drop (j + 1) /\ l.take (j + 1) = l.take j ++ [x] := by
 rw [afH] at h
 cases hx : l[j]? with
 | none => rw [hx] at h; cases h
 | some x =>
   rw [hx] at h
   cases h
   have hj : j < l.length := (afA.mp hx).1
   have e : l[j] = x := (afA.mp hx).2
   exact ⟨x, rfl, rfl, afM hx, hj, by rw [List.drop_eq_getElem_cons hj, e], by rw [af8, hx]; rfl⟩
theorem Vg (n : Nat) {l : List Str} (h : ∀ x ∈ l, PyData.strOk x = true) : jk (n + 1) (.lst (l.map L3.D.str)) := .lst fun d hd => by
 obtain ⟨i, hi, rfl⟩ := afC.mp hd
 exact .str _ _ (h i hi)
noncomputable def D.at1 : L3.D -> L3.D
 | .tup (a :: _) => a
 | d => d
section
variable {X : Cx} {CL : Str -> Addr} {b : Bx} {δ δ1 : List (Option T)} {e : Expr} {elts : List Expr} {kk : Nat} {pt pr pc : Pos}
theorem Ht {α : Type} (f : α -> L3.D) (z : α) (l : List α) : uK (l.map f) = (List.range l.length).map fun (i : Nat) => L3.D.tup [.int i, f (l.getD i z)] := by
 unfold uK
 rw [afj]
 apply agc
 intro i hi
 have hi : i < l.length := af5.mp hi
 have : (l.map f).getD i .non = f (l.getD i z) := by
   rw [afk, afk, afH, afc hi]
   rfl
 rw [this]
theorem J7 {α : Type} {f : α -> L3.D} {l : List α} (z : α) (hm : X.mg "enumerate" = none) (h : cg X CL b e δ (.sh (.lst (l.map f))) δ1) (hg : Gl X "enumerate") (hs : starEach [e] X.env = (false, eval e X.env) :: starEach [] X.env := by exact bW rfl) :
   Sn X CL b (.Tuple elts kk pt) (.Call (.Name "enumerate" pr) [e] [] pc) δ ((List.range l.length).map fun (i : Nat) => L3.D.tup [.int i, f (l.getD i z)]) δ1 := by
 have := NZ (elts := elts) (kk := kk) (pt := pt) (pr := pr) (pc := pc) hm h hg hs
 rwa [Ht f z l] at this
end
section
variable {K : PySem.W.Frag} {CL : Str -> Addr} {b : Bx} {H H' Z Z' : Hp} {δ δ' : List (Option T)} {σ σ' : L2.St} {ts tl : List T} {vs us : List V} {t : T} {v : V}
end
section
variable {X : Cx} {CL : Str -> Addr} {b : Bx} {δ δ1 δ2 : List (Option T)} {e e2 : Expr} {t : T} {tl Nr tt tt0 : List T} {D : cW} {pos pp pa pb : Pos}
end
section
variable {X : Cx} {CL : Str -> Addr} {b : Bx} {δ δ1 : List (Option T)} {e : Expr} {t : T} {i : Nat} {x : Str} {pos pp : Pos} {DD : cW} {fK : List Stmt}
end
section
variable {X : Cx}
end
section
variable {K : PySem.W.Frag} {CL : Str -> Addr} {b : Bx} {H Z : Hp} {δ : List (Option T)} {σ : L2.St} {ts tl : List T} {vs : List V} {t : T} {v : V}
end
section
variable {X : Cx} {CL : Str -> Addr} {b : Bx} {δ δ1 : List (Option T)} {e : Expr} {t : T} {tl Nr : List T} {D : cW} {pos pp pa pb pc : Pos} {kj i : Nat} {x : Str} {fK : List Stmt}
end
section
variable {X : Cx} {CL : Str -> Addr} {b : Bx} {δ δ1 : List (Option T)} {e : Expr} {pos pp : Pos}
end
section
variable {K : PySem.W.Frag} {CL : Str -> Addr} {b : Bx} {H Z : Hp} {δ : List (Option T)} {σ : L2.St} {ts tl tl2 : List T} {vs : List V} {v : V}
end
section
variable {X : Cx} {CL : Str -> Addr} {b : Bx} {δ δ1 : List (Option T)} {e : Expr} {tl Nr tl2 : List T} {D : cW} {pos pp pa pb : Pos} {i : Nat} {x : Str} {fK : List Stmt}
end
section
variable {X : Cx} {CL : Str -> Addr} {b : Bx} {e1 e2 : Expr} {δ δ1 δ2 : List (Option T)} {ds : List L3.D} {pos : Pos}
noncomputable def Yl (K : PySem.W.Frag) : R2 := fun x y H Q => ∃ l k xs, x = .ref l /\ y = .int k /\ kh K H l xs /\ -(2 ^ 63) <= k /\ k < 2 ^ 63 /\ xs.length * k.toNat <= sizeLine ∧
 ∀ p, H p = none -> Q (.ref p) (upd H p (.lst (List.replicate k.toNat xs).flatten))
theorem N1 : qV X (binaryOp .Mult) (Yl X.K) := by
 intro pins s σ H x y v u Q I rx ry h
 obtain ⟨l, k, xs, rfl, rfl, hH, h1, h2, hz, q⟩ := h
 cases rx
 obtain ⟨t, rfl⟩ := ry
 obtain ⟨its, r, pl, _⟩ := I.list hH
 have hl := r.length
 obtain ⟨⟨c1, dd, da1, sl⟩, e, hc, n, hd⟩ := pl.isList
 cases hc; cases hd
 have hlen : its.toArray.size * k.toNat <= sizeLine := by rw [afz, ← hl]; exact hz
 have abn : ¬ its.toArray.size * k.toNat > (2 ^ 63 - 1) / 8 := by
   have : (sizeLine : Nat) <= (2 ^ 63 - 1) / 8 := by decide
   omega
 have abo : ¬ (!Builtin.List.listFitsIndex k) = true := by
   rw [fitsIndex_both h1 h2]
   exact afr
 have Ym : ¬ Builtin.List.listTooLong (its.toArray.size * k.toNat) = true := by
   rw [Jt hlen]
   exact afr
 have abp : List.foldl (fun x1 x2 => x1 ++ x2) #[] (List.replicate (if its.toArray.isEmpty = true then 0 else k.toNat) its.toArray) = (List.replicate k.toNat its).flatten.toArray := by
   have f0 : ∀ m : Nat, List.foldl (fun x1 x2 => x1 ++ x2) #[] (List.replicate m its.toArray) = (List.replicate m its).flatten.toArray := fun m => by
     have := foldl_rep its m []
     rw [agM] at this
     exact this
   rw [f0]
   cases its with
   | nil => simp
   | cons a r' => rw [ae9 (by simp)]
 refine wpAny_binaryOp_repeat_ref (T := "list") (U := "int") (by decide) ⟨_, e, rfl⟩ (fun s' => typeIs_int s' k t) noFill_list_mul F.fills_int_mul F.slot_int_rmul repeat_list F.slot_int_index.lookup
   (call_meets F.slot_int_rmul (typeIs_int s k t) F.entry_int_rmul (F.args_int_rmul_2 _ _) (lm_int_rmul_list_any k t l its.toArray n dd sl)
     ⟨e, rfl, ⟨_, e, rfl⟩, call_meets F.slot_list_mul ⟨_, e, rfl⟩ F.entry_list_mul (F.args_list_mul_2 _ _) (lm_list_mul_any l its.toArray n dd sl k t abo abn Ym) ⟨e, ?_⟩⟩)
 rw [abp]
 exact ⟨.ref _, _, I.XI (t' := s.toks) (r.rep k.toNat) (by rw [len_rep, Nat.mul_comm]; exact hz), rfl, q _ I.fresh⟩
theorem aC.rep {K : PySem.W.Frag} {Z : Hp} {ds : List L3.D} {vs : List V} (r : aC K CL Z ds vs) : ∀ k : Nat, aC K CL Z (List.replicate k ds).flatten (List.replicate k vs).flatten
 | 0 => .nil
 | k + 1 => by
   rw [agl, agl, agF, agF]
   exact aC.app r (aC.rep r k)
theorem F0 {k : Int} (h1 : cH X CL b e1 δ (.lst ds) δ1) (h2 : cH X CL b e2 δ1 (.int k) δ2) (i1 : D.bN ds = true) (k1 : -(2 ^ 63) <= k) (k2 : k < 2 ^ 63) (hz : ds.length * k.toNat <= sizeLine) :
   cg X CL b (.BinOp e1 .Mult e2 pos) δ (.lst ((List.replicate k.toNat ds).flatten.map T.sh)) δ2 := fun H Z σ ts vs Q S kk =>
 cZ (Jf N1 dR dR) (h1 H Z σ ts vs _ S fun v1 H1 Z1 z1 q1 S1 r1 => h2 H1 Z1 σ ts vs _ S1 fun v2 H2 Z2 z2 q2 S2 r2 => by
   have UH := r1.mono q2
   cases UH with
   | lst hq1 WY =>
     cases r2 with
     | int =>
       refine ⟨_, _, _, rfl, rfl, hq1, k1, k2, by rw [← WY.length]; exact hz, fun p hp => ?_⟩
       have rc := aC.rep (aC.jg S2.tp i1 WY) k.toNat
       obtain ⟨c, S4⟩ := (bX.sE rc S2).oF (g0 := []) (by rw [afj, rc.length]) hp
       exact kk _ _ _ (z1.trans z2) (q1.trans (q2.trans c)) S4)
end
section
variable {X : Cx} {CL : Str -> Addr} {b : Bx} {δ : List (Option T)} {x : Str} {pos : Pos}
end
section
variable {X : Cx} {CL : Str -> Addr} {b : Bx} {e1 e2 e iter : Expr} {δ δ1 δ2 : List (Option T)} {pos : Pos}
end
section
variable {X : Cx} {CL : Str -> Addr} {b : Bx} {e : Expr} {δ δ1 δ2 δ3 : List (Option T)} {pos p2 : Pos}
noncomputable def abq : V -> Option Int -> Option Int -> Hp -> VK -> Prop := fun x lo hi H Q => ∃ z, x = .str z /\ z.length <= sizeLine /\ Q (.str (Txt.slice z lo hi)) H
theorem Vh : SlR X abq := by
 intro pins s σ H x v vl vu lo hi sl Q I rx hs pl pu h
 obtain ⟨z, rfl, hz, q⟩ := h
 obtain ⟨t, rfl⟩ := rx
 obtain ⟨o, ho, hc, hd⟩ := hs
 have fin : ∀ t' k, EP X pins σ Q (.str (Txt.slice z lo hi) t') { s with toks := k } := fun t' k => ⟨.str _, H, I.tok k, ⟨t', rfl⟩, q⟩
 refine ⟨"str", _, F.slot_str_getitem.lookup, typeIs_str _ _ _, ?_⟩
 cases pl with
 | none =>
   cases pu with
   | none => exact agK (l := none) (u := none) (st := none) ⟨o, ho, hc, hd⟩ rfl (post_val_or_str ⟨afU (Txt.slice_le z _ _) hz, fin⟩)
   | int j uj => exact agK (l := none) (u := some (j, uj)) (st := none) ⟨o, ho, hc, hd⟩ rfl (post_val_or_str ⟨afU (Txt.slice_le z _ _) hz, fin⟩)
 | int i ui =>
   cases pu with
   | none => exact agK (l := some (i, ui)) (u := none) (st := none) ⟨o, ho, hc, hd⟩ rfl (post_val_or_str ⟨afU (Txt.slice_le z _ _) hz, fin⟩)
   | int j uj => exact agK (l := some (i, ui)) (u := some (j, uj)) (st := none) ⟨o, ho, hc, hd⟩ rfl (post_val_or_str ⟨afU (Txt.slice_le z _ _) hz, fin⟩)
theorem Hu {lo hi : Option Expr} {l h : Option Int} {z : Str} (h1 : cH X CL b e δ (.str z) δ1) (hz : z.length <= sizeLine) (h2 : WX X CL b lo δ1 l δ2) (h3 : WX X CL b hi δ2 h δ3) : cg X CL b (.Subscript e (.Slice lo hi none p2) pos) δ (.sh (.str (Txt.slice z l h))) δ3 := fun H Z σ ts vs Q S k => by
 obtain ⟨t2, po2, w2⟩ := h2
 obtain ⟨t3, po3, w3⟩ := h3
 refine cZ (Bu Vh dR po2 po3) (h1 H Z σ ts vs _ S fun v H1 Z1 z1 k1 S1 r => w2 H1 Z1 σ ts vs _ S1 fun H2 Z2 z2 k2 S2 => w3 H2 Z2 σ ts vs _ S2 fun H3 Z3 z3 k3 S3 => ?_)
 exact ⟨z, r.sc rfl, hz, k _ H3 Z3 (z1.trans (z2.trans z3)) (k1.trans (k2.trans k3)) (S3.push (.str _))⟩
end
end L3
namespace L3
open PySem PySem.Spec PyProof.Rows L2 PySem.Builtin PySem.Builtin.Str
section
variable {X : Cx} {CL : Str -> Addr} {b : Bx} {e o : Expr} {δ δ1 δ2 : List (Option T)} {pos apos : Pos}
end
end L3
namespace L3
open PySem PySem.Spec PyProof.Rows L2
section
variable {X : Cx} {CL : Str -> Addr} {b : Bx} {δ : List (Option T)} {pos pp : Pos} {x : Str}
theorem c0 {k n : Nat} {A : Type} {arg : A -> List L3.D} {Pre : A -> Prop} {res : A -> T} (a : A) (F : Fc X CL x k n arg Pre res) (hg : Gl X x) (ha : arg a = []) (hp : Pre a) (hc : (res a).clean = true) (hn : (arg a).length = n := by rfl)
   (wA : (x == ("__debug__" : Str)) = false := by decide) : cg X CL b (.Call (.Name x pp) [] [] pos) δ (res a) δ := by
 obtain ⟨f, fd, ps, F1, m, kk, bb⟩ := F.ex
 intro H Z σ ts vs Q S k
 refine cZ (Jo F1 F.room hg m kk bb .nil FL wA) ?_
 refine ⟨H, a, .refl _, fun _ _ q _ => q, by rw [ha]; exact .nil, hn, hp, S.G8, fun v H' W' fp hh ww wh nw tp rt nd own => ?_⟩
 obtain ⟨Z', z', S'⟩ := S.back hh S.zh ww wh nw tp rt nd own (.inr hc)
 exact k v H' Z' z' hh S'
end
noncomputable def Hv : Key -> D
 | .inl i => .int i
 | .inr x => .str x
noncomputable def uL (kvs : List (Key × D)) (k : Key) (d : D) : List (Key × D) :=
 if (kvs.any fun kv => decide (kv.1 = k)) = true then kvs.map (fun kv => if kv.1 = k then (kv.1, d) else kv) else kvs ++ [(k, d)]
section
variable {K : PySem.W.Frag} {CL : Str -> Addr} {b : Bx} {H Z : Hp} {δ : List (Option T)} {σ : L2.St} {ts tl : List T} {vs : List V} {t : T} {v : V} {d : D} {kvs : List (Key × D)} {gs : List (Key × V)}
theorem bz.length {kvs : List (Key × D)} {gs : List (Key × V)} (h : bz K CL Z kvs gs) : kvs.length = gs.length :=
 bz.ind (P := fun kvs gs => kvs.length = gs.length) rfl (fun _ _ i => congrArg (· + 1) i) h
theorem bz.keys {kvs : List (Key × D)} {gs : List (Key × V)} (h : bz K CL Z kvs gs) : kvs.map (·.1) = gs.map (·.1) :=
 bz.ind (P := fun kvs gs => kvs.map (·.1) = gs.map (·.1)) rfl (fun {x _ _ _ _} _ _ i => congrArg (x :: ·) i) h
theorem bz.any {k : Key} : ∀ {kvs : List (Key × D)} {gs : List (Key × V)}, bz K CL Z kvs gs -> (kvs.any fun kv => decide (kv.1 = k)) = (gs.any fun kv => decide (kv.1 = k))
 | _, _, .nil => rfl
 | _, _, .cons _ r => by rw [ago, ago, bz.any r]
theorem bz.repl {k : Key} (q : aZ K CL Z d v) : ∀ {kvs : List (Key × D)} {gs : List (Key × V)}, bz K CL Z kvs gs -> bz K CL Z (kvs.map (fun kv => if kv.1 = k then (kv.1, d) else kv)) (gs.map (fun kv => if kv.1 = k then (kv.1, v) else kv))
 | _, _, .nil => .nil
 | _, _, .cons (x := x) h r => by
   rw [afx, afx]
   by_cases e : x = k
   . rw [afa e, afa e]; exact .cons q (bz.repl q r)
   . rw [ae9 e, ae9 e]; exact .cons h (bz.repl q r)
theorem bz.snoc {k : Key} (q : aZ K CL Z d v) : ∀ {kvs : List (Key × D)} {gs : List (Key × V)}, bz K CL Z kvs gs -> bz K CL Z (kvs ++ [(k, d)]) (gs ++ [(k, v)])
 | _, _, .nil => .cons q .nil
 | _, _, .cons h r => .cons h (bz.snoc q r)
theorem bz.put {k : Key} (q : aZ K CL Z d v) (r : bz K CL Z kvs gs) : bz K CL Z (uL kvs k d) (putK gs k v) := by
 unfold uL putK
 rw [r.any]
 split
 . exact r.repl q
 . exact r.snoc q
theorem aZ.key {k : Key} (r : aZ K CL Z (Hv k) v) : v = kV k := by
 cases k with
 | inl i => exact r.sc rfl
 | inr x => exact r.sc rfl
theorem N2 {Z : Hp} (k : Key) : aZ K CL Z (Hv k) (kV k) := by
 cases k with
 | inl i => exact .int i
 | inr x => exact .str x
theorem B3 {Z : Hp} : ∀ ks : List Key, aC K CL Z (ks.map Hv) (ks.map kV)
 | [] => .nil
 | k :: ks => .cons (N2 k) (B3 ks)
theorem bX.Vi {p : Addr} (S : bX K CL b H Z δ σ ts vs) (hp : H p = none) : aD H (upd H p (.dK [])) /\ bX K CL b (upd H p (.dK [])) Z δ σ (.jL [] :: ts) (.ref p :: vs) := by
 obtain ⟨fp, gp, e, r, nd, k⟩ := S.rep
 have zp : Z p = none := S.zh.free hp
 have sh : aD H (upd H p (.dK [])) := aD.upd hp
 have keep : ∀ a ∈ fp ++ gp, a ≠ p := fun a ha => by
   have : ∃ o, H a = some o := by
     rcases afm.mp ha with h | h
     . exact e.there a h
     . exact r.there a h
   obtain ⟨o, q⟩ := this
   exact aE q hp
 refine ⟨sh, ⟨⟨fp, [p] ++ gp, e.mono (.refl _) (fun a ha => az (keep a (afl _ ha))), .cons (.jL aN .nil) (r.mono (.refl _) fun a ha => az (keep a (by simp [ha]))), ?_, fun a ha => ?_⟩, S.bh.trans sh, S.zz, S.zh.trans sh, S.new, fun a o q i => ?_, S.tab⟩⟩
 . refine (agx (l₁ := fp) (l₂ := gp) (a := p)).nodup_iff.mpr (age.mpr ⟨fun h => keep p h rfl, nd⟩)
 . rcases afe.mp ((agx (l₁ := fp) (l₂ := gp) (a := p)).mem_iff.mp ha) with h | h
   . subst h; exact ⟨zp, S.bh.free hp⟩
   . exact k a h
 . by_cases ha : a = p
   . subst ha; rw [aN] at q; cases q; cases i
   . rw [az ha] at q; exact S.tp a o q i
theorem bX.Vj {i : Nat} (k : Key) (S : bX K CL b H Z δ σ (.sh d :: ts) (v :: vs)) (hi : δ[i]? = some (some (.jL kvs))) :
   ∃ a gs, σ[i]? = some (some (.ref a)) /\ H a = some (.dK gs) /\ gs.length = kvs.length /\ bX K CL b (upd H a (.dK (putK gs k v))) Z (δ.set i (some (.jL (uL kvs k d)))) σ ts vs := by
 obtain ⟨fp, gp, e, r, nd, kk⟩ := S.rep
 obtain ⟨v0, f1, f2, f3, hv, sC, rt, put, _⟩ := e.get hi
 subst sC
 cases rt with
 | @jL a gs _ ha rs =>
   cases r with
   | @cons _ _ _ _ ft gr q1 q2 =>
     cases q1 with
     | sh q1 =>
       have ne : ∀ c ∈ (f1 ++ f3) ++ gr, c ≠ a := fun c hc e => by
         subst e
         have hp : ((f1 ++ ([c] ++ f3)) ++ ([] ++ gr)).Perm (c :: ((f1 ++ f3) ++ gr)) := by
           rw [agM, List.singleton_append]
           exact (agx.append_right _)
         exact (age.mp (hp.nodup_iff.mp nd)).1 hc
       refine ⟨a, gs, hv, ha, rs.length.symm, ?_⟩
       have r1 : cK K CL (upd H a (.dK (putK gs k v))) Z (.jL (uL kvs k d)) (.ref a) [a] := .jL aN (rs.put q1)
       have e2 := put (H' := upd H a (.dK (putK gs k v))) (.refl _) (fun c hc => az (ne c (by
         rcases afm.mp hc with h | h
         . simp [h]
         . simp [h]))) r1
       rw [pN hv] at e2
       exact S.JY rfl kk (by simp) e2 (q2.mono (.refl _) fun c hc => az (ne c (by simp [hc]))) nd fun c hc => hc
end
theorem uM {X : Cx} (hc : X.calm = true) : pK X (.type "list") (fun xs H Q => ∃ p kvs, xs = [.ref p] /\ H p = some (.dK kvs) /\ ∀ l, H l = none -> Q (.ref l) (upd H l (.lst ((kvs.map (·.1)).map kV)))) := by
 intro pins s σ H xs us Q I r h
 obtain ⟨p, kvs, rfl, hq, q⟩ := h
 obtain ⟨u, rfl, rx⟩ := vals1 r
 cases rx
 obtain ⟨z, hd, ws, rel, dd⟩ := R9 I.dw hq
 obtain ⟨ep, DP⟩ := dd.dictAt
 refine PySem.W.kdl_call (PySem.W.kdl_dict (knd := dW X.prog X.w) (kvs := ws) (ep := ep) hd) (I.ok.hd hc) DP (by rw [← rel.length]; exact z) fun h' tk N3 c' hk e NR => ?_
 have hl : N3.toList.length = ws.length := by rw [agk]; exact NR.1
 have hv : Vals ((kvs.map (·.1)).map kV) N3.toList := by
   rw [rel.keys]
   have gen : ∀ (l : List (Key × Value)) (m : List Value), m.length = l.length -> (∀ (j : Nat) (x : Value), m[j]? = some x -> ∃ k y, l[j]? = some (k, y) /\ (dW X.prog X.w).is k x = true) -> Vals ((l.map (·.1)).map kV) m := by
     intro l
     induction l with
     | nil => intro m hm _; cases m with
       | nil => exact .nil
       | cons _ _ => simp at hm
     | cons p l ih =>
       intro m hm hx
       cases m with
       | nil => simp at hm
       | cons x m =>
         obtain ⟨k, y, e1, e2⟩ := hx 0 x rfl
         simp at e1
         subst e1
         refine .cons ?_ (ih m (by simpa using hm) fun j x' hj => by simpa using hx (j + 1) x' (by simpa using hj))
         rcases cQ e2 with ⟨i, t, h1, h2⟩ | ⟨i, t, h1, h2⟩
         . subst h1 h2; exact ⟨t, rfl⟩
         . subst h1 h2; exact ⟨t, rfl⟩
   exact gen ws N3.toList hl fun j x hj => NR.2 j x (by rw [← agD]; exact hj)
 refine ⟨.ref s.heap.objs.size, _, I.laid (t' := tk) hk (Nat.le_refl _) (show d9 X.prog X.w _ h' _ (.lst ((kvs.map (·.1)).map kV)) from ⟨by simpa using z, N3.toList, c', hv, by simpa using e⟩), rfl, q _ (I.dw.fresh (Nat.le_refl _))⟩
section
variable {X : Cx} {CL : Str -> Addr} {b : Bx} {δ δ1 δ2 : List (Option T)} {e e1 e2 : Expr} {t : T} {d : L3.D} {D : cW} {pos pp ps : Pos} {i : Nat} {x : Str} {fK : List Stmt} {kvs : List (Key × L3.D)} {k : Key}
theorem N4 : cg X CL b (.Dict [] [] pos) δ (.jL []) δ := fun H Z σ ts vs Q S kk => cZ Jz fun p hp => by
 obtain ⟨c, S1⟩ := S.Vi hp
 exact kk _ _ Z (.refl _) c S1
theorem Vk (k : Key) (hu : X.A.units + 64 < cLine) (n : Vn X i x) (h : cg X CL b e δ (.sh d) δ1) (h2 : cH X CL b e2 δ1 (Hv k) δ1) (h1 : δ1[i]? = some (some (.jL kvs))) (hl : kvs.length <= 1000000) (kk : eO X CL b fK (δ1.set i (some (.jL (uL kvs k d)))) D)
   (hs : swapsWith e (some (.Subscript (.Name x pp) e2 ps)) pos.line X.env = pure false := by rfl) :
   eO X CL b (.Assign [.Subscript (.Name x pp) e2 ps] e pos :: fK) δ D := dN fun H Z σ ts vs E S M =>
 uB (Nb (by omega) (lz n.hi n.hv n.hd n.iD) dR dR hs) (h H Z σ ts vs _ S fun v H1 Z1 z1 k1 S1 => by
   obtain ⟨v0, e0, _⟩ := S1.look h1
   refine ⟨v0, e0, h2 H1 Z1 σ _ _ _ S1 fun v2 H2 Z2 z2 k2 S2 r2 => ?_⟩
   obtain ⟨a, gs, ea, ha, hg, S3⟩ := S2.Vj k h1
   rw [e0] at ea
   cases ea
   exact ⟨a, _, rfl, by rw [r2.key]; exact Jx.k ha (by rw [hg]; exact Nat.lt_of_le_of_lt hl (by rw [afP]; decide)), M.nx _ σ _ Z2 (z1.trans z2) S3 kk⟩)
theorem J8 (g : Gx X) (hm : X.mg "list" = none) (h : cH X CL b e δ (.jL kvs) δ1) (hg : Gl X "list") (hs : starEach [e] X.env = (false, eval e X.env) :: starEach [] X.env := by exact bW rfl) : cg X CL b (.Call (.Name "list" pp) [e] [] pos) δ (.lst (((kvs.map (·.1)).map Hv).map T.sh)) δ1 := fun H Z σ ts vs Q S k =>
 cZ (jK (uM g.calm) hg hm bG (cD dR e9 hs) (he := hs)) (h H Z σ ts vs _ S fun v H1 Z1 z1 k1 S1 r => by
   cases r with
   | @jL a gs _ ha rr =>
     refine ⟨a, gs, rfl, ha, fun l hl => ?_⟩
     rw [← rr.keys]
     obtain ⟨c, S2⟩ := (bX.sE (B3 (kvs.map (·.1))) S1).oF (g0 := []) (by simp) hl
     exact k _ _ _ z1 (k1.trans c) S2)
end
section
variable {K : PySem.W.Frag} {CL : Str -> Addr} {b : Bx} {H Z : Hp} {δ : List (Option T)} {σ : L2.St} {ts : List T} {vs : List V} {t : T} {v w : V} {f c : Str} {IV : List (Str × T)}
theorem bQ.N5 {ft : List Addr} (rt : cK K CL H Z t v ft) : ∀ {B4 : List (Str × T)} {gs : List (Str × V)} {fp : List Addr}, bQ K CL H Z (B4 ++ (f, .sh (.val v)) :: IV) gs fp -> ∃ FQ, bQ K CL H Z (B4 ++ (f, t) :: IV) gs FQ /\ FQ.Perm (fp ++ ft)
 | [], _, _, r => by
   cases r with
   | @cons _ _ v' _ _ f1 gp h r =>
     cases h with
     | sh h =>
       cases h
       exact ⟨ft ++ gp, .cons rt r, afX⟩
 | (y, u) :: B4, _, _, r => by
   cases r with
   | @cons _ _ v' _ _ f1 gp h r =>
     obtain ⟨FQ, r', p⟩ := bQ.N5 rt (B4 := B4) r
     refine ⟨f1 ++ FQ, .cons h r', ?_⟩
     rw [afi]
     exact p.append_left f1
theorem bX.N5 {B4 : List (Str × T)} (S : bX K CL b H Z δ σ (.ins c (B4 ++ (f, .sh (.val v)) :: IV) :: t :: ts) (w :: v :: vs)) : bX K CL b H Z δ σ (.ins c (B4 ++ (f, t) :: IV) :: ts) (w :: vs) := by
 obtain ⟨fp, gp, e, r, nd, k⟩ := S.rep
 cases r with
 | @cons _ _ _ _ g1 g2 r1 r2 =>
   cases r2 with
   | @cons _ _ _ _ g3 g4 r3 r4 =>
     cases r1 with
     | @ins a dx _ gs _ fp1 ha rf =>
       obtain ⟨FQ, rf', p⟩ := bQ.N5 r3 rf
       have pm : (fp ++ ((a :: FQ) ++ g4)).Perm (fp ++ ((a :: fp1) ++ (g3 ++ g4))) := by
         refine af1 fp ?_
         rw [← afi]
         refine List.Perm.append_right g4 ?_
         rw [afF]
         exact List.Perm.cons a p
       exact ⟨⟨fp, (a :: FQ) ++ g4, e, .cons (.ins ha rf') r4, pm.nodup_iff.mpr nd, fun c hc => k c (pm.mem_iff.mp hc)⟩, S.bh, S.zz, S.zh, S.new, S.tp, S.tab⟩
end
noncomputable def ZX (X : Cx) (CL : Str -> Addr) (b : Bx) (es : List Expr) (δ : List (Option T)) (dv : V -> List D) (t : T) (δ' : List (Option T)) : Prop :=
 ∀ (H Z : Hp) (σ : L2.St) (ts : List T) (vs : List V) (Q : List V -> Hp -> Prop), bX X.K CL b H Z δ σ ts vs →
   (∀ us H' Z' v, aD Z Z' -> aD H H' -> bX X.K CL b H' Z' δ' σ (t :: ts) (v :: vs) -> aC X.K CL H' (dv v) us -> Q us H') -> JB X es σ H Q
theorem T.uN {f : Str} {v : V} {IV : List (Str × T)} (h2 : T.bf IV = true) : ∀ {B4 : List (Str × T)}, T.bf B4 = true -> T.bf (B4 ++ (f, .sh (.val v)) :: IV) = true
 | [], _ => by rw [agM, T.bf, h2]; rfl
 | (x, t) :: B4, h => by
   rw [T.bf, afJ] at h
   rw [afF, T.bf, h.1, T.uN h2 h.2]; rfl
section
variable {X : Cx} {CL : Str -> Addr} {b : Bx} {δ δ1 δ2 : List (Option T)} {e o : Expr} {es : List Expr} {pos pp apos : Pos} {t : T} {ds : List D} {d : D} {dv : V -> List D}
theorem J9 (h : cg X CL b e δ t δ1) (r : Sd X CL b es δ1 ds δ2) (hs : notStar e = true := by rfl) : ZX X CL b (e :: es) δ (fun v => .val v :: ds) t δ2 := fun H Z σ ts vs Q S k =>
 G7 (cD dR Ng (bW hs)) (h H Z σ ts vs _ S fun v H1 Z1 z1 k1 S1 => r H1 Z1 σ _ _ _ S1 fun us H2 Z2 z2 k2 S2 r2 => k (v :: us) H2 Z2 v (z1.trans z2) (k1.trans k2) S2 (.cons (.val v) r2))
theorem B5 (h : cH X CL b e δ d δ1) (r : ZX X CL b es δ1 dv t δ2) (hs : notStar e = true := by rfl) : ZX X CL b (e :: es) δ (fun v => d :: dv v) t δ2 := fun H Z σ ts vs Q S k =>
 G7 (cD dR Ng (bW hs)) (h H Z σ ts vs _ S fun v H1 Z1 z1 k1 S1 r1 => r H1 Z1 σ ts vs _ S1 fun us H2 Z2 v2 z2 k2 S2 r2 => k (v :: us) H2 Z2 v2 (z1.trans z2) (k1.trans k2) S2 (.cons (r1.mono k2) r2))
variable {A : Type} {k n : Nat} {arg : A -> List D} {Pre : A -> Prop} {x c m f : Str}
theorem mkP {res : A -> List (Str × T)} (a : V -> A) {B4 IV : List (Str × T)} (F : Fm X CL x k n arg Pre res) (hg : Gl X x) (h : ZX X CL b (e :: es) δ dv t δ1) (ha : ∀ v, arg (a v) = dv v) (hp : ∀ v, Pre (a v)) (hr : ∀ v, res (a v) = B4 ++ (f, .sh (.val v)) :: IV) (hc : T.bf B4 = true) (U4 : T.bf IV = true) (hn : ∀ v, (arg (a v)).length + 1 = n := by exact fun _ => rfl)
   (wA : (x == ("__debug__" : Str)) = false := by decide) (he : starEach (e :: es) X.env = (false, eval e X.env) :: starEach es X.env := by exact bW rfl) (sy : (backTo pos (starEach es X.env)).any (·.1) = false := by rfl) :
   cg X CL b (.Call (.Name x pp) (e :: es) [] pos) δ (.ins x (B4 ++ (f, t) :: IV)) δ1 := fun H Z σ ts vs Q S kk => by
 obtain ⟨f', fd, ps, M, F1, hm, hb⟩ := F.ex
 exact cZ (FH M F1 F.room hg hm hb .nil FL Ng wA he sy) (h H Z σ ts vs _ S fun us H1 Z1 v z1 k1 S1 r y dx hx Yc ne => by
   rw [afQ]
   refine ⟨H1, H1, a v, y, dx, us, rfl, hx, Yc, ne, rfl, .refl _, fun _ _ q _ => q, by rw [ha]; exact r, hn v, hp v, S1.G8, fun H' W' fp hh ww wh nw tp rt nd own => ⟨rfl, ?_⟩⟩
   obtain ⟨Z', z', S'⟩ := S1.back hh S1.zh ww wh nw tp rt nd own (.inr (by rw [T.clean, hr]; exact T.uN U4 hc))
   rw [hr] at S'
   exact kk _ H' Z' (z1.trans z') (k1.trans hh) S'.N5)
end
section
variable {X : Cx}
end
section
variable {X : Cx} {CL : Str -> Addr} {b : Bx} {δ δ1 : List (Option T)} {e : Expr} {pos pp : Pos} {l : List Bool}
end
namespace Rv
theorem Hw : PySem.Slot "reversed" "__init__" "object.__init__" :=
 .of (owner := "object") (n := "__init__") (by rw [typeLookup_type, builtinLookup_eq_fast]; kernel_rfl) (by decide +kernel) (by decide +kernel) (by decide +kernel)
   (by first | exact .inl (by decide +kernel) | exact .inr (by decide +kernel)) (by rw [isSubtype_type]; kernel_rfl)
theorem called : TypeCalled "reversed" "reversed.__new__" "object.__init__" :=
 ⟨by decide +kernel, by decide +kernel, ⟨_, _, PySem.F.mro_reversed⟩, PySem.F.made_reversed, by decide +kernel, PySem.F.sub_reversed_self, Hw⟩
noncomputable def obj (t : Addr) (i : Int) : Obj := { cls := .type "reversed", data := .fields #[.ref t, rawInt i] }
section
variable {prog : Program} {w : World} {A : Around} {E : Value -> Shared -> Prop} {s : Shared}
end
end Rv
namespace Rv
section
variable {prog : Program} {w : World} {A : Around} {E : Value -> Shared -> Prop} {s : Shared}
end
end Rv
section
variable {X : Cx} {tg : Expr}
end
section
variable {X : Cx} {CL : Str -> Addr} {b : Bx} {δ δ1 : List (Option T)} {e : Expr} {ds : List D} {tg : Expr} {pr pc : Pos}
end
section
variable {X : Cx} {CL : Str -> Addr} {b : Bx} {δ δ1 : List (Option T)} {e : Expr} {t : T} {tl Nr tt tt0 : List T} {D : cW} {pos pp pa pb : Pos}
variable {fK : List Stmt} {i i2 : Nat} {x y : Str} {DD : cW}
end
section
variable {X : Cx} {CL : Str -> Addr} {b : Bx} {δ δ1 : List (Option T)} {e : Expr} {ds : List D} {tg : Expr} {pr pc : Pos} {l : Bool}
end
section
variable {X : Cx} {CL : Str -> Addr} {b : Bx} {δ : List (Option T)}
end
section
variable {K : PySem.W.Frag} {CL : Str -> Addr} {b : Bx} {H Z : Hp} {δ : List (Option T)} {σ : L2.St} {ts tl : List T} {vs : List V} {ds : List D} {us : List V}
end
section
variable {X : Cx} {CL : Str -> Addr} {b : Bx} {δ δ1 : List (Option T)} {e : Expr} {tl Nr : List T} {ds : List L3.D} {D : cW} {pos pp pa pb : Pos} {i : Nat} {x : Str} {fK : List Stmt}
end
section
variable {X : Cx} {CL : Str -> Addr} {b : Bx} {δ δ1 δ2 δ3 : List (Option T)} {e e1 e2 : Expr} {ds Hi : List L3.D} {pos p2 : Pos}
end
section
variable {a₀ xs : Array Keyed} {ι : Nat -> Nat} {n : Nat}
structure Tag (a₀ xs : Array Keyed) (ι : Nat -> Nat) (n : Nat) : Prop where
 pl : ∀ k, k < a₀.size -> xs[k]? = a₀[ι k]?
 lo : ∀ k, k < n -> ι k < n
 hi : ∀ k, n <= k -> ι k = k
noncomputable def lN (xs : Array Keyed) (ι : Nat -> Nat) (n : Nat) : Prop := ∀ i j, i < j -> j < n -> PyProof.Rows.K xs i < PyProof.Rows.K xs j \/ (PyProof.Rows.K xs i = PyProof.Rows.K xs j /\ ι i < ι j)
noncomputable def wH (xs : Array Keyed) (ι : Nat -> Nat) (n : Nat) : Prop := ∀ i j, i < j -> j < n -> PyProof.Rows.K xs j < PyProof.Rows.K xs i \/ (PyProof.Rows.K xs j = PyProof.Rows.K xs i /\ ι j < ι i)
theorem Tag.grow (h : Tag a₀ xs ι n) : Tag a₀ xs ι (n + 1) := ⟨h.pl, fun k hk => by
   by_cases e : k < n
   . have := h.lo k e
     omega
   . have := h.hi k (by omega)
     omega, fun k hk => h.hi k (by omega)⟩
theorem Tag.abr (h : Tag a₀ xs ι n) {m : Nat} (hm : n <= m) : Tag a₀ xs ι m := ⟨h.pl, fun k hk => by
   by_cases e : k < n
   . have := h.lo k e
     omega
   . have := h.hi k (by omega)
     omega, fun k hk => h.hi k (by omega)⟩
noncomputable def turned (ι : Nat -> Nat) (i j : Nat) : Nat -> Nat := fun k => if i <= k /\ k < j then ι (i + j - 1 - k) else ι k
theorem Tag.turn (h : Tag a₀ xs ι n) {i j : Nat} (hj : j <= n) (hn : n <= a₀.size) (hs : xs.size = a₀.size) : Tag a₀ (mirror xs i j ((j - i) / 2)) (turned ι i j) n := by
 refine ⟨fun k hk => ?_, fun k hk => ?_, fun k hk => ?_⟩
 . rw [getElem?_mirror_all (by omega)]
   unfold turned
   split
   . exact h.pl _ (by omega)
   . exact h.pl _ hk
 . unfold turned
   split
   . exact h.lo _ (by omega)
   . exact h.lo _ hk
 . unfold turned
   rw [ae9 (by omega)]
   exact h.hi k hk
noncomputable def Hx (ι : Nat -> Nat) (k l : Nat) : Nat -> Nat := fun p => if p = l then ι k else if l < p /\ p <= k then ι (p - 1) else ι p
theorem Tag.sink (h : Tag a₀ xs ι n) {l : Nat} (hl : l <= n) (hn : n < a₀.size) (hs : xs.size = a₀.size) : Tag a₀ (bubble xs n (n - l)) (Hx ι n l) (n + 1) := by
 have hg := h.grow
 refine ⟨fun k hk => ?_, fun k hk => ?_, fun k hk => ?_⟩
 . rw [getElem?_bubble (by omega) (n - l) (by omega), show n - (n - l) = l by omega]
   unfold Hx
   split
   . exact h.pl _ (by omega)
   . split
     . exact h.pl _ (by omega)
     . exact h.pl _ hk
 . unfold Hx
   split
   . exact hg.lo _ (by omega)
   . split
     . exact hg.lo _ (by omega)
     . exact hg.lo _ hk
 . unfold Hx
   rw [ae9 (by omega), ae9 (by omega)]
   exact hg.hi k hk
theorem lN.le (h : lN xs ι n) {i j : Nat} (B6 : i <= j) (hj : j < n) : PyProof.Rows.K xs i <= PyProof.Rows.K xs j := by
 by_cases e : i = j
 . subst e; exact Int.le_refl _
 . rcases h i j (by omega) hj with z | z <;> omega
end
section
variable {prog : Program} {w : World} {A : Around} {E : Value -> Shared -> Prop} {s : Shared} {a₀ : Array Keyed}
theorem B7 {st : SortSt} {ι : Nat -> Nat} {a fq : Nat} {Q : AscSt -> SortSt -> Prop} (h0 : IntKeys a₀) (hn : fq <= a₀.size) (ha : 1 <= a) (han : a <= fq) (hB : SBase a₀ st)
   (ht : Tag a₀ (arrOf st) ι a) (hs : lN (arrOf st) ι a)
   (h : ∀ n, a <= n -> n <= fq -> Tag a₀ (arrOf st) ι n -> lN (arrOf st) ι n -> (n = fq \/ PyProof.Rows.K (arrOf st) n < PyProof.Rows.K (arrOf st) (n - 1)) -> Q (none, n) st) :
   wpS (model prog w) A E s (ascLoop a fq) Q st := by
 unfold ascLoop
 refine ag1 (I := fun x c z => z = st /\ c = (none, x) /\ Tag a₀ (arrOf st) ι x /\ lN (arrOf st) ι x) ?one ?all ⟨rfl, rfl, ht, hs⟩
 case all =>
   rintro c z ⟨rfl, rfl, t, o⟩
   have e : max a fq = fq := by omega
   rw [e] at t o ⊢
   exact h fq han (afg _) t o (.inl rfl)
 case one =>
   rintro x c z hax hxn ⟨rfl, rfl, t, o⟩
   dsimp only
   refine af0 (wpS_ltK hB h0 (by omega) (by omega) ?_)
   by_cases hl : PyProof.Rows.K (arrOf z) x < PyProof.Rows.K (arrOf z) (x - 1)
   . simp only [hl, decide_true, agS]
     exact agd (h x hax (by omega) t o (.inr hl))
   . simp only [hl, decide_false, af2, agE]
     refine agd ⟨rfl, rfl, t.grow, fun i j B6 hj => ?_⟩
     by_cases hjx : j < x
     . exact o i j B6 hjx
     . have e : j = x := by omega
       subst e
       have q := o.le (i := i) (j := j - 1) (by omega) (by omega)
       have l1 := t.lo i B6
       have l2 := t.hi j (afg _)
       omega
theorem B8 {st : SortSt} {ι : Nat -> Nat} {n fq : Nat} {Q : Option Nat -> SortSt -> Prop} (h0 : IntKeys a₀) (hn : fq <= a₀.size) (h1 : 1 <= n) (N6 : n <= fq) (hB : SBase a₀ st)
   (ht : Tag a₀ (arrOf st) ι n) (hs : wH (arrOf st) ι n)
   (h : ∀ m z κ, SBase a₀ z -> 1 <= m -> m <= fq -> Tag a₀ (arrOf z) κ m -> lN (arrOf z) κ m -> Q (some m) z) :
   wpS (model prog w) A E s (tail3 n fq) Q st := by
 unfold tail3
 have hz : n <= (arrOf st).size := by rw [hB.size]; omega
 have hB2 : SBase a₀ (setArr st (mirror (arrOf st) 0 n ((n - 0) / 2))) := hB.setArr (mirror_perm _ _ _ _)
 refine af0 (wpS_reverse ?_)
 refine af0 (B7 (ι := turned ι 0 n) h0 hn h1 N6 hB2 (ht.turn (afg _) (by omega) hB.size) ?_ fun m m1 m2 t o _ => agd (h m _ _ hB2 (by omega) m2 t o))
 intro i j B6 hj
 show PyProof.Rows.K (mirror (arrOf st) 0 n ((n - 0) / 2)) i < PyProof.Rows.K (mirror (arrOf st) 0 n ((n - 0) / 2)) j \/ _
 rw [K_mirror hz, K_mirror hz, afa (by omega), afa (by omega)]
 unfold turned
 rw [afa (by omega), afa (by omega)]
 exact hs _ _ (by omega) (by omega)
structure tE (xs : Array Keyed) (ι : Nat -> Nat) (p x : Nat) : Prop where
 f : wH xs ι p
 l : ∀ i j, i < p -> p <= j -> j < x -> PyProof.Rows.K xs j < PyProof.Rows.K xs i
 e : ∀ i j, p <= i -> i < j -> j < x -> PyProof.Rows.K xs i = PyProof.Rows.K xs j /\ ι i < ι j
theorem tE.one {xs : Array Keyed} {ι : Nat -> Nat} {p : Nat} (h : tE xs ι p (p + 1)) : wH xs ι (p + 1) := fun i j B6 hj => by
 by_cases e : j < p
 . exact h.f i j B6 e
 . exact .inl (h.l i j (by omega) (by omega) hj)
theorem tE.turn {xs : Array Keyed} {ι : Nat -> Nat} {p x : Nat} (h : tE xs ι p x) (hx : x <= xs.size) : wH (mirror xs p x ((x - p) / 2)) (turned ι p x) x := by
 intro i j B6 hj
 rw [K_mirror hx, K_mirror hx]
 unfold turned
 by_cases hi : p <= i
 . rw [afa (by omega), afa (by omega), afa (by omega), afa (by omega)]
   have q := h.e (p + x - 1 - j) (p + x - 1 - i) (by omega) (by omega) (by omega)
   exact .inr ⟨q.1, q.2⟩
 . rw [ae9 (show ¬ (p <= i /\ i < x) by omega), ae9 (show ¬ (p <= i /\ i < x) by omega)]
   by_cases hjp : p <= j
   . rw [afa (by omega), afa (by omega)]
     exact .inl (h.l _ _ (by omega) (by omega) (by omega))
   . rw [ae9 (by omega), ae9 (by omega)]
     exact h.f i j B6 (by omega)
theorem wH.le {xs : Array Keyed} {ι : Nat -> Nat} {n : Nat} (h : wH xs ι n) {i j : Nat} (B6 : i <= j) (hj : j < n) : PyProof.Rows.K xs j <= PyProof.Rows.K xs i := by
 by_cases e : i = j
 . subst e; exact Int.le_refl _
 . rcases h i j (by omega) hj with z | z <;> omega
theorem wH.half {xs : Array Keyed} {ι : Nat -> Nat} {x : Nat} (h : wH xs ι x) (hx : 0 < x) (hl : PyProof.Rows.K xs x < PyProof.Rows.K xs (x - 1)) : tE xs ι x (x + 1) :=
 ⟨h, fun i j hi h1 h2 => by
   have e : j = x := by omega
   subst e
   have := h.le (i := i) (j := j - 1) (by omega) (by omega)
   omega, fun i j h1 h2 h3 => by omega⟩
theorem Hy {st : SortSt} {ι : Nat -> Nat} {n fq : Nat} {Q : DescSt -> SortSt -> Prop} (h0 : IntKeys a₀) (hn : fq <= a₀.size) (N6 : n + 1 <= fq) (hB : SBase a₀ st)
   (ht : Tag a₀ (arrOf st) ι (n + 1)) (hs : tE (arrOf st) ι n (n + 1))
   (h : ∀ m wj z κ, SBase a₀ z -> n + 1 <= m -> m <= fq -> wj + 1 <= m -> Tag a₀ (arrOf z) κ m -> tE (arrOf z) κ (m - (wj + 1)) m -> Q (none, m, wj) z) :
   wpS (model prog w) A E s (descLoop (n + 1) fq) Q st := by
 unfold descLoop
 refine ag1 (I := fun x c z => ∃ wj κ, c = (none, x, wj) /\ SBase a₀ z /\ wj + 1 <= x /\ Tag a₀ (arrOf z) κ x /\ tE (arrOf z) κ (x - (wj + 1)) x) ?one ?all ⟨0, ι, rfl, hB, by omega, ht, hs⟩
 case all =>
   rintro c z ⟨wj, κ, rfl, b2, q, t, o⟩
   have e : max (n + 1) fq = fq := by omega
   rw [e] at q t o ⊢
   exact h fq wj z κ b2 N6 (afg _) q t o
 case one =>
   rintro x c z hax hxn ⟨wj, κ, rfl, b2, q, t, o⟩
   dsimp only
   have hz : x <= (arrOf z).size := by rw [b2.size]; omega
   refine af0 (wpS_ltK b2 h0 (by omega) (by omega) ?_)
   by_cases hl : PyProof.Rows.K (arrOf z) x < PyProof.Rows.K (arrOf z) (x - 1)
   . simp only [hl, decide_true, agS]
     by_cases hq : wj > 0
     . rw [afa hq]
       have hm : ∀ k, PyProof.Rows.K (mirror (arrOf z) (x - (wj + 1)) x ((x - (x - (wj + 1))) / 2)) k = PyProof.Rows.K (arrOf z) k := K_mirror_equal hz fun k k1 k2 => by
         by_cases e : k = x - 1
         . rw [e]
         . exact (o.e k (x - 1) k1 (by omega) (by omega)).1
       refine af0 (wpS_reverse (agd ⟨0, turned κ (x - (wj + 1)) x, rfl, b2.setArr (mirror_perm _ _ _ _), by omega, (t.turn (afg _) (by omega) b2.size).grow, ?_⟩))
       have hf := o.turn hz
       refine hf.half (by omega) ?_
       rw [hm, hm]
       exact hl
     . rw [ae9 hq]
       have e0 : wj = 0 := by omega
       subst e0
       obtain ⟨y, rfl⟩ : ∃ y, x = y + 1 := ⟨x - 1, by omega⟩
       have hf : wH (arrOf z) κ (y + 1) := tE.one o
       exact agd ⟨0, κ, rfl, b2, by omega, t.grow, hf.half (by omega) hl⟩
   . simp only [hl, decide_false, af2, agE]
     refine af0 (wpS_ltK b2 h0 (by omega) (by omega) ?_)
     by_cases hg : PyProof.Rows.K (arrOf z) (x - 1) < PyProof.Rows.K (arrOf z) x
     . simp only [hg, decide_true, agS]
       exact agd (h x wj z κ b2 hax (by omega) q t o)
     . simp only [hg, decide_false, af2, agE]
       have he : PyProof.Rows.K (arrOf z) x = PyProof.Rows.K (arrOf z) (x - 1) := Int.le_antisymm (Int.not_lt.mp hg) (Int.not_lt.mp hl)
       refine agd ⟨wj + 1, κ, rfl, b2, by omega, t.grow, ?_⟩
       rw [show x + 1 - (wj + 1 + 1) = x - (wj + 1) by omega]
       refine ⟨o.f, fun i j hi h1 h2 => ?_, fun i j h1 h2 h3 => ?_⟩
       . by_cases e : j = x
         . rw [e, he]
           exact o.l i (x - 1) hi (by omega) (by omega)
         . exact o.l i j hi h1 (by omega)
       . by_cases e : j = x
         . subst e
           have l1 := t.lo i h2
           have l2 := t.hi j (afg _)
           refine ⟨?_, by omega⟩
           rw [he]
           by_cases e2 : i = j - 1
           . rw [e2]
           . exact (o.e i (j - 1) h1 (by omega) (by omega)).1
         . exact o.e i j h1 h2 (by omega)
theorem xR {st : SortSt} {ι : Nat -> Nat} {n fq : Nat} {Q : Option Nat -> SortSt -> Prop} (h0 : IntKeys a₀) (hn : fq <= a₀.size) (N6 : n + 1 <= fq) (hB : SBase a₀ st)
   (ht : Tag a₀ (arrOf st) ι (n + 1)) (hs : tE (arrOf st) ι n (n + 1))
   (h : ∀ m z κ, SBase a₀ z -> 1 <= m -> m <= fq -> Tag a₀ (arrOf z) κ m -> lN (arrOf z) κ m -> Q (some m) z) :
   wpS (model prog w) A E s (descPart n fq) Q st := by
 unfold descPart
 refine af0 (wpS_lift (wpAny_rule ⟨rfl, ?_⟩))
 refine af0 (Hy h0 hn N6 hB ht hs fun m wj z κ b2 m1 m2 q t o => ?_)
 dsimp only
 have hz : m <= (arrOf z).size := by rw [b2.size]; omega
 by_cases hq : wj > 0
 . rw [afa hq]
   exact af0 (wpS_reverse (B8 h0 hn (by omega) m2 (b2.setArr (mirror_perm _ _ _ _)) (t.turn (afg _) (by omega) b2.size) (o.turn hz) h))
 . rw [ae9 hq]
   have e0 : wj = 0 := by omega
   subst e0
   obtain ⟨y, rfl⟩ : ∃ y, m = y + 1 := ⟨m - 1, by omega⟩
   exact B8 h0 hn (by omega) m2 b2 t (tE.one o) h
theorem Ka {st : SortSt} {fq : Nat} {Q : Option Nat -> SortSt -> Prop} (h0 : IntKeys a₀) (hn : fq <= a₀.size) (h1 : 1 <= fq) (hB : SBase a₀ st) (ht : Tag a₀ (arrOf st) id 0)
   (h : ∀ m z κ, SBase a₀ z -> 1 <= m -> m <= fq -> Tag a₀ (arrOf z) κ m -> lN (arrOf z) κ m -> Q (some m) z) :
   wpS (model prog w) A E s (countRun' 0 fq) Q st := by
 rw [countRun0_eq]
 refine af0 (B7 (ι := id) h0 hn (afg 1) h1 hB (ht.abr (by omega)) (fun i j B6 hj => by omega) fun n n1 n2 t o hor => ?_)
 dsimp only
 by_cases N6 : n = fq
 . rw [if_pos (by simpa using N6)]
   exact agd (h n st id hB n1 n2 t o)
 . rw [if_neg (by simpa using N6)]
   have n9 := hor.resolve_left N6
   have hz : n <= (arrOf st).size := by rw [hB.size]; omega
   by_cases hgt : n > 1
   . rw [afa hgt]
     refine af0 (wpS_ltK hB h0 (by omega) (by omega) ?_)
     by_cases hr : PyProof.Rows.K (arrOf st) 0 < PyProof.Rows.K (arrOf st) (n - 1)
     . simp only [hr, decide_true, agS]
       exact agd (h n st id hB n1 n2 t o)
     . simp only [hr, decide_false, af2, agE]
       have Bf : ∀ k, 0 <= k -> k < n -> PyProof.Rows.K (arrOf st) k = PyProof.Rows.K (arrOf st) (n - 1) := fun k _ hk => by
         have a1 := o.le (i := 0) (j := k) (by omega) hk
         have a2 := o.le (i := k) (j := n - 1) (by omega) (by omega)
         omega
       have hm := K_mirror_equal (i := 0) hz Bf
       refine af0 (wpS_reverse (xR (ι := turned id 0 n) h0 hn (by omega) (hB.setArr (mirror_perm _ _ _ _)) (t.turn (afg _) (by omega) hB.size).grow ?_ h))
       have hh : tE (arrOf st) id 0 n := ⟨fun i j _ hj => by omega, fun i j hi => by omega, fun i j i1 i2 i3 => ⟨by rw [Bf i (by omega) (by omega), Bf j (by omega) i3], i2⟩⟩
       refine (hh.turn hz).half (by omega) ?_
       rw [hm, hm]
       exact n9
   . rw [ae9 hgt]
     have e1 : n = 1 := by omega
     subst e1
     exact xR h0 hn (by omega) hB t.grow ((show wH (arrOf st) id 1 from fun i j B6 hj => by omega).half (by omega) n9) h
theorem Vl {l r k x : Nat} (h1 : l <= r) (h2 : r <= k) (h3 : r - l <= k - x) (h4 : ¬ l ≥ r) : l <= (l + r) / 2 /\ (l + r) / 2 <= k /\ (l + r) / 2 - l <= k - (x + 1) /\ (l + r) / 2 + 1 <= r /\ r - ((l + r) / 2 + 1) <= k - (x + 1) /\ (l + r) / 2 < k := by
 have a : l <= (l + r) / 2 := by omega
 have b : (l + r) / 2 < r := by omega
 generalize (l + r) / 2 = m at a b
 clear h1
 refine ⟨a, ?_, ?_, b, ?_, ?_⟩ <;> omega
theorem Kc {st : SortSt} {ι : Nat -> Nat} {n ok : Nat} {Q : Bool -> SortSt -> Prop} (h0 : IntKeys a₀) (hn : n <= a₀.size) (dw : ok <= n) (ho1 : 1 <= ok) (hB : SBase a₀ st) (ht : Tag a₀ (arrOf st) ι ok) (hs : lN (arrOf st) ι ok)
   (h : ∀ z κ, SBase a₀ z -> Tag a₀ (arrOf z) κ n -> lN (arrOf z) κ n -> Q true z) : wpS (model prog w) A E s (binarySort' 0 n ok) Q st := by
 rw [binarySort'_eq]
 simp only [Nat.zero_add]
 refine af0 (wpS_mono (ag1 (I := fun k c z => c = (none, ()) /\ SBase a₀ z /\ ∃ κ, Tag a₀ (arrOf z) κ k /\ lN (arrOf z) κ k)
   (Q := fun c z => c = (none, ()) /\ SBase a₀ z /\ ∃ κ, Tag a₀ (arrOf z) κ n /\ lN (arrOf z) κ n) ?one ?all ?new) ?post)
 case post =>
   rintro c z ⟨rfl, b2, κ, t, o⟩
   exact agd (h z κ b2 t o)
 case new =>
   rw [show max ok 1 = ok by omega]
   exact ⟨rfl, hB, ι, ht, hs⟩
 case all =>
   rintro c z ⟨hc, b2, κ, t, o⟩
   rw [show max (max ok 1) n = n by omega] at t o
   exact ⟨hc, b2, κ, t, o⟩
 case one =>
   rintro k c z MC hkn ⟨rfl, b2, κ, t, o⟩
   have hk : k < a₀.size := by omega
   refine af0 (wpS_mono (ag1 (I := fun x c y => y = z /\ ∃ l r, c = (none, l, r) /\ l <= r /\ r <= k /\ r - l <= k - x /\ (∀ i, i < l -> PyProof.Rows.K (arrOf z) i <= PyProof.Rows.K (arrOf z) k) /\ (∀ i, r <= i -> i < k -> PyProof.Rows.K (arrOf z) k < PyProof.Rows.K (arrOf z) i))
     (Q := fun c y => y = z /\ ∃ l r, c = (none, l, r) /\ l <= k /\ (∀ i, i < l -> PyProof.Rows.K (arrOf z) i <= PyProof.Rows.K (arrOf z) k) /\ (∀ i, l <= i -> i < k -> PyProof.Rows.K (arrOf z) k < PyProof.Rows.K (arrOf z) i)) ?two ?fin ?beg) ?aft)
   case beg => exact ⟨rfl, 0, k, rfl, by omega, by omega, by omega, fun i hi => by omega, fun i g1 g2 => by omega⟩
   case fin =>
     rintro c y ⟨rfl, l, r, rfl, g1, g2, g3, g4, g5⟩
     have e : l = r := by omega
     subst e
     exact ⟨rfl, l, l, rfl, g2, g4, g5⟩
   case two =>
     rintro x c y _ hxk ⟨rfl, l, r, rfl, g1, g2, g3, g4, g5⟩
     dsimp only
     by_cases Sx : l ≥ r
     . rw [afa Sx]
       have e : l = r := by omega
       subst e
       exact agd ⟨rfl, l, l, rfl, g2, g4, g5⟩
     . rw [ae9 Sx]
       have M := Vl g1 g2 g3 Sx
       refine af0 (wpS_ltK b2 h0 hk (Nat.lt_trans M.2.2.2.2.2 hk) ?_)
       by_cases hl : PyProof.Rows.K (arrOf y) k < PyProof.Rows.K (arrOf y) ((l + r) / 2)
       . simp only [hl, decide_true, agS]
         exact agd ⟨rfl, l, (l + r) / 2, rfl, M.1, M.2.1, M.2.2.1, g4, fun i i1 i2 => Int.lt_of_lt_of_le hl (o.le i1 i2)⟩
       . simp only [hl, decide_false, af2, agE]
         exact agd ⟨rfl, (l + r) / 2 + 1, r, rfl, M.2.2.2.1, g2, M.2.2.2.2.1, fun i i1 => Int.le_trans (o.le (i := i) (j := (l + r) / 2) (Nat.lt_succ_iff.mp i1) M.2.2.2.2.2) (Int.not_lt.mp hl), g5⟩
   case aft =>
     rintro c y ⟨rfl, l, r, rfl, g2, g4, g5⟩
     show wpS _ _ _ _ (do moveDown' k l; pure (ForInStep.yield (none, ()))) _ _
     rw [moveDown'_eq]
     have hks : k < (arrOf y).size := by rw [b2.size]; exact hk
     refine af0 (wpS_modify (agd ⟨rfl, b2.setArr (bubble_perm _ _ _), Hx κ k l, t.sink g2 hk b2.size, ?_⟩))
     intro i j B6 hj
     show PyProof.Rows.K (bubble (arrOf y) k (k - l)) i < PyProof.Rows.K (bubble (arrOf y) k (k - l)) j \/ (PyProof.Rows.K (bubble (arrOf y) k (k - l)) i = PyProof.Rows.K (bubble (arrOf y) k (k - l)) j /\ _)
     rw [K_bubble hks (by omega), K_bubble hks (by omega), show k - (k - l) = l by omega]
     unfold Hx
     have tk := t.hi k (afg _)
     by_cases ei : i = l
     . rw [afa ei, afa ei, ae9 (show ¬ j = l by omega), ae9 (show ¬ j = l by omega), afa (by omega), afa (by omega)]
       exact .inl (g5 _ (by omega) (by omega))
     . rw [ae9 ei, ae9 ei]
       by_cases ej : j = l
       . rw [afa ej, afa ej, ae9 (by omega), ae9 (by omega)]
         have := g4 i (by omega)
         have := t.lo i (by omega)
         omega
       . rw [ae9 ej, ae9 ej]
         by_cases hi : l < i /\ i <= k
         . rw [afa hi, afa hi, afa (by omega), afa (by omega)]
           exact o _ _ (by omega) (by omega)
         . rw [ae9 hi, ae9 hi]
           by_cases ZY : l < j /\ j <= k
           . rw [afa ZY, afa ZY]
             exact o _ _ (by omega) (by omega)
           . rw [ae9 ZY, ae9 ZY]
             exact o _ _ (by omega) (by omega)
noncomputable def Kd (a₀ : Array Keyed) (st : SortSt) : Prop := failedOf st = none /\ pendingOf st = #[(0, a₀.size, 0)] /\ ∃ κ, Tag a₀ (arrOf st) κ a₀.size /\ lN (arrOf st) κ a₀.size /\ (arrOf st).size = a₀.size
theorem Sy {st : SortSt} {κ : Nat -> Nat} (hB : SBase a₀ st) (t : Tag a₀ (arrOf st) κ a₀.size) (o : lN (arrOf st) κ a₀.size) : Kd a₀ (setPending st ((pendingOf st).push (0, a₀.size, 0))) :=
 ⟨hB.failed, by show (pendingOf st).push _ = _; rw [hB.pend]; rfl, κ, t, o, hB.size⟩
theorem Hz {st : SortSt} {Q : Unit -> SortSt -> Prop} (h0 : IntKeys a₀) (hB : SBase a₀ st) (ht : Tag a₀ (arrOf st) id 0) (h2 : 2 <= a₀.size) (Sz : a₀.size < 64)
   (h : ∀ z κ, failedOf z = none -> Tag a₀ (arrOf z) κ a₀.size -> lN (arrOf z) κ a₀.size -> (arrOf z).size = a₀.size -> Q () z) : wpS (model prog w) A E s sortRuns' Q st := by
 rw [sortRuns'_eq]
 refine af0 (wpS_get ?_)
 dsimp only
 have hmr : minRun' a₀.size a₀.size 0 = a₀.size := by
   obtain ⟨f, hf⟩ : ∃ f, a₀.size = f + 1 := ⟨a₀.size - 1, by omega⟩
   have q : minRun' (f + 1) a₀.size 0 = a₀.size := by
     rw [minRun'_succ, afa Sz]
     rfl
   rwa [← hf] at q
 simp only [hB.size, hmr]
 refine af0 (wpS_mono (ag1 (I := fun x c z => (x = 0 /\ c = (none, 0) /\ SBase a₀ z /\ Tag a₀ (arrOf z) id 0) \/ (1 <= x /\ c = (none, a₀.size) /\ Kd a₀ z))
   (Q := fun c z => c = (none, a₀.size) /\ Kd a₀ z) ?one ?all (.inl ⟨rfl, rfl, hB, ht⟩)) ?aft)
 case all =>
   rintro c z (⟨hx, _⟩ | ⟨_, hc, hD⟩)
   . omega
   . exact ⟨hc, hD⟩
 case one =>
   rintro x c z _ hx (⟨rfl, rfl, b2, t0⟩ | ⟨hx1, rfl, hD⟩)
   . dsimp only
     rw [ae9 (by omega)]
     simp only [Nat.sub_zero, Nat.min_self, Nat.zero_add]
     refine af0 (Ka h0 (afg _) (by omega) b2 t0 fun m z2 κ b3 m1 m2 t o => ?_)
     dsimp only
     by_cases hl : m < a₀.size
     . rw [afa hl]
       refine af0 (wpS_lift (wpAny_rule ⟨rfl, ?_⟩))
       refine af0 (Kc h0 (afg _) m2 m1 b3 t o fun z3 κ3 b4 t4 o4 => ?_)
       simp only [Bool.not_true, af2, agE]
       refine af0 (wpS_get ?_)
       have hb : (pendingOf z3).back? = none := by rw [b4.pend]; rfl
       rw [hb]
       dsimp only
       exact af0 (wpS_modify (agd (.inr ⟨by omega, rfl, Sy b4 t4 o4⟩)))
     . rw [ae9 hl]
       have hm : m = a₀.size := by omega
       subst hm
       refine af0 (wpS_get ?_)
       have hb : (pendingOf z2).back? = none := by rw [b3.pend]; rfl
       rw [hb]
       dsimp only
       exact af0 (wpS_modify (agd (.inr ⟨by omega, rfl, Sy b3 t o⟩)))
   . dsimp only
     rw [afa (afg _)]
     exact agd ⟨rfl, hD⟩
 case aft =>
   rintro c z ⟨rfl, hD⟩
   dsimp only
   refine af0 (wpS_mono (ag1 (I := fun _ c y => y = z /\ c = (none, ())) (Q := fun c y => y = z /\ c = (none, ())) ?_ (fun _ _ q => q) ⟨rfl, rfl⟩) ?_)
   . rintro x c y _ _ ⟨rfl, rfl⟩
     refine af0 (wpS_get ?_)
     rw [afa (by rw [hD.2.1]; exact afg 1)]
     exact agd ⟨rfl, rfl⟩
   . rintro c y ⟨rfl, rfl⟩
     obtain ⟨κ, t, o, z1⟩ := hD.2.2
     exact agd (h _ κ hD.1 t o z1)
end
section
variable {X : Cx}
end
section
variable {X : Cx} {CL : Str -> Addr} {b : Bx} {δ δ1 : List (Option T)} {e : Expr} {pos pp p1 p2 : Pos} {kj : Nat}
end
section
variable {X : Cx} {i : Nat} {x : Str}
theorem mkL (hi : X.N[i]? = some x) (h : X.env.scope.names.lookup x = some .local) (hf : X.fn x = true) (hd : (x == ("__debug__" : Str)) = false := by decide) (hc : (x == ("__classdict__" : Str)) = false := by decide) : Ln X i x := ⟨⟨hi, .inl h, hd, hc⟩, .inl h, .inl hf⟩
theorem mkC (hi : X.N[i]? = some x) (h : X.env.scope.names.lookup x = some .cell) (hf : X.fn x = true) (hd : (x == ("__debug__" : Str)) = false := by decide) (hc : (x == ("__classdict__" : Str)) = false := by decide) : Ln X i x := ⟨⟨hi, .inr (.inl h), hd, hc⟩, .inr h, .inl hf⟩
end
theorem cI {P : Program} {w : World} {K : PySem.W.Frag} {mg : Str -> Option Value} {base : Heap} {k : Nat} {f : Addr} {fd : FuncData} {ps : List Str} {sp : Sp} {x : Str} (G : bV P w K mg base gq k f fd ps sp) (m : mg x = some (.ref f)) (q : PySem.W.keepIn K (.ref f) = true) (b : Binds K fd ps []) :
   ∃ f fd ps, bV P w K mg base gq k f fd ps sp /\ mg x = some (.ref f) /\ PySem.W.keepIn K (.ref f) = true /\ Binds K fd ps [] := ⟨_, _, _, G, m, q, b⟩
section
variable {X : Cx} {CL : Str -> Addr} {b : Bx} {δ δ1 δc : List (Option T)} {scope : Scope} {y : Str} {Nc : List Str} {ix : List Nat} {elt iter : Expr} {ifs : List Expr} {px pc pos : Pos} {p : L3.D -> Bool} {g : L3.D -> T} {ds : List L3.D}
theorem Yn (sc : fL X scope y Nc ix) : lM X scope [y] Nc ix := ⟨sc.kind, sc.qY, sc.nd, sc.names, (fun x hx => by rw [afD] at hx; subst hx; exact sc.own), sc.frees, sc.hd, sc.Sj⟩
theorem Yo (sc : fL X scope y Nc ix) (h : Block X CL scope Nc ifs elt δc ds p g) (h1 : (y == ("__debug__" : Str)) = false) (h2 : (y == ("__classdict__" : Str)) = false) : rq X CL scope Nc [y].length (.Name y px) part1 ifs elt δc ds p g := fun C s0 H0 f0 b' =>
 ⟨J1 (i := 0) sc.nd (Vf (by rw [sc.hd]; rfl) sc.own h1 h2), fun d hd => ⟨[d], rfl, rfl, (h C s0 H0 f0 b' d hd).1, (h C s0 H0 f0 b' d hd).2⟩⟩
theorem yH (sc : fL X scope y Nc ix) (hc : X.calm = true) (h : JN X CL b (.Name y px) iter δ ds δ1) (hb : (δc = wF δ1 ix /\ ∀ d ∈ ds, (g d).clean = true) \/ δc = BL δ1 ix) (inner : Block X CL scope Nc ifs elt δc ds p g) (hlen : ds.length <= sizeLine)
   (hs : ∀ x, foldedSetIterable iter X.env x = pure x := by intro _; rfl) (h1 : (y == ("__debug__" : Str)) = false := by decide) (h2 : (y == ("__classdict__" : Str)) = false := by decide) : cg X CL b (.ListComp elt [⟨.Name y px, iter, ifs, 0⟩] scope pos) δ (.lst ((ds.filter p).map g)) δ1 :=
 BZ (xs := [y]) (Yn sc) hc (Sq h) hb (Yo sc inner h1 h2) hlen hs
theorem oH {D : cW} {fK : List Stmt} {i : Nat} {x : Str} {pos' : Pos} {gg : L3.D -> T} (g : Gx X) (n : Ln X i x) (sc : fL X scope y Nc ix) (h : JN X CL b (.Name y px) iter δ ds δ1) (hb : (δc = wF δ1 ix /\ ∀ d ∈ ds, (gg d).clean = true) \/ δc = BL δ1 ix) (inner : Block X CL scope Nc ifs elt δc ds p gg)
   (hlen : ds.length <= sizeLine) (k : eO X CL b fK (δ1.set i (some (.lst ((ds.filter p).map gg)))) D) (hl : i < δ1.length)
   (Hf : swapsWith (.ListComp elt [⟨.Name y px, iter, ifs, 0⟩] scope pc) (some (.Name x pos')) pos.line X.env = pure true \/ swapsWith (.ListComp elt [⟨.Name y px, iter, ifs, 0⟩] scope pc) (some (.Name x pos')) pos.line X.env = pure false) (hs : ∀ x, foldedSetIterable iter X.env x = pure x := by intro _; rfl)
   (h1 : (y == ("__debug__" : Str)) = false := by decide) (h2 : (y == ("__classdict__" : Str)) = false := by decide) : eO X CL b (.Assign [.Name x pos'] (.ListComp elt [⟨.Name y px, iter, ifs, 0⟩] scope pc) pos :: fK) δ D :=
 Ve (xs := [y]) g n (Yn sc) (Sq h) hb (Yo sc inner h1 h2) hlen k hl Hf hs
end
section
variable {X : Cx} {CL : Str -> Addr} {b : Bx} {δ : List (Option T)} {i : Nat} {x : Str} {d : L3.D} {pos : Pos}
theorem aJ (n : Ln X i x) (h : δ[i]? = some (some (.sh d)) := by rfl) : cH X CL b (.Name x pos) δ d δ := ah (v_ n.1 h)
end
structure cy (X : Cx) : Prop where
 g : Gx X
 u : X.A.units + 64 < cLine
noncomputable abbrev aA (X : Cx) (CL : Str -> Addr) (b : Bx) (st : Stmt) (N : List Str) (l : List L3.D) (r : T) : Prop := eO X CL b (fu st) (entry N l) { nx := fun _ => r = .sh .non, rt := fun HB _ => HB = r }
noncomputable abbrev aB : NameKind := .globalImplicit
noncomputable abbrev av : NameKind := .local
theorem aW {N P : List Str} {sc : Scope} (h1 : sc.kind = .function := by rfl) (h2 : sc.isCoroutine = false := by rfl) (h3 : sc.isGenerator = false := by rfl) (h4 : N.Nodup := by decide +kernel) (h5 : N.take P.length = P := by rfl) (h6 : ∀ x ∈ P, sc.names.lookup x = some .local \/ sc.names.lookup x = some .cell := by decide +kernel) (h7 : ∀ y ∈ sc.names, y.2 ≠ .free := by decide +kernel) : aL N P sc := ⟨h1, h2, h3, h4, h5, h6, h7⟩
section
variable {X : Cx} {i : Nat} {x : Str} {tb : List (Str × NameKind)}
theorem bA (c : jO X.env.scope tb = true) (j : Nat) (hj : tb[j]? = some (x, .local) := by rfl) (hi : X.N[i]? = some x := by rfl) (hf : X.fn x = true := by rfl) (hd : (x == ("__debug__" : Str)) = false := by decide) (hc : (x == ("__classdict__" : Str)) = false := by decide) : Ln X i x := mkL hi (cV c j hj) hf hd hc
theorem DQ (c : jO X.env.scope tb = true) (j : Nat) (hj : tb[j]? = some (x, .cell) := by rfl) (hi : X.N[i]? = some x := by rfl) (hf : X.fn x = true := by rfl) (hd : (x == ("__debug__" : Str)) = false := by decide) (hc : (x == ("__classdict__" : Str)) = false := by decide) : Ln X i x := mkC hi (cV c j hj) hf hd hc
theorem dS (c : jO X.env.scope tb = true) (j : Nat) (hj : tb[j]? = some (x, .globalImplicit) := by rfl) : Gl X x := cV c j hj
theorem dG {CL : Str -> Addr} {k n m : Nat} {A : Type} {arg : A -> List D} {Pre : A -> Prop} {res : A -> T} (F : ∃ f fd ps, bV X.prog X.w X.K X.mg X.base gq k f fd ps (kg X.K CL n arg Pre res) /\ X.mg x = some (.ref f) /\ PySem.W.keepIn X.K (.ref f) = true /\ Binds X.K fd ps []) (r : eN m X.A) (h : k <= m := by decide) : Fc X CL x k n arg Pre res := ⟨F, r.mono h⟩
end
section
variable {K : PySem.W.Frag} {CL : Str -> Addr} {b : Bx} {H H' Z Z' : Hp} {δ δ' : List (Option T)} {σ σ' : L2.St} {ts tl : List T} {vs us : List V} {t : T} {v : V} {y : Addr} {i : Nat}
end
section
variable {K : PySem.W.Frag} {CL : Str -> Addr} {b : Bx} {H Z : Hp} {σ : L2.St} {ts : List T} {vs : List V}
end
section
variable {X : Cx} {CL : Str -> Addr} {b : Bx} {δ δ1 δ2 : List (Option T)} {e : Expr} {es : List Expr} {t : T} {d : L3.D} {pos pp : Pos} {D : cW} {i : Nat} {x : Str} {is : List Nat} {fx : List Addr -> Prop} {al : List Addr -> List T} {y : Addr}
variable {fK : List Stmt}
end
section
variable {X : Cx} {CL : Str -> Addr} {b : Bx} {δ δ1 δ2 : List (Option T)} {e e2 : Expr} {t : T} {tl Nr tl2 : List T} {D : cW} {pos pp pa pb : Pos} {y : Addr} {fK : List Stmt}
section
variable {i : Nat} {x : Str}
end
end
noncomputable def kC {α : Type} (g : α -> Int) (x : α) : List α -> List α
 | [] => [x]
 | y :: l => if g x <= g y then x :: y :: l else y :: kC g x l
noncomputable def e7 {α : Type} (g : α -> Int) : List α -> List α
 | [] => []
 | x :: l => kC g x (e7 g l)
section
variable {α β : Type} {g : α -> Int}
theorem rC (x : α) : ∀ l, (kC g x l).Perm (x :: l)
 | [] => .refl _
 | y :: l => by
   rw [kC]
   split
   . exact .refl _
   . exact ((rC x l).cons y).trans (.swap x y l)
theorem oJ : ∀ l : List α, (e7 g l).Perm l
 | [] => .refl _
 | x :: l => (rC x (e7 g l)).trans ((oJ l).cons x)
theorem mL {l : List α} {x : α} : x ∈ e7 g l ↔ x ∈ l := (oJ l).mem_iff
theorem jQ (l : List α) : (e7 g l).length = l.length := (oJ l).length_eq
theorem B9 (f : β -> α) (x : β) : ∀ l, kC g (f x) (l.map f) = (kC (fun y => g (f y)) x l).map f
 | [] => rfl
 | y :: l => by
   rw [afx, kC, kC]
   split
   . rfl
   . rw [afx, B9 f x l]
theorem jR (f : β -> α) : ∀ l : List β, e7 g (l.map f) = (e7 (fun y => g (f y)) l).map f
 | [] => rfl
 | x :: l => by rw [afx, e7, e7, jR f l, B9]
noncomputable def DR (g : Nat -> Int) (i j : Nat) : Prop := g i < g j \/ (g i = g j /\ i < j)
theorem DR.trans {g : Nat -> Int} {i j k : Nat} (a : DR g i j) (b : DR g j k) : DR g i k := by
 unfold DR at *; omega
theorem DR.irr {g : Nat -> Int} {i : Nat} (a : DR g i i) : False := by unfold DR at a; omega
theorem Ca {g : Nat -> Int} {x : Nat} : ∀ {l : List Nat}, l.Pairwise (DR g) -> (∀ y ∈ l, x < y) -> (kC g x l).Pairwise (DR g)
 | [], _, _ => List.pairwise_singleton _ _
 | y :: l, h, hx => by
   obtain ⟨h1, h2⟩ := ags.mp h
   rw [kC]
   split
   . rename_i e
     refine ags.mpr ⟨fun z hz => ?_, h⟩
     have a1 : DR g x y := by have := hx y afb; unfold DR; omega
     rcases afe.mp hz with rfl | hz
     . exact a1
     . exact a1.trans (h1 z hz)
   . rename_i e
     refine ags.mpr ⟨fun z hz => ?_, Ca h2 fun z hz => hx z (afd _ hz)⟩
     rcases afe.mp ((rC x l).mem_iff.mp hz) with rfl | hz
     . left; omega
     . exact h1 z hz
theorem xS {g : Nat -> Int} : ∀ {l : List Nat}, l.Pairwise (· < ·) -> (e7 g l).Pairwise (DR g)
 | [], _ => .nil
 | x :: l, h => by
   obtain ⟨h1, h2⟩ := ags.mp h
   exact Ca (xS h2) fun y hy => h1 y (mL.mp hy)
theorem yI {g : Nat -> Int} : ∀ {S A : List Nat}, S.Pairwise (DR g) -> A.Pairwise (DR g) -> (∀ a ∈ A, a ∈ S) -> A.length <= S.length /\ (A.length = S.length -> A = S)
 | [], A, _, _, h => by
   cases A with
   | nil => exact ⟨afg _, fun _ => rfl⟩
   | cons a A => exact absurd (h a afb) (by simp)
 | s :: S, [], _, _, _ => ⟨afG _, fun e => by simp at e⟩
 | s :: S, a :: A, hS, hA, h => by
   obtain ⟨s1, s2⟩ := ags.mp hS
   obtain ⟨a1, a2⟩ := ags.mp hA
   by_cases e : a = s
   . subst e
     have q := yI s2 a2 fun z hz => (afe.mp (h z (afd _ hz))).resolve_left fun e => by subst e; exact (a1 _ hz).irr
     refine ⟨by simpa using q.1, fun e => by rw [q.2 (by simpa using e)]⟩
   . have ha : a ∈ S := (afe.mp (h a afb)).resolve_left e
     have q := yI (A := a :: A) s2 hA fun z hz => by
       rcases afe.mp hz with rfl | hz
       . exact ha
       . refine (afe.mp (h z (afd _ hz))).resolve_left fun e2 => ?_
         subst e2
         exact ((s1 a ha).trans (a1 _ hz)).irr
     exact ⟨by have := q.1; simp at this ⊢; omega, fun e3 => by have := q.1; simp at this e3; omega⟩
theorem Ke {l r : List α} {κ : Nat -> Nat} (hn : r.length = l.length) (pl : ∀ k, k < l.length -> r[k]? = l[κ k]?) (lo : ∀ k, k < l.length -> κ k < l.length)
   (st : ∀ i j x y, i < j -> r[i]? = some x -> r[j]? = some y -> g x < g y \/ (g x = g y /\ κ i < κ j)) : r = e7 g l := by
 cases l with
 | nil => cases r with
   | nil => rfl
   | cons a r => simp at hn
 | cons d l0 =>
   generalize hl : d :: l0 = l at *
   let f : Nat -> α := fun i => (l[i]?).getD d
   have hf : ∀ i, i < l.length -> l[i]? = some (f i) := fun i hi => by
     show _ = some ((l[i]?).getD d)
     rw [afc hi]; rfl
   have el : l = (List.range l.length).map f := agG fun i => by
     rw [afH]
     by_cases hi : i < l.length
     . rw [hf i hi, agm hi]; rfl
     . rw [List.getElem?_eq_none (by omega), List.getElem?_eq_none (by simpa using hi)]; rfl
   have er : r = ((List.range l.length).map κ).map f := agG fun i => by
     rw [afH, afH]
     by_cases hi : i < l.length
     . rw [pl i hi, hf _ (lo i hi), agm hi]; rfl
     . rw [List.getElem?_eq_none (by omega), List.getElem?_eq_none (by simpa using hi)]; rfl
   have gr : ∀ k, k < l.length -> r[k]? = some (f (κ k)) := fun k hk => (pl k hk).trans (hf _ (lo k hk))
   have eA : (List.range l.length).map κ = e7 (fun i => g (f i)) (List.range l.length) := by
     refine (yI (xS (List.pairwise_lt_range)) (List.pairwise_map.mpr ?_) fun a ha => ?_).2 ?_
     . refine List.Pairwise.imp_of_mem (R := (· < ·)) (fun {i j} hi hj B6 => ?_) List.pairwise_lt_range
       exact st i j _ _ B6 (gr i (af5.mp hi)) (gr j (af5.mp hj))
     . obtain ⟨k, hk, rfl⟩ := afC.mp ha
       exact mL.mpr (af5.mpr (lo k (af5.mp hk)))
     . rw [afj, jQ]
   rw [er, eA, ← jR, ← el]
end
theorem xT {α : Type} {g : α -> Int} {x : α} : ∀ {A B : List α}, (∀ y ∈ A, g y < g x) -> kC g x (A ++ B) = A ++ kC g x B
 | [], _, _ => rfl
 | a :: A, B, h => by
   have ha := h a afb
   rw [afF, kC, ae9 (by omega), xT fun y hy => h y (afd _ hy), afF]
theorem DS {α : Type} {g : α -> Int} {x : α} {B : List α} (h : ∀ y ∈ B, g x <= g y) : kC g x B = x :: B := by
 cases B with
 | nil => rfl
 | cons b B => rw [kC, afa (h b afb)]
theorem sJ {α : Type} (g : α -> Nat) (n : Nat) : ∀ (l : List α), (∀ x ∈ l, g x < n) -> e7 (fun x => (g x : Int)) l = (List.range n).flatMap (fun i => l.filter (fun x => decide (g x = i)))
 | [], _ => by
   show [] = _
   induction (List.range n) with
   | nil => rfl
   | cons a l ih => rw [agu, ← ih]; rfl
 | x :: l, h => by
   have hx := h x afb
   have ih := sJ g n l fun y hy => h y (afd _ hy)
   rw [e7, ih]
   have hr : List.range n = List.range (g x) ++ (g x) :: List.range' (g x + 1) (n - g x - 1) := by
     rw [List.range_eq_range', List.range_eq_range', show n = g x + (1 + (n - g x - 1)) by omega, ← List.range'_append_1, show 1 + (n - g x - 1) = (n - g x - 1) + 1 by omega, List.range'_succ]
     simp
   have A : (List.range (g x)).flatMap (fun i => (x :: l).filter (fun y => decide (g y = i))) = (List.range (g x)).flatMap (fun i => l.filter (fun y => decide (g y = i))) := by
     rw [agH, agH]
     congr 1
     refine agc fun i hi => ?_
     have := af5.mp hi
     rw [agI (by simp; omega)]
   have R : (List.range' (g x + 1) (n - g x - 1)).flatMap (fun i => (x :: l).filter (fun y => decide (g y = i))) = (List.range' (g x + 1) (n - g x - 1)).flatMap (fun i => l.filter (fun y => decide (g y = i))) := by
     rw [agH, agH]
     congr 1
     refine agc fun i hi => ?_
     have := (List.mem_range'_1.mp hi).1
     rw [agI (by simp; omega)]
   rw [hr, agX, agX, agu, agu, A, R, agJ (by simp)]
   rw [xT, DS]
   . rfl
   . intro y hy
     rcases afm.mp hy with hy | hy
     . have := afo (af4.mp hy).2
       omega
     . obtain ⟨i, hi, hy⟩ := List.mem_flatMap.mp hy
       have := afo (af4.mp hy).2
       have := (List.mem_range'_1.mp hi).1
       omega
   . intro y hy
     obtain ⟨i, hi, hy⟩ := List.mem_flatMap.mp hy
     have := afo (af4.mp hy).2
     have := af5.mp hi
     omega
theorem DT {pos pos' : Pos} {c cv : Value} (l : List Value) (h : TriplesOk l) (e : codeAmong pos (l ++ [rawInt pos'.line, rawInt pos'.col, c]) = some cv) : codeAmong pos l = some cv \/ cv = c := by
 fun_induction TriplesOk l with
 | case1 =>
   simp only [agM, codeAmong, rawInt] at e
   split at e
   . exact .inr (afv e).symm
   . cases e
 | case2 a t b u x rest ih =>
   simp only [afF, codeAmong] at e ⊢
   split at e
   . rename_i hc; rw [afa hc]; exact .inl e
   . rename_i hc; rw [ae9 hc]; exact ih h e
 | case3 l h1 h2 => exact h.elim
noncomputable def Kf (f : Addr) (q : Str) (ps : Arguments) (body : Expr) (sc : Scope) (cl : List (Str × Addr)) (c : Addr) : Heap -> Prop := fun h =>
 ∃ pm WZ, h.get? f = some (PySem.W.kla_obj "<lambda>" q ps body sc cl pm c WZ)
structure Kg (X : Cx) (CL : Str -> Addr) (x q : Str) : Prop where
 code : ∃ c, X.env.code = .ref c /\ PySem.W.CodeHd X.base c (CL x)
 blt : ∃ bm o, X.mg "__builtins__" = some (.ref bm) /\ bm ≠ builtinsNs /\ bm ≠ mainGlobals /\ X.base.get? bm = some o /\ o.cls = .type "module" /\ o.dict = some builtinsNs /\ o.data = .plain
 qual : X.env.qual ++ "<lambda>" = q
 tab : BJ x = true /\ CL x ≠ 0 /\ DF x = q
section
variable {X : Cx} {CL : Str -> Addr} {pins : List (Addr × Obj)} {σ : L2.St} {H : Hp} {s : Shared} {x q : Str} {params : Arguments} {body : Expr} {scope : Scope} {pos : Pos}
theorem Vm {Q : Value -> Shared -> Prop} (L : Kg X CL x q) (I : L2.Inv X pins σ H s) (ht : H (CL x) = some (.tabs q)) (Bk : ∀ y ∈ scope.names, y.2 = .free -> ∃ c, X.env.cells.lookup y.1 = some c)
   (Vo : defaultsOf params X.env = ([], []))
   (k : ∀ f c H' s', L2.Inv X pins σ H' s' -> aD H H' -> H' f = some (.ext (Kf f q params body scope (cA X.env scope.names []) c)) -> H' c = some (.GH q) -> (∀ b o, H' b = some o -> iH o = true -> H b = some o) -> Q (.ref f) s') :
   wpAny (model X.prog X.w) X.A (eval (.Lambda params body scope pos) X.env) Q X.xe s := by
 obtain ⟨c, hc, hd⟩ := L.code
 obtain ⟨bm, ob, b1, b2, b3, b4, b5, b6, b7⟩ := L.blt
 obtain ⟨ps, hP, tr, cs⟩ := I.dw _ _ ht
 have oG : ∀ {b : Addr} {o : Obj}, X.base.get? b = some o -> b ≠ CL x := fun {b o} e z => by
   have := (I.bs _ _ e).2
   rw [z, ht] at this; cases this
 have hg : s.heap.Ns mainGlobals X.mg := by
   obtain ⟨o, es, ep, e, r⟩ := I.mod.glob
   exact ⟨o, es, ep, I.bk _ _ e, r⟩
 have hgP : mainGlobals ≠ CL x := by
   obtain ⟨o, _, _, e, _⟩ := I.mod.glob
   exact oG e
 have hb : s.heap.BuiltinsAt X.mg (CL x) := ⟨bm, ob, b1, b2, b3, oG b4, I.bk _ _ b4, b5, b6, b7⟩
 refine PySem.W.kla_eval Vo ?_
 rw [L.qual]
 cases hf : codeAmong pos ps.toList with
 | none =>
   refine PySem.W.kla_makeFunction (jh Bk) I.ok.glob hg hc (hd.keeps I.bk) hP tr hf hgP hb fun c' WZ h' tk hx Sx n9 abx htb => ?_
   obtain ⟨c₂, oc, vs, t, e2, WQ, hdc, hv⟩ := abx
   cases e2
   have hn : H c' = none := I.dw.fresh Sx
   have neP : ∀ {b : Addr}, H b = none -> b ≠ CL x := fun {b} e z => by rw [z, ht] at e; cases e
   have ne' : ∀ {b : Addr} {o : Obj}, s.heap.get? b = some o -> b ≠ c' := fun {b o} e => afO (afN (afu e) Sx)
   have cP : CL x ≠ c' := ne' hP
   have un : Un X.fs [] H (upd H c' (.GH q)) s.heap h' := by
     refine ⟨fun b o e n _ _ => hx b o (neP n) e, fun b o e n _ _ => ⟨o.slots, hx b o (neP n) e⟩, fun b o e n _ => by rw [az (ne' e)]; exact n, fun b o e _ => ?_, fun b xs e => by rw [az (aE e hn)]; exact e, fun b o u e => by rw [az (aE e hn)]; exact e, fun b ps e => ⟨#[], by rw [az (aE e hn), e]; simp⟩⟩
     by_cases z : b = CL x
     . exact ⟨_, z ▸ htb⟩
     . exact ⟨o, hx b o z e⟩
   have dw : oA X.prog X.w (upd H c' (.GH q)) h' := fun b u e => by
     by_cases z : b = c'
     . subst z
       rw [aN] at e
       cases e
       exact ⟨oc, vs, t, WQ, hdc, hv⟩
     . rw [az z] at e
       by_cases z2 : b = CL x
       . subst z2
         rw [ht] at e
         cases e
         refine ⟨_, htb, ?_, fun pos' cv ec => ?_⟩
         . rw [Array.toList_append]
           exact TriplesOk_snoc _ _ _ _ tr
         . rw [Array.toList_append] at ec
           rcases DT _ tr ec with q1 | q1
           . obtain ⟨c3, e3, e4⟩ := cs pos' cv q1
             exact ⟨c3, e3, by rw [az (aE e4 hn)]; exact e4⟩
           . exact ⟨c', q1, aN⟩
       . refine (I.dw b u e).ye (fun d v ML r => hx d v ?_ r) (fun d r => by rw [az (aE r hn)]; exact r) (fun d xs r => by rw [az (aE r hn)]; exact r) fun d z r => by rw [az (aE r hn)]; exact r
         rintro rfl
         rcases ML with w | w
         . exact z2 w.symm
         . rw [ht] at w; cases w
   have I1 := I.un (t' := tk) un dw
   have f1 : (upd H c' (.GH q)) h'.objs.size = none := dw.fresh (afg _)
   have I2 := I1.laid (t' := tk) (a := h'.objs.size) (o := .ext (Kf h'.objs.size q params body scope (cA X.env scope.names []) c')) (h' := h'.push (PySem.W.kla_obj "<lambda>" q params body scope (cA X.env scope.names []) ((X.mg "__name__").getD .none) c' WZ))
     (fun b u e => afn _ e) (afg _) ⟨⟨_, _, afE _ rfl⟩, ⟨_, afE _ rfl⟩, fun h1 h2 ⟨pm, ct, e⟩ kk => ⟨pm, ct, kk _ e⟩⟩
   refine k _ c' _ _ I2 (fun b o e => ?_) aN ?_ fun b o e im => ?_
   . have z1 := aE e hn
     have z2 : b ≠ h'.objs.size := fun z => by
       rw [← z, az z1, e] at f1; cases f1
     rw [az z2, az z1]; exact e
   . rw [az (afO n9), aN]
   . by_cases z2 : b = h'.objs.size
     . subst z2; rw [aN] at e; cases e; cases im
     . rw [az z2] at e
       by_cases z1 : b = c'
       . subst z1; rw [aN] at e; cases e; cases im
       . rw [az z1] at e; exact e
 | some cv =>
   obtain ⟨c', rfl, IZ⟩ := cs pos cv hf
   refine PySem.W.kla_makeFunctionHit (jh Bk) I.ok.glob hg hc (hd.keeps I.bk) hP tr hf hb fun WZ h' tk hk hsz => ?_
   have I2 := I.laid (t' := tk) (a := h'.objs.size) (o := .ext (Kf h'.objs.size q params body scope (cA X.env scope.names []) c')) (h' := h'.push (PySem.W.kla_obj "<lambda>" q params body scope (cA X.env scope.names []) ((X.mg "__name__").getD .none) c' WZ))
     (fun b u e => afn _ (hk _ _ e)) hsz ⟨⟨_, _, afE _ rfl⟩, ⟨_, afE _ rfl⟩, fun h1 h2 ⟨pm, ct, e⟩ kk => ⟨pm, ct, kk _ e⟩⟩
   have f1 : H h'.objs.size = none := I.dw.fresh hsz
   refine k _ c' _ _ I2 (fun b o e => by rw [az (aE e f1)]; exact e) aN (by rw [az (aE IZ f1)]; exact IZ) fun b o e im => ?_
   by_cases z2 : b = h'.objs.size
   . subst z2; rw [aN] at e; cases e; cases im
   . rw [az z2] at e; exact e
end
noncomputable def uO (X : Cx) (A : Around) (q : Str) (scope : Scope) (Nc : List Str) (f c : Addr) (s : Shared) (H : Hp) : Cx where
 prog := X.prog
 w := X.w
 K := X.K
 mg := X.mg
 base := X.base
 A := A.deeper (PySem.W.envX q scope s.heap.objs.size f (.ref c) (cA X.env scope.names []))
 N := Nc
 s₀ := s
 H₀ := H
 env := PySem.W.envX q scope s.heap.objs.size f (.ref c) (cA X.env scope.names [])
 outer := X.stack
 stack := PySem.W.envX q scope s.heap.objs.size f (.ref c) (cA X.env scope.names []) :: X.stack
 ex := []
 fn := fun _ => false
 calm := true
 pn := []
 xe := fun _ _ => False
section
variable {X : Cx} {scope : Scope} {x q : Str} {Nc : List Str} {ix : List Nat} {pins : List (Addr × Obj)} {σ : L2.St} {H : Hp} {s : Shared} {A : Around} {f c : Addr}
theorem HC (sc : fL X scope x Nc ix) (I : L2.Inv X pins σ H s) (hA : A.frames = some X.stack) (hh : A.handled = none) {h' : Heap} {tk : Nat} {u : Value} {v : V} (r : RelV v u)
   (hn : h'.Ns s.heap.objs.size (fun y => ([(x, u)] : List (Str × Value)).reverse.lookup y)) (hk : ∀ b o, s.heap.get? b = some o -> h'.get? b = some o) :
   L2.Inv (uO X A q scope Nc f c s H) [] (qZ σ ix (some v)) H { s with heap := h', toks := tk } := by
 have frees : ∀ y ∈ scope.names, y.2 = .free -> ∃ c, X.env.cells.lookup y.1 = some c := fun y hy e => I.ok.has y.1 (sc.frees y hy e).2
 have sub : ∀ {y : Str} {c : Addr}, (cA X.env scope.names []).lookup y = some c -> X.env.cells.lookup y = some c := fun {y c} e => kr frees (fun _ _ z => by cases z) e
 have hlen : (qZ σ ix (some v)).length = Nc.length := by
   have all : ∀ l : List Nat, (∀ i ∈ l, ∃ y, X.N[i]? = some y /\ scope.names.lookup y = some .free) -> (l.filterMap (X.N[·]?)).length = l.length := by
     intro l
     induction l with
     | nil => intro _; rfl
     | cons i r ih =>
       intro h
       obtain ⟨y, e, _⟩ := h i afb
       rw [agb, e]
       show _ + 1 = _ + 1
       rw [ih fun j hj => h j (afd _ hj)]
   unfold qZ
   rw [sc.hd, afI, afI, afj, all ix sc.Sj]
 have nil : ∀ b : Addr, b ∉ (uO X A q scope Nc f c s H).ex := fun b z => absurd (show b ∈ ([] : List Addr) from z) (by simp)
 refine ⟨⟨I.ok.mod, sc.kind, rfl, rfl, afg _, fun y z c h1 h2 => I.ok.inj y z c (sub h1) (sub h2), fun y hy => ?_, fun y c hf _ => (by cases (show false = true from hf)), fun _ => hh, Around.frames_deeper hA, .inr ⟨rfl, rfl⟩, fun b hb => absurd hb (nil b), I.bs, afU I.ok.My I.sz, fun b o _ => nil b, fun b hb => absurd hb (nil b), I.stack, I.yi⟩,
   rfl, I.bare, Un.kept hk, ⟨_, hn, fun i y w h1 h2 h3 => ?_⟩, fun y c e => ?_, I.dw.fresh (afg _), fun y c e => I.ly y c (sub e), fun p hp => absurd (show p ∈ ([] : List (Addr × Obj)) from hp) (by simp), I.dw.kept hk, hlen⟩
 . have ZR : scope.names.lookup y = some .cell \/ scope.names.lookup y = some .free := hy
   rcases ZR with z | z
   . exact absurd rfl (sc.qY _ (af7 z))
   . exact iJ z
 . unfold qZ at h2
   cases i with
   | zero =>
     have J2 : some (some v) = some (some w) := h2
     cases J2
     have e : y = x := by
       have Ss : Nc[0]? = some y := h1
       rw [sc.hd] at Ss
       exact (afv Ss).symm
     subst e
     refine ⟨u, r, .inl ⟨sc.own, ?_⟩⟩
     simp
   | succ i =>
     rw [List.getElem?_cons_succ, afH] at h2
     cases ei : ix[i]? with
     | none => rw [ei] at h2; cases h2
     | some j =>
       rw [ei] at h2
       have J2 : (σ[j]?).getD none = some w := afv h2
       have hj : σ[j]? = some (some w) := by
         cases q : σ[j]? with
         | none => rw [q] at J2; cases J2
         | some o => rw [q] at J2; exact congrArg some J2
       obtain ⟨y', Yg, U6⟩ := sc.Sj j (afM ei)
       have hNc : Nc[i + 1]? = some y' := by
         have all : ∀ (l : List Nat) (i : Nat), (∀ j ∈ l, ∃ y, X.N[j]? = some y /\ scope.names.lookup y = some .free) -> l[i]? = some j -> (l.filterMap (X.N[·]?))[i]? = some y' := by
           intro l
           induction l with
           | nil => intro i _ h; simp at h
           | cons a r ih =>
             intro i h hi
             obtain ⟨ya, ea, _⟩ := h a afb
             rw [agb, ea]
             cases i with
             | zero =>
               simp at hi
               subst hi
               rw [Yg] at ea
               cases ea
               rfl
             | succ i => exact ih i (fun j hj => h j (List.mem_cons_of_mem _ hj)) (by simpa using hi)
         rw [sc.hd, List.getElem?_cons_succ]
         exact all ix i sc.Sj ei
       have ey : y' = y := by
         have Ss : Nc[i + 1]? = some y := h1
         rw [hNc] at Ss
         exact afv Ss
       subst ey
       have uz := (sc.frees (y', .free) (af7 U6) rfl).2
       have U7 : Td X.env.scope y' := uz.elim (fun z => .inr (.inl z)) (fun z => .inr (.inr z))
       obtain ⟨m0, hn0, ZS⟩ := I.loc
       obtain ⟨u', ru, lk⟩ := ZS j y' w Yg hj U7
       refine ⟨u', ru, ?_⟩
       rcases lk with ⟨kk, _⟩ | ⟨_, c', hc, sj⟩
       . rcases uz with z | z
         . rw [kk] at z; cases z
         . rw [kk] at z; cases z
       . obtain ⟨c2, IZ⟩ := iJ (env := X.env) (cs := []) U6
         have : c2 = c' := by
           have := sub IZ
           rw [hc] at this
           exact (afv this).symm
         subst this
         obtain ⟨o, ho, hd⟩ := sj
         exact .inr ⟨.inr U6, c2, IZ, o, hk _ _ ho, hd⟩
 . obtain ⟨v, o, ho, hd⟩ := I.cell y c (sub e)
   exact ⟨v, o, hk _ _ ho, hd⟩
theorem Kh {params : Arguments} {body : Expr} {u : Value} {v : V} {Q : VK} (sc : fL X scope x Nc ix) (I : L2.Inv X pins σ H s) (hA : A.frames = some X.stack) (hh : A.handled = none) (Yp : A.depth < recursionLimit)
   (hf : H f = some (.ext (Kf f q params body scope (cA X.env scope.names []) c))) (hc : H c = some (.GH q)) (r : RelV v u)
   (Cb : ∀ cl pm cd ct u, bindArgs (PySem.W.kla_fn "<lambda>" q params body scope cl pm cd ct) ⟨[u], []⟩ = pure [(x, u)]) (hco : scope.isCoroutine = false) (Vp : scope.isGenerator = false)
   (h : BH (uO X A q scope Nc f c s H) body (qZ σ ix (some v)) H Q) : wpAny (model X.prog X.w) A (call (.ref f) [u]) (EP X pins σ Q) (fun _ _ => False) s := by
 obtain ⟨⟨pm, WZ, ho⟩, _⟩ := I.dw _ _ hf
 obtain ⟨oc, vs, t, e1, e2, e3⟩ := I.dw _ _ hc
 refine wpAny_call (PySem.W.kla_callFunE Yp ho rfl hco Vp rfl ⟨c, oc, vs, t, rfl, e1, e2, e3⟩ ?_)
 rw [Cb]
 refine afV (wpAny_newFunctionEnv sc.qY (fun y hy => ?_) (fun h₁ ZZ hsb => ?_) sc.kind)
 . rw [afD.mp hy]
   exact sc.own
 . have hk : ∀ b o, s.heap.get? b = some o -> h₁.get? b = some o := fun b o e => (hsb.2 b (afO (afu e))).trans (afn _ e)
   refine ⟨I.nolimit.keeps hk, ?_⟩
   show codeAny _ _ (.expr body (PySem.W.envX q scope s.heap.objs.size f (.ref c) (cA X.env scope.names []))) _ _
   have J := HC (q := q) (f := f) (c := c) (tk := s.toks + ([(x, u)] : List (Str × Value)).length) sc I hA hh r ZZ hk
   refine PySem.W.kla_codeExpr (agn (h [] _ J) (fun w s' hl => ?_) fun e s' hx => False.elim hx)
   obtain ⟨v', H', J', rv, hq⟩ := hl
   exact I.after ⟨v', H', J'.os, J'.bare, J'.base, J'.dw, rv, hq⟩
end
section
variable {X : Cx} {pins : List (Addr × Obj)} {σ : L2.St} {H : Hp} {s : Shared}
theorem HD {a : Addr} {o : HO} (I : L2.Inv X pins σ H s) (fp : gT X pins H a) (new : d9 X.prog X.w (upd H a o) s.heap a o) : L2.Inv X pins σ (upd H a o) s := by
 have hn := fp.1
 refine I.step (H' := upd H a o) (h' := s.heap) (g' := s.gens) (d' := s.drawn) (t' := s.toks) (ch := [a]) (fun b hb => ?_) (fun b o _ _ _ e _ => e) (fun b o _ _ _ e _ => ⟨o.slots, e⟩) (fun b o hc _ n => by rw [az fun z => hc (by simp [z])]; exact n)
   (fun b o _ e => ⟨o, e⟩) (fun b xs e => by rw [az (aE e hn)]; exact e) (fun b o u e => by rw [az (aE e hn)]; exact e) (fun b ps e => ⟨#[], by rw [az (aE e hn), e]; simp⟩) (fun m hm => hm) (fun b u e => ?_) I.bare
 . have e : b = a := by simpa using hb
   subst e
   exact ⟨fp.2.2.2.1, fp.2.1, fp.2.2.2.2.1, fp.2.2.2.2.2⟩
 . by_cases z : b = a
   . subst z; rw [aN] at e; cases e; exact new
   . rw [az z] at e
     exact (I.dw b u e).ye (fun _ _ _ q => q) (fun c q => by rw [az (aE q hn)]; exact q) (fun c xs q => by rw [az (aE q hn)]; exact q) fun c z q => by rw [az (aE q hn)]; exact q
end
noncomputable def oh (kz : List Int) (xs : List V) : List V := (e7 Prod.fst (kz.zip xs)).map Prod.snd
section
variable {α β : Type} {F : α -> β -> Prop} {g1 : α -> Int} {g2 : β -> Int}
theorem Cd (hg : ∀ p q, F p q -> g1 p = g2 q) {x : α} {y : β} (hx : F x y) {l1 : List α} {l2 : List β} (h : Paired F l1 l2) : Paired F (kC g1 x l1) (kC g2 y l2) := by
 induction h with
 | nil => exact .cons hx .nil
 | @cons p q l1 l2 r t i =>
   rw [kC, kC, hg x y hx, hg p q r]
   split
   . exact .cons hx (.cons r t)
   . exact .cons r i
theorem pV (hg : ∀ p q, F p q -> g1 p = g2 q) {l1 : List α} {l2 : List β} (h : Paired F l1 l2) : Paired F (e7 g1 l1) (e7 g2 l2) := by
 induction h with
 | nil => exact .nil
 | cons r _ i => exact Cd hg r i
end
theorem uP : ∀ {ks us : List Value} {kz : List Int} {xs : List V}, IntsAre ks kz -> Vals xs us -> Paired (fun (p : Int × V) (q : Value × Value) => p.1 = numOf q.1 /\ RelV p.2 q.2) (kz.zip xs) (ks.zip us)
 | _, _, _, _, .nil, _ => by simp only [List.zip_nil_left]; exact .nil
 | _, _, _, _, .cons n t h, .nil => by simp only [List.zip_nil_right]; exact .nil
 | _, _, _, _, .cons n t h, .cons r rr => .cons ⟨rfl, r⟩ (uP h rr)
theorem Kl {ps : List (Int × V)} {qs : List (Value × Value)} (h : Paired (fun (p : Int × V) (q : Value × Value) => p.1 = numOf q.1 /\ RelV p.2 q.2) ps qs) : Vals (ps.map Prod.snd) (qs.map Prod.snd) := by
 induction h with
 | nil => exact .nil
 | cons r _ i => exact .cons r.2 i
theorem Ce {keys : Array Value} {us : List Value} {xs : List V} {kz : List Int} (hk : IntsAre keys.toList kz) (r : Vals xs us) {arr : Array Keyed} {κ : Nat -> Nat}
   (t : Tag (keys.zip us.toArray) arr κ (keys.zip us.toArray).size) (o : lN arr κ (keys.zip us.toArray).size) (hz : arr.size = (keys.zip us.toArray).size) : Vals (oh kz xs) (arr.map (·.2)).toList := by
 have ez := ksk_zip keys us
 have el : (keys.toList.zip us).length = (keys.zip us.toArray).size := by rw [← ez, agk]
 have e : arr.toList = e7 (fun p : Keyed => numOf p.1) (keys.toList.zip us) := by
   refine Ke (κ := κ) (by rw [el, agk, hz]) (fun k hk => ?_) (fun k hk => ?_) fun i j x y B6 hx hy => ?_
   . rw [el] at hk
     rw [agD, t.pl k hk, ← ez, agD]
   . rw [el] at hk ⊢
     exact t.lo k hk
   . rw [agD] at hx hy
     have hj : j < arr.size := (Array.getElem?_eq_some_iff.mp hy).1
     have q := o i j B6 (by rw [← hz]; exact hj)
     unfold PyProof.Rows.K at q
     rw [hx, hy] at q
     exact q
 rw [Array.toList_map, e]
 exact Kl (pV (fun p q h => h.1) (uP hk r))
section
variable {X : Cx} {pins : List (Addr × Obj)} {σ : L2.St} {H : Hp} {s : Shared} {a kS f l : Addr} {us : List Value} {xs : List V} {kz : List Int} {J : Hp -> Prop} {e1 : Nat} {A : Around} {E : Value -> Shared -> Prop} {P : PySem.Fin -> Shared -> Prop}
theorem tP {it : Addr} (I : L2.Inv X pins σ H s) (fp : gT X pins H it) (g : Obj -> Obj) : L2.Inv X pins σ H { s with heap := s.heap.update it g } := by
 have s1 := Heap.SameBut.update s.heap it g
 exact I.turned (t' := s.toks) (fun b o n q => (s1.2 b n).trans q) fp.1 fp.2.1 fp.2.2.2.1 fp.2.2.2.2.1 fp.2.2.2.2.2
theorem F2 {st : SortSt} {keys : Array Value} {e : Nat} (I : L2.Inv X pins σ H s) (fk : gT X pins H kS) (fa : gT X pins H a) (Vq : kS ≠ a) (ok : s.heap.get? kS = some (seqObj "list" keys e)) (oa : s.heap.get? a = some (seqObj "list" #[] e1))
   (hks : keys.size < 64) (hsz : (arrOf st).size < 64) (SD : failedOf st = none)
   (h : ∀ s' c, L2.Inv X pins σ H s' -> s'.heap.get? a = some (seqObj "list" ((arrOf st).map (·.2)) c) -> P (.done (.ret .none)) s') :
   wpAny (model X.prog X.w) A (ksk_tail a false e1 (.ref kS) st) P E s := by
 have s1 := Heap.SameBut.update s.heap kS (Obj.mapSeq fun _ => (#[] : Array Value))
 have I1 := tP I fk (Obj.mapSeq fun _ => (#[] : Array Value))
 have na1 : (s.heap.update kS (Obj.mapSeq fun _ => (#[] : Array Value))).get? a = some (seqObj "list" #[] e1) := (s1.2 a Vq.symm).trans oa
 have I2 := tP I1 fa (Obj.mapSeq fun _ => (arrOf st).map (·.2))
 obtain ⟨c2, U4⟩ : ∃ c2, ((s.heap.update kS (Obj.mapSeq fun _ => (#[] : Array Value))).update a (Obj.mapSeq fun _ => (arrOf st).map (·.2))).get? a = some (seqObj "list" ((arrOf st).map (·.2)) c2) :=
   ⟨_, get?_update_seq na1 fun _ => (arrOf st).map (·.2)⟩
 unfold ksk_tail
 try dsimp only
 refine afs (listUpdate_at ok rfl ?_ (by rw [afP]; omega) (afG _))
 refine afs (wpAny_letGo ?_)
 refine afs (seqEpoch_at na1 rfl ?_)
 refine afs (listUpdate_at na1 rfl ?_ (afG _) (by simp only [af2, agE, Array.size_map]; rw [afP]; omega))
 rw [SD]
 simp only [bne_self_eq_false, af2, agE]
 exact afV (h _ c2 I2 U4)
theorem Vr {keys : Array Value} {e : Nat} (I : L2.Inv X pins σ H s) (fk : gT X pins H kS) (fa : gT X pins H a) (Vq : kS ≠ a) (ok : s.heap.get? kS = some (seqObj "list" keys e)) (oa : s.heap.get? a = some (seqObj "list" #[] e1))
   (hk : IntsAre keys.toList kz) (hlen : kz.length = us.length) (Sz : us.length < 64) (r : Vals xs us)
   (h : ∀ s' out c, L2.Inv X pins σ H s' -> s'.heap.get? a = some (seqObj "list" out c) -> Vals (oh kz xs) out.toList -> P (.done (.ret .none)) s') :
   wpAny (model X.prog X.w) A (ksk_end a false us.toArray e1 (.ref kS) keys) P E s := by
 have hsz : keys.size = us.length := by
   have h1 := hk.length
   rw [agk] at h1
   omega
 have hzs : (keys.zip us.toArray).size = us.length := by rw [Array.size_zip, hsz, afz, Nat.min_self]
 have t0 : ∀ n, Tag (keys.zip us.toArray) (keys.zip us.toArray) id n := fun n => ⟨fun _ _ => rfl, fun _ q => q, fun _ _ => rfl⟩
 unfold ksk_end
 try dsimp only
 simp only [af2, agE]
 by_cases h2 : us.toArray.size < 2
 . rw [afa h2, afa h2]
   refine afs (afV ?_)
   rw [StateT.run_pure]
   refine afs (afV ?_)
   try dsimp only
   rw [afz] at h2
   refine F2 (st := SortSt.mk' general' (keys.zip us.toArray) #[] 7 none) I fk fa Vq ok oa (by omega) (by show (keys.zip us.toArray).size < 64; omega) rfl fun s' c I' o' => h s' _ c I' o' ?_
   exact Ce hk r (arr := keys.zip us.toArray) (κ := id) (t0 _) (fun i j B6 hj => by omega) rfl
 . rw [ae9 h2, ae9 h2]
   rw [afz] at h2
   rw [ksk_kind hk (by rw [hsz]; omega)]
   refine afs (afV ?_)
   refine afs (agn (Hz (a₀ := keys.zip us.toArray) (st := SortSt.mk' oneType' (keys.zip us.toArray) #[] 7 none)
     (Q := fun _ Be => failedOf Be = none /\ ∃ κ, Tag (keys.zip us.toArray) (arrOf Be) κ (keys.zip us.toArray).size /\ lN (arrOf Be) κ (keys.zip us.toArray).size /\ (arrOf Be).size = (keys.zip us.toArray).size)
     (ksk_intKeys hk) ⟨Array.Perm.refl _, rfl, rfl, rfl⟩ (t0 _) (by rw [hzs]; omega) (by rw [hzs]; exact Sz) fun z κ a1 a2 a3 a4 => ⟨a1, κ, a2, a3, a4⟩) ?_ fun _ _ e => e)
   rintro ⟨⟨⟩, Be⟩ s' ⟨rfl, hf, κ, t, o, hz⟩
   try dsimp only
   have hz' : (arrOf Be).size = (keys.zip us.toArray).size := hz
   exact F2 I fk fa Vq ok oa (by omega) (by omega) hf fun s' c I' o' => h s' _ c I' o' (Ce hk r t o hz)
theorem Yq {b : Addr} {H' : Hp} (fp : gT X pins H b) (h : H' b = none) : gT X pins H' b := ⟨h, fp.2⟩
theorem N7 (I : L2.Inv X pins σ H s) (fk : gT X pins H kS) (fa : gT X pins H a) (Vq : kS ≠ a) (ok : s.heap.get? kS = some (seqObj "list" #[] 0)) (oa : s.heap.get? a = some (seqObj "list" #[] e1)) (j0 : J H)
   (hlen : kz.length = us.length) (Sz : us.length < 64) (r : Vals xs us)
   (turn : ∀ (i : Nat) (x : V) (k : Int), xs[i]? = some x -> kz[i]? = some k -> ∀ (iE : List (Addr × Obj)) (s' : Shared) (u : Value) (H' : Hp), L2.Inv X iE σ H' s' -> J H' -> RelV x u →
     wpAny (model X.prog X.w) A (call (.ref f) [u]) (EP X iE σ fun v Yr => v = .int k /\ J Yr) (fun _ _ => False) s')
   (h : ∀ s' H' out c, L2.Inv X pins σ H' s' -> J H' -> H' a = none -> s'.heap.get? a = some (seqObj "list" out c) -> Vals (oh kz xs) out.toList -> P (.done (.ret .none)) s') :
   wpAny (model X.prog X.w) A (ksk_rest a (.ref f) false us.toArray e1 (.ref kS)) P E s := by
 unfold ksk_rest
 refine afs (wpAny_rule ?_)
 first
   | rw [List.forIn_toArray]
   | (rw [← Array.forIn_toList]; simp only [List.toList_toArray])
   | rw [← Array.forIn_toList]
 refine afs (ksk_fold (fun i s' => ∃ H' kA e, L2.Inv X pins σ H' s' /\ J H' /\ H' kS = none /\ H' a = none /\ s'.heap.get? kS = some (seqObj "list" kA e) /\ s'.heap.get? a = some (seqObj "list" #[] e1) /\ IntsAre kA.toList (kz.take i)) us 0 s
   ⟨H, #[], 0, I, j0, fk.1, fa.1, ok, oa, by simpa using IntsAre.nil⟩ ?step ?done)
 case step =>
   rintro j u s' hx ⟨H', kA, e, I', jj, nk, na, Ys, Z0, hk⟩
   simp only [Nat.zero_add] at hk ⊢
   have hj : j < us.length := (afA.mp hx).1
   obtain ⟨k, hkj⟩ : ∃ k, kz[j]? = some k := ⟨_, afc (by omega)⟩
   obtain ⟨x, hxx⟩ : ∃ x, xs[j]? = some x := ⟨_, afc (by rw [r.length]; exact hj)⟩
   have rx : RelV x u := by
     obtain ⟨u', e1, e2⟩ := r.get hxx
     rw [hx] at e1; cases e1; exact e2
   have hz : kA.size <= us.length := by
     have h1 := hk.length
     rw [agk, agU] at h1
     omega
   have Ip := I'.pinned (fp := [kS, a]) (fun b hb => by
     rcases afe.mp hb with rfl | hb
     . exact Yq fk nk
     . rw [afD.mp hb]; exact Yq fa na) (fun b hb => by
     rcases afe.mp hb with rfl | hb
     . exact ⟨_, Ys, fun v z => by cases z⟩
     . rw [afD.mp hb]; exact ⟨_, Z0, fun v z => by cases z⟩)
   refine afs (wpAny_attempt (agn (turn j x k hxx hkj _ _ u H' Ip jj rx) (fun v WU he => ?_) fun _ _ hF => hF.elim))
   obtain ⟨w, H2, I2, rw2, rfl, j2⟩ := he
   obtain ⟨t2, rfl⟩ := rw2
   try dsimp only
   have pk := I2.pin (kS, seqObj "list" kA e) (ae8 _ (ae8 _ (gu (by simp) Ys)))
   have pa := I2.pin (a, seqObj "list" #[] e1) (ae8 _ (ae8 _ (gu (by simp) Z0)))
   have I3 := tP I2.lC (Yq fk pk.2.1) (Obj.mapSeq (·.push (.int k t2)))
   have s1 := Heap.SameBut.update WU.heap kS (Obj.mapSeq (·.push (.int k t2)))
   obtain ⟨c2, U4⟩ : ∃ c2, (WU.heap.update kS (Obj.mapSeq (·.push (.int k t2)))).get? kS = some (seqObj "list" (kA.push (.int k t2)) c2) := ⟨_, get?_update_seq pk.1 (·.push (.int k t2))⟩
   have ek : kz.take (j + 1) = kz.take j ++ [k] := by rw [af8, hkj]; simp
   have ea : (kA.push (Value.int k t2)).toList = kA.toList ++ [Value.int k t2] := by simp
   refine afs (listUpdate_at pk.1 rfl ?_ (by rw [afP]; omega) (afU (Nat.le_of_eq (Array.size_push ..)) (by rw [afP]; omega)))
   exact afV ⟨rfl, H2, kA.push (.int k t2), c2, I3, j2, pk.2.1, pa.2.1, U4, (s1.2 a Vq.symm).trans pa.1, by rw [ea, ek]; exact ksk_snoc hk⟩
 case done =>
   rintro s' ⟨H', kA, e, I', jj, nk, na, Ys, Z0, hk⟩
   have hk' : IntsAre kA.toList kz := by
     have e3 : kz.take (0 + us.length) = kz := agO (by omega)
     rw [e3] at hk
     exact hk
   try dsimp only
   refine afs (listItems_at Ys rfl ?_)
   exact Vr I' (Yq fk nk) (Yq fa na) Vq Ys Z0 hk' hlen Sz r fun s2 out c I2 o2 v2 => h s2 H' out c I2 jj na o2 v2
theorem N8 {n : Nat} (I : L2.Inv X pins σ H s) (fa : gT X pins H a) (oa : s.heap.get? a = some (seqObj "list" us.toArray n)) (j0 : J H)
   (hlen : kz.length = us.length) (Sz : us.length < 64) (r : Vals xs us)
   (turn : ∀ (i : Nat) (x : V) (k : Int), xs[i]? = some x -> kz[i]? = some k -> ∀ (iE : List (Addr × Obj)) (s' : Shared) (u : Value) (H' : Hp), L2.Inv X iE σ H' s' -> J H' -> RelV x u →
     wpAny (model X.prog X.w) A (call (.ref f) [u]) (EP X iE σ fun v Yr => v = .int k /\ J Yr) (fun _ _ => False) s')
   (h : ∀ s' H' out c, L2.Inv X pins σ H' s' -> J H' -> H' a = none -> s'.heap.get? a = some (seqObj "list" out c) -> Vals (oh kz xs) out.toList -> P (.done (.ret .none)) s') :
   wpAny (model X.prog X.w) A (ksk_tree a (.ref f) false) P E s := by
 have ha : a < s.heap.objs.size := afu oa
 obtain ⟨e1, ho1⟩ : ∃ e1, (s.heap.update a (Obj.mapSeq fun _ => (#[] : Array Value))).get? a = some (seqObj "list" #[] e1) := ⟨_, get?_update_seq oa fun _ => #[]⟩
 have I1 := tP I fa (Obj.mapSeq fun _ => (#[] : Array Value))
 have hkS : ((s.heap.update a (Obj.mapSeq fun _ => (#[] : Array Value))).push (seqObj "tuple" us.toArray 0)).objs.size = s.heap.objs.size + 1 := by rw [size_push', Heap.size_update]
 have I2 : L2.Inv X pins σ H { s with heap := ((s.heap.update a (Obj.mapSeq fun _ => (#[] : Array Value))).push (seqObj "tuple" us.toArray 0)).push (seqObj "list" #[] 0) } :=
   I1.kept (t' := s.toks) fun b o e => afn _ (afn _ e)
 unfold ksk_tree
 refine afs (listItems_at oa rfl ?_)
 refine afs (listUpdate_at oa rfl ?_ (by rw [afz, afP]; omega) (afG _))
 refine afs (seqEpoch_at ho1 rfl ?_)
 refine afs (wpAny_newTuple ?_ (by show us.length <= _; rw [afP]; omega))
 refine afs (wpAny_newList ?_ (afG _))
 refine ag4 ?_
 refine N7 (s := { s with heap := ((s.heap.update a (Obj.mapSeq fun _ => (#[] : Array Value))).push (seqObj "tuple" us.toArray 0)).push (seqObj "list" #[] 0) }) (kS := ((s.heap.update a (Obj.mapSeq fun _ => (#[] : Array Value))).push (seqObj "tuple" us.toArray 0)).objs.size)
   I2 (I.wu (by rw [hkS]; exact agW _) (I.dw.fresh (by rw [hkS]; exact agW _))) fa (by rw [hkS]; exact Nat.ne_of_gt (Nat.lt_succ_of_lt ha)) (afE _ rfl) (afn _ (afn _ ho1)) j0 hlen Sz r turn h
theorem HF {Q : VK} (I : L2.Inv X pins σ H s) (hq : kh X.K H l xs) (hlen : kz.length = xs.length) (Sz : xs.length < 64) (j0 : J H)
   (turn : ∀ (i : Nat) (x : V) (k : Int), xs[i]? = some x -> kz[i]? = some k -> ∀ (iE : List (Addr × Obj)) (s' : Shared) (u : Value) (H' : Hp), L2.Inv X iE σ H' s' -> J H' -> RelV x u →
     wpAny (model X.prog X.w) X.A.in1.in1 (call (.ref f) [u]) (EP X iE σ fun v Yr => v = .int k /\ J Yr) (fun _ _ => False) s')
   (h : ∀ D H', J H' -> H' D = none -> Q (.ref D) (upd H' D (.lst (oh kz xs)))) :
   wpAny (model X.prog X.w) X.A (call (.builtin "sorted") [.ref l] [(Str.ofString "key", .ref f)]) (EP X pins σ Q) E s := by
 obtain ⟨us, r, pl, hz⟩ := I.list hq
 have el := r.length
 have hl : s.heap.IsList l us.toArray := pl.isList
 refine call_function_entry_kw kind_sorted plain_sorted entry_sorted (ksk_s1 _ _) ?_
 unfold Builtin.«sorted»
 refine afs (m := checkCount "sorted" 1 1 _) (afV ?_)
 refine afs (collect_list hl ?_ (by rw [afP]; omega))
 refine afs (wpAny_newList ?_ (by rw [afP]; omega))
 have hsz : ((s.heap.push (seqObj "list" #[] 0)).update s.heap.objs.size (Obj.mapSeq (· ++ us.toArray))).objs.size = s.heap.objs.size + 1 := by
   rw [Heap.size_update, size_push']
 have ZD : (((s.heap.push (seqObj "list" #[] 0)).update s.heap.objs.size (Obj.mapSeq (· ++ us.toArray))).push (seqObj "list" us.toArray 0)).get? (s.heap.objs.size + 1) = some (seqObj "list" us.toArray 0) := by
   rw [← hsz]; exact afE _ rfl
 have keep : ∀ b o, s.heap.get? b = some o -> (((s.heap.push (seqObj "list" #[] 0)).update s.heap.objs.size (Obj.mapSeq (· ++ us.toArray))).push (seqObj "list" us.toArray 0)).get? b = some o := fun b o q => by
   have n9 : b < s.heap.objs.size := afu q
   rw [Heap.get?_push_ne _ _ _ (by rw [hsz]; exact afO (Nat.lt_succ_of_lt n9)), Heap.get?_update_ne _ _ _ _ (afO n9), Heap.get?_push_ne _ _ _ (afO n9)]
   exact q
 show wpAny _ _ _ _ _ { s with heap := ((s.heap.push (seqObj "list" #[] 0)).update s.heap.objs.size (Obj.mapSeq (· ++ us.toArray))).push (seqObj "list" us.toArray 0) }
 rw [hsz]
 have I2 : L2.Inv X pins σ H { s with heap := ((s.heap.push (seqObj "list" #[] 0)).update s.heap.objs.size (Obj.mapSeq (· ++ us.toArray))).push (seqObj "list" us.toArray 0) } := I.kept (t' := s.toks) keep
 have fa : ∀ {H' : Hp}, H' (s.heap.objs.size + 1) = none -> gT X pins H' (s.heap.objs.size + 1) := fun {H'} e => I.wu (agW _) e
 refine afs (ag4 (wpAny_call_entry_kw slot_list_sort ⟨_, ZD, rfl⟩ entry_list_sort ?body (ksk_l1 _ _)))
 case body =>
   have ht' := ksk_t1 f (s.heap.objs.size + 1)
   show wpAny (model X.prog X.w) X.A.in1.in1 (Builtin.«list.sort» ⟨[.ref (s.heap.objs.size + 1)], [(Str.ofString "key", .ref f)]⟩) _ _ _
   rw [ht']
   refine N8 I2 (fa (I.dw.fresh (agW _))) ZD j0 (by omega) (by omega) r turn fun s' H' out c I' jj na o' v' => ⟨_, rfl, ?_⟩
   refine afV ⟨_, rfl, .ref (s.heap.objs.size + 1), _, HD I' (fa na) (o := .lst (oh kz xs)) ⟨?_, out.toList, c, v', ?_⟩, rfl, h _ H' jj na⟩
   . have : (oh kz xs).length = xs.length := by
       unfold oh
       rw [afj, jQ, List.length_zip, hlen, Nat.min_self]
     rw [this]; exact hz
   . simpa using o'
end
section
variable {K : PySem.W.Frag} {CL : Str -> Addr} {Z : Hp} {g : D -> Int}
theorem HG {ds : List D} {us : List V} (h : aC K CL Z ds us) : Paired (fun (d : D) (p : Int × V) => g d = p.1 /\ aZ K CL Z d p.2) ds ((ds.map g).zip us) :=
 aC.ind (P := fun ds us => Paired (fun (d : D) (p : Int × V) => g d = p.1 /\ aZ K CL Z d p.2) ds ((ds.map g).zip us)) .nil (fun r _ i => .cons ⟨rfl, r⟩ i) h
theorem HJ {ds : List D} {ps : List (Int × V)} (h : Paired (fun (d : D) (p : Int × V) => g d = p.1 /\ aZ K CL Z d p.2) ds ps) : aC K CL Z ds (ps.map Prod.snd) := by
 induction h with
 | nil => exact .nil
 | cons r _ i => exact .cons r.2 i
theorem HK {ds : List D} {us : List V} (r : aC K CL Z ds us) : aC K CL Z (e7 g ds) (oh (ds.map g) us) := HJ (pV (fun p q h => h.1) (HG (g := g) r))
end
noncomputable def Yt (X : Cx) (CL : Str -> Addr) (q : Str) (scope : Scope) (Nc : List Str) (body : Expr) (δc : List (Option T)) (ds : List D) (g : D -> Int) : Prop :=
 ∀ f c s0 H0 b' d, d ∈ ds -> cH (uO X X.A.in1.in1 q scope Nc f c s0 H0) CL b' body (some (.sh d) :: δc) (.int (g d)) (some (.sh d) :: δc)
section
variable {X : Cx} {CL : Str -> Addr} {b : Bx} {δ δ1 : List (Option T)} {e body : Expr} {ds : List L3.D} {g : L3.D -> Int} {scope : Scope} {y q tx : Str} {Nc : List Str} {ix : List Nat} {params : Arguments} {pos pp lp p2 : Pos}
theorem uQ (L : Kg X CL tx q) (g0 : Gx X) (dp : X.A.depth < recursionLimit) (hm : X.mg "sorted" = none) (hg : Gl X "sorted") (sc : fL X scope y Nc ix) (h : cH X CL b e δ (.lst ds) δ1) (hi : D.bN ds = true) (hl : ds.length < 64)
   (inner : Yt X CL q scope Nc body (wF δ1 ix) ds g) (Vo : defaultsOf params X.env = ([], []) := by rfl)
   (Cb : ∀ cl pm cd ct u, bindArgs (PySem.W.kla_fn "<lambda>" q params body scope cl pm cd ct) ⟨[u], []⟩ = pure [(y, u)] := by intros; rfl) (hco : scope.isCoroutine = false := by rfl) (Vp : scope.isGenerator = false := by rfl)
   (hs : starEach [e] X.env = (false, eval e X.env) :: starEach [] X.env := by exact bW rfl) :
   cg X CL b (.Call (.Name "sorted" pp) [e] [⟨some "key", .Lambda params body scope lp, p2⟩] pos) δ (.lst ((e7 g ds).map T.sh)) δ1 := by
 intro H Z σ ts vs Q S k pins s I
 have ha : PA X [e] (FG (BH X e) Jk) := cD dR e9 hs
 have hk : PK X [⟨some "key", .Lambda params body scope lp, p2⟩] (FG (BH X (.Lambda params body scope lp)) Jk) := M4 dR Uh
 refine agA (lA I hg hm yG ?_)
 refine callWith_kw (dU (ha pos pins s σ H (fun vs' H1 => ∃ v Z1, vs' = [v] /\ aD Z Z1 /\ aD H H1 /\ bX X.K CL b H1 Z1 δ1 σ ts vs /\ aZ X.K CL H1 (.lst ds) v) I (h H Z σ ts vs _ S fun v H1 Z1 z1 k1 S1 r => ⟨v, Z1, rfl, z1, k1, S1, r⟩)) fun us s1 zz => ?_) (by rw [hs]; rfl) (by rw [hs]; rfl) rfl rfl
 obtain ⟨vs1, H1, I1, r1, v1, Z1, e1, z1, k1, S1, rep1⟩ := zz
 subst e1
 have abB : H1 (CL tx) = some (.tabs q) := by
   have := S1.G8 tx L.tab.1 L.tab.2.1
   rw [L.tab.2.2] at this
   exact this
 refine dU (hk pos pins s1 σ H1 (fun zs H2 => ∃ f c, zs = [.ref f] /\ aD H1 H2 /\ H2 f = some (.ext (Kf f q params body scope (cA X.env scope.names []) c)) /\ H2 c = some (.GH q)) I1
   (fun iE s' I' => Vm L I' abB (fun y hy e => I'.ok.has y.1 (sc.frees y hy e).2) Vo fun f c H2 s2 I2 k2 hf hc _ => ⟨.ref f, H2, I2, rfl, f, c, rfl, k2, hf, hc⟩)) fun ws s2 zz => ?_
 obtain ⟨zs, H2, I2, rz, f, c, e2, k2, hf, hc⟩ := zz
 subst e2
 obtain ⟨u, rfl, ru⟩ := rz.one
 cases ru
 obtain ⟨v, rfl, rv⟩ := r1.one
 cases rep1 with
 | @lst p us' _ hq rr =>
   cases rv
   show wpAny _ _ (call (.builtin "sorted") [.ref p] [(Str.ofString "key", .ref f)]) _ _ s2
   have hlen := rr.length
   refine HF (J := fun H3 => ∃ Z3, aD H2 H3 /\ aD H2 Z3 /\ aD Z3 H3 /\ ∀ a o, H3 a = some o -> iH o = true -> Z3 a = some o) (kz := ds.map g) I2 (k2.seq hq) (by rw [afj, hlen]) (by omega)
     ⟨H2, .refl _, .refl _, .refl _, fun _ _ q _ => q⟩ (fun i x kk hx hkk iE s' u H3 I3 zz rx => ?_) fun D H3 zz hD => ?_
   . obtain ⟨Z3, a1, a2, a3, a4⟩ := zz
     obtain ⟨d, hd, rd⟩ := rr.JA hx
     have ek : kk = g d := by
       rw [afH, hd] at hkk
       exact (afv hkk).symm
     subst ek
     refine Kh sc I3 I3.ok.frames (I3.ok.hd g0.calm) dp (a1 _ _ hf) (a1 _ _ hc) rx Cb hco Vp ?_
     have S0 : bX X.K CL ⟨H3, Z3⟩ H3 Z3 (some (.sh d) :: wF δ1 ix) (qZ σ ix (some x)) [] [] :=
       ⟨⟨[] ++ [], [], .cons (.sh (rd.mono (k2.trans a2))) ((uE S1 ix H3).mono (k2.trans a2) fun a ha => by cases ha), .nil, agy, fun a ha => by cases ha⟩, .refl _, .refl _, a3, fun a o q z => (by have z' : Z3 a = none := z; rw [show Z3 a = some o from q] at z'; cases z'), a4, S1.G8.mono (k2.trans a2)⟩
     refine inner f c s' H3 ⟨H3, Z3⟩ d (afM hd) H3 Z3 _ [] [] _ S0 fun v H5 Z5 z5 k5 S5 r5 => ⟨?_, Z5, a1.trans k5, a2.trans z5, S5.zh, S5.tp⟩
     cases r5
     rfl
   . obtain ⟨Z3, a1, a2, a3, a4⟩ := zz
     obtain ⟨Z', z', S4⟩ := S1.back (t := .sh (.int 0)) (v := .int 0) (fp := []) (k2.trans a1) S1.zh (k2.trans a2) a3 (fun a o q z => z) a4 (.sh (.int 0)) agy (fun a ha => by cases ha) (.inr rfl)
     obtain ⟨c5, S5⟩ := (bX.sE (HK (g := g) ((aC.jg S1.tp hi rr).mono z')) S4.pop).oF (g0 := []) (by simp [oh, jQ, hlen]) hD
     exact k _ _ _ (z1.trans z') ((k1.trans (k2.trans a1)).trans c5) S5
variable {A : Around} {f c : Addr} {s : Shared} {H : Hp} {i : Nat} {x : Str}
theorem Km (h1 : Nc[i]? = some x) (h2 : scope.names.lookup x = some .local) (hd : (x == ("__debug__" : Str)) = false := by decide) (iD : (x == ("__classdict__" : Str)) = false := by decide) : Vn (uO X A q scope Nc f c s H) i x := ⟨h1, .inl h2, hd, iD⟩
theorem Kn (h1 : Nc[i]? = some x) (h2 : scope.names.lookup x = some .free) (hd : (x == ("__debug__" : Str)) = false := by decide) (iD : (x == ("__classdict__" : Str)) = false := by decide) : Vn (uO X A q scope Nc f c s H) i x := ⟨h1, .inr (.inr h2), hd, iD⟩
theorem Vs (h2 : scope.names.lookup x = some .globalImplicit) : Gl (uO X A q scope Nc f c s H) x := h2
end
theorem N9 {P : Program} {w : World} {K : PySem.W.Frag} {mg : Str -> Option Value} {base : Heap} {x qual : Str} {st : Stmt} {f : Addr} {fd : FuncData} {N ps : List Str} {k : Nat} {sp : Sp} (F : iY K x qual st f fd) (S : aL N ps (ao st)) (len : ∀ vs H Q E, sp vs H Q E -> vs.length = ps.length)
   (Bs : ∀ (dI : Value) (A : Around) (outer : List Env) (s : Shared) (H : Hp) (vs : List V) (Q : VK) (E : XK), fd.code = dI -> eN k (A.deeper (envOfC qual (ao st) s.heap.objs.size f dI)) -> sp vs H Q E →
     ∃ t, Dm (uy gq P w K mg base N qual (ao st) f dI A outer s H E).Mz (fu st) t /\ t { nx := fun _ H' => Q .non H', rt := Q } (L2.start N vs) H) : bV P w K mg base gq (k + 1) f fd ps sp := by
 obtain ⟨oc, od, kV, doc, pm, an, dI, ct, IQ, rfl, lk, iD⟩ := F.ex
 refine R4 lk iD S len fun A outer s H vs Q E hr MA => ?_
 obtain ⟨t, h, q⟩ := Bs dI A outer s H vs Q E rfl hr MA
 exact ⟨t, h.Mz, q⟩
theorem Cg {P : Program} {w : World} {K : PySem.W.Frag} {mg : Str -> Option Value} {base : Heap} {CL : Str -> Addr} {x qual : Str} {st : Stmt} {f : Addr} {fd : FuncData} {N ps : List Str} {k : Nat} {A : Type} {arg : A -> List D} {Pre : A -> Prop} {res : A -> T} (F : iY K x qual st f fd) (S : aL N ps (ao st))
   (hb : ∀ (dI : Value) (Ar : Around) (outer : List Env) (s : Shared) (H : Hp) (E : XK) (b : Bx) (a : A), fd.code = dI -> eN k (Ar.deeper (envOfC qual (ao st) s.heap.objs.size f dI)) -> Pre a →
     eO (uy gq P w K mg base N qual (ao st) f dI Ar outer s H E).Mz CL b (fu st) (entry N (arg a)) { nx := fun _ => res a = .sh .non, rt := fun t _ => t = res a }) :
   bV P w K mg base gq (k + 1) f fd ps (kg K CL ps.length arg Pre res) := by
 refine N9 F S (fun vs H Q E h => ?_) (fun dI Ar outer s H vs Q E iD hr h => ?_)
 . obtain ⟨W, a, _, _, r, hl, _⟩ := h
   rw [← r.length]; exact hl
 . obtain ⟨W, a, wh, tp, r, hl, hp, tb, kk⟩ := h
   refine ⟨_, Nh, hb dI Ar outer s H E ⟨H, W⟩ a iD hr hp H W _ [] [] _ ⟨⟨[], [], ?_, .nil, agy, fun a ha => by cases ha⟩, .refl _, .refl _, wh, fun a o q z => ?_, tp, tb⟩ ⟨fun δ' σ' H' Z' s' S' e => ?_, fun t v H' Z' δ' σ' s' S' e => ?_, fun _ _ _ _ _ _ e => e.elim, fun _ _ _ _ _ _ e => e.elim⟩⟩
   . unfold entry L2.start
     rw [← r.length]
     exact iI _ r
   . have q' : W a = some o := q
     have z' : W a = none := z
     rw [q'] at z'; cases z'
   . exact kk .non H' Z' [] S'.bh S'.zz S'.zh S'.new S'.tp (by rw [show res a = .sh .non from e]; exact .sh .non) agy fun a ha => by cases ha
   . have e' : t = res a := e
     subst e'
     obtain ⟨fp, gp, _, r', nd, own⟩ := S'.rep
     cases r' with
     | @cons _ _ _ _ f1 f2 r1 r2 =>
       have h1 := (afZ.mp nd).2.1
       exact kk v H' Z' f1 S'.bh S'.zz S'.zh S'.new S'.tp r1 (afZ.mp h1).1 fun a ha => own a (ae8 _ (afl _ ha))
noncomputable def uR (mg : Str -> Option Value) (base : Heap) : Prop := ∃ bm o, mg "__builtins__" = some (.ref bm) /\ bm ≠ builtinsNs /\ bm ≠ mainGlobals /\ base.get? bm = some o /\ o.cls = .type "module" /\ o.dict = some builtinsNs /\ o.data = .plain
theorem Yu {CX : Jl} {P : Program} {w : World} {K : PySem.W.Frag} {mg : Str -> Option Value} {base : Heap} {N : List Str} {qual : Str} {scope : Scope} {f c : Addr} {dI : Value} {A : Around} {outer : List Env} {s : Shared} {H : Hp} {E : XK} {CL : Str -> Addr} {tx q : Str} {fd : FuncData}
   (bl : uR mg base) (kb : K.In base) (hc : fd.code = dI) (hf : fd.code = .ref c) (hd : PySem.W.codeHdIn K c (CL tx) = true) (h0 : CL tx ≠ 0) (hq : DF tx = q := by decide +kernel) (ht : BJ tx = true := by decide +kernel) (hn : qual ++ ".<locals>." ++ "<lambda>" = q := by decide +kernel) :
   Kg (uy CX P w K mg base N qual scope f dI A outer s H E).Mz CL tx q :=
 ⟨⟨c, hc.symm.trans hf, PySem.W.codeHd_of_K kb hd⟩, bl, hn, ht, h0, hq⟩
noncomputable def spT (K : PySem.W.Frag) (ts : List (Addr × Str)) {A : Type} (n : Nat) (arg : A -> List D) (Pre : A -> Prop) (res : A -> T) : Sp := fun vs H Q _ =>
 ∃ (W : Hp) (a : A), aD W H /\ (∀ c o, H c = some o -> iH o = true -> W c = some o) /\ aC K (fun _ => 0) W (arg a) vs /\ (arg a).length = n /\ Pre a /\ (∀ p ∈ ts, W p.1 = some (.tabs p.2)) ∧
   ∀ v H' W' fp, aD H H' -> aD W W' -> aD W' H' -> (∀ c o, W' c = some o -> W c = none -> H c = none) -> (∀ c o, H' c = some o -> iH o = true -> W' c = some o) →
     cK K (fun _ => 0) H' W' (res a) v fp -> fp.Nodup -> (∀ c ∈ fp, W' c = none /\ H c = none) -> Q v H'
theorem Oa {K : PySem.W.Frag} {CL : Str -> Addr} {ts : List (Addr × Str)} {arg : List Int -> List D} {pre : List Int -> Prop} {res : List Int -> T} (ha : ∀ a, arg a = [.lst (a.map .int)]) (hr : ∀ a, res a = .sh (.bl true)) (h0 : ∀ x, BJ x = true -> CL x ≠ 0 -> (CL x, DF x) ∈ ts) :
   ∀ (vs : List V) (H : Hp) (Q : VK) (E : XK), spT K ts 1 arg pre res vs H Q E -> kg K CL 1 arg pre res vs H Q E := by
 rintro vs H Q E ⟨W, a, h1, h2, h3, h4, h5, h6, k⟩
 have Vt : ∀ {l : List Int} {us : List V}, aC K (fun _ => 0) W (l.map .int) us -> aC K CL W (l.map .int) us := by
   intro l
   induction l with
   | nil => intro us r; cases r; exact .nil
   | cons i l ih =>
     intro us r
     cases r with
     | cons r t => cases r; exact .cons (.int i) (ih t)
 refine ⟨W, a, h1, h2, ?_, h4, h5, fun x hx e => h6 _ (h0 x hx e), fun v H' W' fp a1 a2 a3 a4 a5 r nd own => k v H' W' fp a1 a2 a3 a4 a5 ?_ nd own⟩
 . rw [ha] at h3 ⊢
   cases h3 with
   | cons r t =>
     cases t
     cases r with
     | lst q rr => exact .cons (.lst q (Vt rr)) .nil
 . rw [hr] at r ⊢
   cases r with
   | sh r => cases r; exact .sh (.bl _)
theorem Ob {K : PySem.W.Frag} {H : Hp} {a : Addr} {ts : List (Addr × Str)} {arg : List Int -> List D} {pre : List Int -> Prop} {res : List Int -> T} {ns : List Int} (ha : arg ns = [.lst (ns.map D.int)]) (hp : pre ns) (hr : res ns = .sh (.bl true)) (hS : kh K H a (ns.map V.int)) (ht : ∀ p ∈ ts, H p.1 = some (.tabs p.2)) :
   spT K ts 1 arg pre res [.ref a] H (fun v H' => v = .bl true /\ ∀ p ∈ ts, H' p.1 = some (.tabs p.2)) fun _ _ _ => False :=
 ⟨H, ns, .refl _, fun _ _ q _ => q, by rw [ha]; exact .cons (.lst hS (BU ns)) .nil, by rw [ha]; rfl, hp, ht, fun v H' W' fp hh _ _ _ _ r _ _ => by
   refine ⟨?_, fun p hp => hh _ _ (ht p hp)⟩
   rw [hr] at r
   cases r with
   | sh r => exact r.sc rfl⟩
theorem jS : ∀ {ts : List (Addr × Str)} {b : Addr} {q : Str}, ts.lookup b = some q -> (b, q) ∈ ts
 | [], _, _, e => by cases e
 | (c, x) :: r, b, q, e => by
   rw [afL] at e
   cases hb : b == c with
   | true => rw [hb] at e; cases e; rw [eq_of_beq hb]; exact .head _
   | false => rw [hb] at e; exact .tail _ (jS e)
theorem HL {P : Program} {w : World} {K : PySem.W.Frag} {mg mb : Str -> Option Value} {k : Nat} {fa a : Addr} {fd : FuncData} {x : Str} {sp : Sp} {s₁ : Shared} {vs : List Value} {ns : List Int} {ts : List (Addr × Str)}
   (KX : K.In s₁.heap) (ZZ : s₁.heap.Ns mainGlobals mg) (hb : s₁.heap.Ns builtinsNs mb) (hbb : ∀ x : Str, x ≠ "__name__" -> mb x = bootBuiltins x) (abC : s₁.heap.NoLimit) (hg : s₁.gens = #[]) (Z6 : uR mg s₁.heap)
   (ha : s₁.heap.get? a = some { cls := .type "list", data := .seq vs.toArray }) (hi : IntsAre vs ns) (hl : ns.length <= sizeLine) (hr : eN k callerA)
   (hT : ∀ p ∈ ts, s₁.heap.get? p.1 = some (PySem.W.tabObj #[]) /\ ts.lookup p.1 = some p.2 /\ K.lookup p.1 = none /\ ∃ c, PySem.W.CodeHd s₁.heap c p.1)
   (F : ∀ base : Heap, K.In base -> base.Ns mainGlobals mg -> uR mg base -> bV P w K mg base gq k fa fd [x] sp) (Cb : ∀ (s : Shared) (u : Value), BindsTo s fd ⟨[u], []⟩ [(x, u)])
   (MA : ∀ H : Hp, kh K H a (ns.map V.int) -> (∀ p ∈ ts, H p.1 = some (.tabs p.2)) -> sp [.ref a] H (fun v H' => v = .bl true /\ ∀ p ∈ ts, H' p.1 = some (.tabs p.2)) fun _ _ _ => False) :
   codeAny (model P w) callerA (.call (.ref fa) ⟨[.ref a], []⟩) (fun r s' => r = .ok (.ret (.bool true)) /\ OldK s₁.heap s'.heap /\ s'.os = s₁.os /\ AllBare s'.gens) s₁ := by
 have rv := xH hi
 have abD := hi.length
 have aT : ∀ p ∈ ts, p.1 ≠ a := fun p hp z => by
   have := (hT p hp).1
   rw [z, ha] at this; cases this
 have core : ∀ H : Hp, (∀ b, H b = none \/ (∃ o xs, b = a /\ H b = some (.dH o (.lst xs))) \/ ∃ p ∈ ts, b = p.1 /\ H b = some (.tabs p.2)) -> kh K H a (ns.map V.int) -> (∀ p ∈ ts, H p.1 = some (.tabs p.2)) -> oA P w H s₁.heap -> (H a ≠ none -> K.lookup a = none) →
     codeAny (model P w) callerA (.call (.ref fa) ⟨[.ref a], []⟩) (fun r s' => r = .ok (.ret (.bool true)) /\ OldK s₁.heap s'.heap /\ s'.os = s₁.os /\ AllBare s'.gens) s₁ := by
   intro H hO hS hH dw hK
   have WV : ∀ {b : Addr} {o : Obj}, s₁.heap.get? b = some o -> o ≠ { cls := .type "list", data := .seq vs.toArray } -> o ≠ PySem.W.tabObj #[] -> H b = none := fun {b o} e d1 d2 => by
     rcases hO b with q | ⟨_, _, z, _⟩ | ⟨p, hp, z, _⟩
     . exact q
     . rw [z, ha] at e; exact absurd (afv e).symm d1
     . rw [z, (hT p hp).1] at e; exact absurd (afv e).symm d2
   have yJ : ∀ {b : Addr} {o : Obj}, s₁.heap.get? b = some o -> H b = none -> (wm s₁.heap H).get? b = some o := fun e n => IX e n
   have Z7 : ∀ {b : Addr} {m : Str -> Option Value}, s₁.heap.Ns b m -> (wm s₁.heap H).Ns b m := fun {b m} ⟨o, es, ep, e, d, r⟩ => ⟨o, es, ep, yJ e (WV e (fun z => by rw [z] at d; cases d) fun z => by rw [z] at d; cases d), d, r⟩
   have hKb : K.In (wm s₁.heap H) := fun b o e => yJ (KX b o e) (by
     rcases hO b with q | ⟨_, _, z, q⟩ | ⟨p, hp, z, _⟩
     . exact q
     . subst z
       rw [hK (by rw [q]; simp)] at e; cases e
     . rw [z, (hT p hp).2.2.1] at e; cases e)
   have hM : Mod K mg (wm s₁.heap H) := ⟨hKb, Z7 ZZ, ⟨mb, Z7 hb, hbb⟩, let ⟨mc, h1, h2⟩ := abC; ⟨mc, Z7 h1, h2⟩⟩
   have hBb : uR mg (wm s₁.heap H) := by
     obtain ⟨bm, o, b1, b2, b3, b4, b5, b6, b7⟩ := Z6
     exact ⟨bm, o, b1, b2, b3, yJ b4 (WV b4 (fun z => by rw [z] at b7; cases b7) fun z => by rw [z] at b7; cases b7), b5, b6, b7⟩
   have e0 : Dv P w K mg (wm s₁.heap H) callerA [] s₁ H := ⟨rfl, hM, fun b o e => MG e, Nat.le_of_eq (GJ _ _), trivial, fun b hb => absurd (show b ∈ ([] : List Addr) from hb) (by simp), dw, .of_eq hg⟩
   refine codeAny_mono ((F _ hKb (Z7 ZZ) hBb).run callerA [] s₁ H ⟨[.ref a], []⟩ [.ref a] [.ref a] _ _ hr e0 (Cb s₁ (.ref a)) (.cons rfl .nil) (MA H hS hH)) fun r s' h => ?_
   cases r with
   | error e => exact h.elim
   | ok fl =>
     cases fl with
     | next => exact False.elim h
     | brk => exact False.elim h
     | cont => exact False.elim h
     | ret u =>
       obtain ⟨v, H', os, bare, un, Yv, r', q, qt⟩ := h
       subst q
       obtain rfl : u = Value.bool true := r'
       have tabAt : ∀ p ∈ ts, ∃ ps : Array Value, s'.heap.get? p.1 = some (PySem.W.tabObj ps) := fun p hp => by
         obtain ⟨ps, e, _⟩ := Yv _ _ (qt p hp)
         exact ⟨ps, e⟩
       have keep : ∀ b o, s₁.heap.get? b = some o -> (∀ p ∈ ts, b ≠ p.1) -> s'.heap.get? b = some o := fun b o e nt => by
         rcases hO b with q | ⟨ob, xs, z, q⟩ | ⟨p, hp, z, _⟩
         . exact un.keep b o e q (by intro z; exact absurd (show b ∈ ([] : List Addr) from z) (by simp)) (by simp)
         . have z2 := un.fG b ob _ q
           obtain ⟨e1, _⟩ := dw b _ q
           obtain ⟨e2, _⟩ := Yv b _ z2
           rw [e] at e1; cases e1
           exact e2
         . exact absurd z (nt p hp)
       refine ⟨rfl, ⟨fun b o e => ?_, fun b o e => ?_⟩, os, bare⟩
       . by_cases nt : ∀ p ∈ ts, b ≠ p.1
         . exact .inl (keep b o e nt)
         . obtain ⟨p, hp, rfl⟩ : ∃ p ∈ ts, b = p.1 := Classical.byContradiction fun q => nt fun p hp z => q ⟨p, hp, z⟩
           obtain ⟨h1, _, _, c, hc⟩ := hT p hp
           obtain ⟨ps, e2⟩ := tabAt p hp
           rw [h1] at e; cases e
           exact .inr (.inl ⟨(hc.tab h1).isCodeTable, rfl, #[], ps, rfl, by rw [Array.empty_append]; exact e2⟩)
       . by_cases nt : ∀ p ∈ ts, b ≠ p.1
         . exact ⟨o, keep b o e nt⟩
         . obtain ⟨p, hp, rfl⟩ : ∃ p ∈ ts, b = p.1 := Classical.byContradiction fun q => nt fun p hp z => q ⟨p, hp, z⟩
           obtain ⟨ps, e2⟩ := tabAt p hp
           exact ⟨_, e2⟩
 have tok : ∀ {H : Hp} {b : Addr} {q : Str}, ts.lookup b = some q -> d9 P w H s₁.heap b (.tabs q) := fun {H b q} e => by
   obtain ⟨h1, _⟩ := hT (b, q) (jS e)
   exact ⟨#[], h1, trivial, fun pos cv z => by simp [codeAmong] at z⟩
 cases hk : K.lookup a with
 | some o =>
   have e := KX a o hk
   rw [ha] at e
   cases e
   refine core (fun b => (ts.lookup b).map HO.tabs) (fun b => ?_) (.inr ⟨_, vs.toArray, _, hk, rfl, rfl, rfl, by rw [List.size_toArray, abD]; exact hl, by simpa using rv⟩) (fun p hp => ?_) (fun b u z => ?_) fun z => ?_
   . cases q : List.lookup b ts with
     | none => left; rfl
     | some t => right; right; exact ⟨(b, t), jS q, rfl, rfl⟩
   . show (ts.lookup p.1).map HO.tabs = _
     rw [(hT p hp).2.1]; rfl
   . have z' : (ts.lookup b).map HO.tabs = some u := z
     cases q : List.lookup b ts with
     | none => rw [q] at z'; cases z'
     | some t => rw [q] at z'; cases z'; exact tok q
   . exfalso
     apply z
     show (ts.lookup a).map HO.tabs = none
     cases q : ts.lookup a with
     | none => rfl
     | some t => exact absurd rfl (aT (a, t) (jS q))
 | none =>
   refine core (fun b => if b = a then some (.dH { cls := .type "list", data := .seq vs.toArray } (.lst (ns.map V.int))) else (ts.lookup b).map HO.tabs) (fun b => ?_) (.inl (.inr ⟨{ cls := .type "list", data := .seq vs.toArray }, afa rfl⟩)) (fun p hp => ?_) (fun b u z => ?_) fun _ => hk
   . by_cases hb : b = a
     . exact .inr (.inl ⟨_, _, hb, afa hb⟩)
     . cases q : List.lookup b ts with
       | none => left; rw [ae9 hb]; rfl
       | some t => right; right; exact ⟨(b, t), jS q, rfl, by rw [ae9 hb]; rfl⟩
   . show (if p.1 = a then _ else (ts.lookup p.1).map HO.tabs) = _
     rw [ae9 (aT p hp), (hT p hp).2.1]; rfl
   . by_cases hb : b = a
     . have z' := (afa hb).symm.trans z
       cases z'
       subst hb
       exact ⟨ha, by rw [afj]; exact hl, vs, _, rv, ha⟩
     . have z' : (ts.lookup b).map HO.tabs = some u := (ae9 hb).symm.trans z
       cases q : List.lookup b ts with
       | none => rw [q] at z'; cases z'
       | some t => rw [q] at z'; cases z'; exact tok q
theorem Ko {l : PySem.W.OpenLaw} {n k : Nat} {q : Program} {loose : List Str} {XP : (Str -> Option Value) -> Heap -> Prop} {YP : World -> Heap -> Prop} {d : DefRec} {K : Params -> PySem.W.Frag} {sp : World -> List (Addr × Str) -> Sp} {x : Str} {T0 : List Addr}
   (hn : l.most = some n) (ZL : n <= sizeLine) (XJ : d.params.defaults = []) (hr : eN k callerA)
   (hY : ∀ (w : World) (h : Heap), YP w h -> (K w.params).In h) (hT : ∀ (w : World) (h : Heap), YP w h -> ∀ P ∈ T0, h.get? P = some (PySem.W.tabObj #[]))
   (F : ∀ (w : World) (mg : Str -> Option Value) (fa : Addr) (h : Heap), (K w.params).In h -> h.Ns mainGlobals mg -> mg d.name = some (.ref fa) →
     ∃ (fd : FuncData) (ts : List (Addr × Str)), (∀ p ∈ ts, p.1 ∈ T0 /\ ts.lookup p.1 = some p.2 /\ (K w.params).lookup p.1 = none /\ ∃ c, PySem.W.CodeHd h c p.1) /\ (∀ (s : Shared) (u : Value), BindsTo s fd ⟨[u], []⟩ [(x, u)]) ∧
       ∀ base : Heap, (K w.params).In base -> base.Ns mainGlobals mg -> uR mg base -> bV l.prog w (K w.params) mg base gq k fa fd [x] (sp w ts))
   (MA : ∀ (w : World) (ts : List (Addr × Str)) (H : Hp) (a : Addr) (ns : List Int), ns.length <= n -> kh (K w.params) H a (ns.map V.int) -> (∀ p ∈ ts, H p.1 = some (.tabs p.2)) -> sp w ts [.ref a] H (fun v H' => v = .bl true /\ ∀ p ∈ ts, H' p.1 = some (.tabs p.2)) fun _ _ _ => False) :
   PySem.W.WalkO q loose XP YP l.row.toRowW d [] (fun f vs => PySem.call f vs) := by
 refine Att.BD hn XJ fun w s₀ s₁ mg mb fa o pm cd doc a vs ns G Y ho hd iD XM Up hints hlen hg => ?_
 have KX := hY w _ Y
 obtain ⟨fd, ts, hts, hb, hF⟩ := F w mg fa _ KX G.T.g XM
 obtain ⟨bm, ob, b1, b2, b3, b4, b5, b6⟩ := G.T.bmain
 have hbG : bm ≠ mainGlobals := fun q => by
   obtain ⟨o, es, ep, e, hd, _⟩ := G.T.g
   rw [q, e] at b3; cases b3; rw [hd] at b6; cases b6
 exact HL KX G.T.g G.T.b G.T.builtins G.T.nolimit hg ⟨bm, ob, b1, b2, hbG, b3, b4, b5, b6⟩ Up hints (afU hlen ZL) hr (fun p hp => ⟨hT w _ Y _ (hts p hp).1, (hts p hp).2⟩) hF hb fun H hS ht => MA w ts H a ns hlen hS ht
noncomputable def abE (y : Int) : Value -> Bool
 | .int i _ => i == y
 | _ => false
section
variable {X : Cx}
theorem Kp : MtR X "list.index" (fun x xs H Q => ∃ (p : Addr) (l : List Int) (y : Int) (j : Nat), x = .ref p /\ xs = [.int y] /\ kh X.K H p (l.map .int) /\ l[j]? = some y /\ (∀ i, i < j -> l[i]? ≠ some y) /\ Q (.int (j : Int)) H) := by
 intro pins s σ H x xs v us Q I rx rs h
 obtain ⟨p, l, y, j, rfl, rfl, hq, hj, hno, q⟩ := h
 cases rx
 obtain ⟨u, rfl, ru⟩ := rs.one
 obtain ⟨t, rfl⟩ := ru
 obtain ⟨its, r, ⟨⟨oc, od, oda, IQ⟩, n, e, hc, hd, hs⟩, hz⟩ := I.list hq
 dsimp only at hc hd hs
 subst hc hd hs
 have hi := intsAre_of r
 have at' : ∀ {i : Nat} (hi : i < its.toArray.size), ∃ k t, its.toArray[i] = .int k t /\ l[i]? = some k := fun {i} n9 => by
   have abG : i < its.length := by simpa using n9
   have hl : i < l.length := by have := r.length; rw [afj] at this; omega
   obtain ⟨u, e1, e2⟩ := r.get (i := i) (x := .int l[i]) (by rw [afH, afc hl]; rfl)
   obtain ⟨t, rfl⟩ := e2
   refine ⟨l[i], t, ?_, afc hl⟩
   rw [afc abG] at e1
   simpa using Option.some.inj e1
 have Dj : j < its.toArray.size := by
   have h1 := (afA.mp hj).1
   have := r.length
   rw [afj] at this
   simp; omega
 have hsz : its.toArray.size <= sizeLine := by
   have := r.length
   rw [afz, ← this]; exact hz
 refine call_meets F.slot_list_index ⟨_, e, rfl⟩ F.entry_list_index (F.args_list_index_2 _ _) (SeqAt.list_indexAt p its.toArray n none IQ (.int y t) (abE y) j Dj (by rw [afP] at hsz; omega) ?hit fun m hm hmj => ?no) ⟨e, fun w hw => ?eqs, ?_⟩
 case hit =>
   obtain ⟨k, t', e1, e2⟩ := at' Dj
   rw [e1]
   rw [hj] at e2
   cases e2
   exact agz y
 case no =>
   obtain ⟨k, t', e1, e2⟩ := at' hm
   rw [e1]
   exact agv.mpr fun z => hno m hmj (by rw [e2, z])
 case eqs =>
   obtain ⟨i, n9, rfl⟩ := Array.mem_iff_getElem.mp hw
   obtain ⟨k, t', e1, e2⟩ := at' n9
   rw [e1]
   exact SeqAt.EqAt.int_int k t' y t
 exact ⟨.int (j : Int), H, I.tok _, ⟨_, rfl⟩, q⟩
end
section
variable {X : Cx} {CL : Str -> Addr} {b : Bx} {δ δ1 δ2 : List (Option T)} {o e : Expr} {apos pos : Pos}
theorem Kq {l : List Int} {y : Int} {j : Nat} (h1 : cH X CL b o δ (.lst (l.map .int)) δ1) (h2 : cH X CL b e δ1 (.int y) δ2) (hj : l[j]? = some y) (hno : ∀ i, i < j -> l[i]? ≠ some y)
   (uA : attributeBase o "index" X.env (eval o X.env) = eval o X.env := by rfl) (Dz : ((backTo pos (starEach [e] X.env)).all (fun x => !x.1) && (backToKw pos (keywordEach [] X.env)).all (fun x => x.1.isSome)
     && decide (([e] : List Expr).length + ([] : List Keyword).length + (if ([] : List Keyword).isEmpty then 0 else 1) < 30)) = true := by rfl)
   (hline : (apos.endLine == pos.line) = true := by rfl) (hs : starEach [e] X.env = (false, eval e X.env) :: starEach [] X.env := by exact bW rfl) (DB : (backTo pos (starEach [] X.env)).any (·.1) = false := by rfl) :
   cg X CL b (.Call (.Attribute o "index" apos) [e] [] pos) δ (.sh (.int (j : Int))) δ2 := fun H Z σ ts vs Q S k =>
 cZ (R6 (T := "list") (id := "list.index") F.plainAttrs_list F.slot_list_index F.type_list_index Kp dR (cD dR e9 hs) uA Dz hline hs DB) (h1 H Z σ ts vs _ S fun v1 H1 Z1 z1 k1 S1 r1 => by
   cases r1 with
   | @lst a us _ hq rr =>
     have := Hs rr
     subst this
     refine ⟨?_, h2 H1 Z1 σ ts vs _ S1 fun v2 H2 Z2 z2 k2 S2 r2 => ?_⟩
     . exact .inl ⟨rfl, _, hq⟩
     . cases r2
       exact ⟨a, l, y, j, rfl, rfl, k2.seq hq, hj, hno, k _ H2 Z2 (z1.trans z2) (k1.trans k2) (S2.push (.int _))⟩)
end
section
variable {X : Cx} {CL : Str -> Addr} {b : Bx} {δ : List (Option T)} {e : Expr} {es : List Expr} {d : L3.D} {ds : List L3.D}
theorem pW (h1 : cg X CL b e δ (.sh d) δ) (h2 : DG X CL b es δ (ds.map T.sh) δ) (hs : starEach (e :: es) X.env = (false, eval e X.env) :: starEach es X.env := by exact bW rfl) : DG X CL b (e :: es) δ ((d :: ds).map T.sh) δ := aH h1 h2 hs
end
theorem F3 {k : Nat} {A : Around} (r : eN k A) : A.depth < recursionLimit := by
 have := r.dp
 omega
section
variable {X : Cx} {CL : Str -> Addr} {b : Bx} {δ δ1 : List (Option T)} {scope : Scope} {y : Str} {Nc : List Str} {ix : List Nat} {elt iter : Expr} {ifs : List Expr} {px pos : Pos} {p : L3.D -> Bool} {g : L3.D -> T} {ds : List L3.D}
end
section
variable {X : Cx}
end
section
variable {X : Cx} {CL : Str -> Addr} {b : Bx} {δ δ1 : List (Option T)} {e : Expr} {pos pp pq pr : Pos}
end
section
variable {X : Cx} {CL : Str -> Addr} {b : Bx} {δ δ1 : List (Option T)} {ds : List L3.D} {i q : Nat} {x y : Str} {pos pp pos' : Pos}
end
end L3
namespace Law
open PySem L2 L3
noncomputable def top (i : Nat) : Stmt := PySem.Challenge.pw_moodtree_k33_what_is_picked.main.body.getD i (.Pass ⟨0, 0, 0, 0⟩)
noncomputable def qU : Nat -> List Int -> Int -> List Int
 | 0, _, _ => []
 | n + 1, es, k => if k = -1 then [] else k :: qU n es (es.getD k.toNat 0)
noncomputable def fB (es : List Int) (m : Int) : List Int := qU (es.length + 1) es (es.getD m.toNat 0)
noncomputable def iO (es : List Int) : Prop := ∀ k : Nat, k < es.length -> -1 <= es.getD k 0 /\ es.getD k 0 < k
theorem iO.at {es : List Int} (h : iO es) {k : Int} (h0 : 0 <= k) (h1 : k < es.length) : -1 <= es.getD k.toNat 0 /\ es.getD k.toNat 0 < k := by
 have := h k.toNat (by omega)
 omega
noncomputable def lq (ks : List Str) (es ss : List Int) : L3.D := .ins "Tree" [("kinds", .lst (ks.map .str)), ("elders", .lst (es.map .int)), ("starts", .lst (ss.map .int))]
theorem uS {ks : List Str} {es ss : List Int} : List.lookup ("kinds" : Str) [(("kinds" : Str), L3.D.lst (ks.map .str)), ("elders", .lst (es.map .int)), ("starts", .lst (ss.map .int))] = some (.lst (ks.map .str)) := pS
theorem lO {ks : List Str} {es ss : List Int} : List.lookup ("elders" : Str) [(("kinds" : Str), L3.D.lst (ks.map .str)), ("elders", .lst (es.map .int)), ("starts", .lst (ss.map .int))] = some (.lst (es.map .int)) := by
 rw [gA (by decide +kernel), pS]
theorem Ci {ks : List Str} {es ss : List Int} : List.lookup ("starts" : Str) [(("kinds" : Str), L3.D.lst (ks.map .str)), ("elders", .lst (es.map .int)), ("starts", .lst (ss.map .int))] = some (.lst (ss.map .int)) := by
 rw [gA (by decide +kernel), gA (by decide +kernel), pS]
theorem eL (ds : List L3.D) : T.dH (.lst (ds.map T.sh)) = .lst ds := by rw [T.dH, gW]
theorem bO (l : List Int) : (T.lst ((l.map L3.D.int).map T.sh)).clean = true := by rw [iB]; exact sG _
theorem uT (l : List Str) : (T.lst ((l.map L3.D.str).map T.sh)).clean = true := by
 rw [iB]
 induction l with
 | nil => rfl
 | cons x l ih => exact ih
noncomputable def lP (ks : List Str) (es ss : List Int) : List (Str × T) := [("kinds", .lst ((ks.map .str).map T.sh)), ("elders", .lst ((es.map .int).map T.sh)), ("starts", .lst ((ss.map .int).map T.sh))]
theorem HM (ks : List Str) (es ss : List Int) : T.dH (.ins "Tree" (lP ks es ss)) = lq ks es ss := by
 unfold lP
 rw [T.dH, T.iG, T.iG, T.iG, T.iG, eL, eL, eL]
 rfl
theorem sL (ks : List Str) (es ss : List Int) : T.bf (lP ks es ss) = true := by
 unfold lP
 rw [T.bf, T.bf, T.bf, T.bf, uT, bO, bO]
 rfl
theorem yK {es : List Int} (h : iO es) : ∀ (n : Nat) {k x : Int}, -1 <= k -> k < es.length -> x ∈ qU n es k -> 0 <= x /\ x <= k
 | 0, k, x, _, _, hx => by rw [qU] at hx; cases hx
 | n + 1, k, x, h0, h1, hx => by
   rw [qU] at hx
   split at hx
   . cases hx
   . rename_i hk
     have ha := h.at (k := k) (by omega) h1
     rcases afe.mp hx with rfl | hx
     . omega
     . have := yK h n (by omega) (by omega) hx
       omega
theorem uU {es : List Int} (h : iO es) : ∀ (a b : Nat) {k : Int}, -1 <= k -> k < es.length -> k < a -> k < b -> qU a es k = qU b es k
 | 0, 0, _, _, _, _, _ => rfl
 | 0, b + 1, k, h0, _, ha, _ => by
   rw [qU, qU, afa (by omega)]
 | a + 1, 0, k, h0, _, _, hb => by
   rw [qU, qU, afa (by omega)]
 | a + 1, b + 1, k, h0, h1, ha, hb => by
   rw [qU, qU]
   split
   . rfl
   . have hk := h.at (k := k) (by omega) h1
     rw [uU h a b hk.1 (by omega) (by omega) (by omega)]
theorem Kr {es : List Int} (h : iO es) {m : Int} (h0 : 0 <= m) (h1 : m < es.length) : fB es m = if es.getD m.toNat 0 = -1 then [] else es.getD m.toNat 0 :: fB es (es.getD m.toNat 0) := by
 have hm := h.at h0 h1
 unfold fB
 rw [qU]
 split
 . rfl
 . rename_i hk
   have hk2 := h.at (k := es.getD m.toNat 0) (by omega) (by omega)
   rw [uU h es.length (es.length + 1) hk2.1 (by omega) (by omega) (by omega)]
theorem yL {es : List Int} (h : iO es) {m x : Int} (h0 : 0 <= m) (h1 : m < es.length) (hx : x ∈ fB es m) : 0 <= x /\ x < m /\ x < es.length := by
 have hm := h.at h0 h1
 have := yK h _ hm.1 (by omega) hx
 omega
theorem HN {es : List Int} (h : iO es) : ∀ (n : Nat) {m x : Int}, 0 <= m -> m < es.length -> m < n -> x ∈ fB es m -> ∃ pre, fB es m = pre ++ x :: fB es x /\ ∀ y ∈ pre, y ∈ fB es m /\ x ∈ fB es y
 | 0, m, x, h0, _, hn, _ => by omega
 | n + 1, m, x, h0, h1, hn, hx => by
   have hm := h.at h0 h1
   have e := Kr h h0 h1
   generalize hq : es.getD m.toNat 0 = k at hm e
   by_cases hk : k = -1
   . rw [e, afa hk] at hx; cases hx
   . rw [ae9 hk] at e
     rw [e] at hx
     rcases afe.mp hx with rfl | hx
     . exact ⟨[], by rw [e]; rfl, fun y hy => by cases hy⟩
     . obtain ⟨pre, p1, p2⟩ := HN h n (m := k) (by omega) (by omega) (by omega) hx
       refine ⟨k :: pre, by rw [e, p1]; rfl, fun y hy => ?_⟩
       rcases afe.mp hy with rfl | hy
       . exact ⟨by rw [e]; exact afb, hx⟩
       . exact ⟨by rw [e]; exact afd _ (p2 y hy).1, (p2 y hy).2⟩
theorem uV {es : List Int} (h : iO es) : ∀ (n : Nat) {m : Int}, 0 <= m -> m < es.length -> m < n -> (fB es m).Pairwise (fun a b => b < a)
 | 0, m, h0, _, hn => by omega
 | n + 1, m, h0, h1, hn => by
   have hm := h.at h0 h1
   rw [Kr h h0 h1]
   split
   . exact .nil
   . rename_i hk
     have hs := uV h n (m := es.getD m.toNat 0) (by omega) (by omega) (by omega)
     refine ags.mpr ⟨fun x hx => ?_, hs⟩
     have := yL h (m := es.getD m.toNat 0) (by omega) (by omega) hx
     omega
noncomputable def xU (es : List Int) : Prop := iO es /\ ∀ k : Nat, k + 1 < es.length -> es.getD (k + 1) 0 = k \/ es.getD (k + 1) 0 ∈ fB es k
theorem F4 {es : List Int} {x : Int} (h : iO es) : ∀ (n : Nat) {k : Int}, -1 <= k -> k < es.length -> qU n (es ++ [x]) k = qU n es k
 | 0, _, _, _ => rfl
 | n + 1, k, h0, h1 => by
   rw [qU, qU]
   split
   . rfl
   . have hk := h.at (k := k) (by omega) h1
     have e : (es ++ [x]).getD k.toNat 0 = es.getD k.toNat 0 := by
       rw [afk, agY (by omega), ← afk]
     rw [e, F4 h n hk.1 (by omega)]
theorem uW {es : List Int} {x : Int} {k : Nat} (h : k < es.length) : (es ++ [x]).getD k 0 = es.getD k 0 := by
 rw [afk, agY h, ← afk]
theorem Oc {es : List Int} {x : Int} (h : iO es) {m : Int} (h0 : 0 <= m) (h1 : m < es.length) : fB (es ++ [x]) m = fB es m := by
 have hm := h.at h0 h1
 unfold fB
 rw [uW (by omega), F4 h _ hm.1 (by omega), uU h _ (es.length + 1) hm.1 (by omega) (by rw [afy]; omega) (by omega)]
theorem iO.snoc {es : List Int} (h : iO es) {x : Int} (h0 : -1 <= x) (h1 : x < es.length) : iO (es ++ [x]) := fun k hk => by
 rw [afy] at hk
 simp only [afI, agj] at hk
 by_cases e : k < es.length
 . rw [uW e]
   exact h k e
 . have : k = es.length := by omega
   subst this
   rw [afk, agp (afg _)]
   simp
   omega
theorem xU.snoc {es : List Int} (h : xU es) {x : Int} {k : Nat} (hk : k + 1 = es.length) (hx : x = k \/ x ∈ fB es k) : xU (es ++ [x]) := by
 have hx' : -1 <= x /\ x < es.length := by
   rcases hx with e | e
   . omega
   . have := yL h.1 (m := (k : Int)) (by omega) (by omega) e
     omega
 refine ⟨h.1.snoc hx'.1 hx'.2, fun j hj => ?_⟩
 rw [afy] at hj
 simp only [afI, agj] at hj
 rw [Oc h.1 (by omega) (by omega)]
 by_cases e : j + 1 < es.length
 . rw [uW e]
   exact h.2 j e
 . have : j = k := by omega
   subst this
   have e2 : (es ++ [x]).getD (j + 1) 0 = x := by
     rw [afk, agp (by omega), hk, Nat.sub_self]
     rfl
   rw [e2]
   exact hx
theorem pX : ∀ (n : Nat) (es : List Int) (k : Int), (qU n es k).length <= n
 | 0, _, _ => afg _
 | n + 1, es, k => by
   rw [qU]
   split
   . exact afG _
   . exact Nat.succ_le_succ (pX n es _)
noncomputable def xV (es : List Int) (m : Int) : List Int := ((List.range es.length).filter (fun (i : Nat) => decide (es.getD i 0 = m))).map (fun (i : Nat) => (i : Int))
theorem Od (es : List Int) (m : Int) : (xV es m).length <= es.length := by
 unfold xV
 rw [afj]
 exact afU (agg _ _) (by simp)
noncomputable def jm (bs nm : List L3.D) (tr : L3.D) (is os ws : List L3.D) : L3.D := .ins "Chart" [("boxes", .lst bs), ("names", .lst nm), ("tree", tr), ("ins", .lst is), ("outs", .lst os), ("ways", .lst ws)]
section
variable {bs nm is os ws : List L3.D} {tr : L3.D}
theorem oK : List.lookup ("tree" : Str) [(("boxes" : Str), L3.D.lst bs), ("names", .lst nm), ("tree", tr), ("ins", .lst is), ("outs", .lst os), ("ways", .lst ws)] = some tr := by
 rw [gA (by decide +kernel), gA (by decide +kernel), pS]
theorem kD : List.lookup ("ways" : Str) [(("boxes" : Str), L3.D.lst bs), ("names", .lst nm), ("tree", tr), ("ins", .lst is), ("outs", .lst os), ("ways", .lst ws)] = some (.lst ws) := by
 rw [gA (by decide +kernel), gA (by decide +kernel), gA (by decide +kernel), gA (by decide +kernel), gA (by decide +kernel), pS]
end
noncomputable def rD (bs nm : List L3.D) : List (Str × T) := [("boxes", .lst (bs.map T.sh)), ("names", .lst (nm.map T.sh))]
noncomputable def rE (is os ws : List L3.D) : List (Str × T) := [("ins", .lst (is.map T.sh)), ("outs", .lst (os.map T.sh)), ("ways", .lst (ws.map T.sh))]
noncomputable def iP (bs nm : List L3.D) (t : T) (is os ws : List L3.D) : List (Str × T) := rD bs nm ++ (("tree" : Str), t) :: rE is os ws
theorem DU (bs nm : List L3.D) (t : T) (is os ws : List L3.D) : T.dH (.ins "Chart" (iP bs nm t is os ws)) = jm bs nm t.dH is os ws := by
 unfold iP rD rE
 rw [afF, afF, agM, T.dH, T.iG, T.iG, T.iG, T.iG, T.iG, T.iG, T.iG, eL, eL, eL, eL, eL]
 rfl
theorem bP {ds : List L3.D} (h : D.bN ds = true) : (T.lst (ds.map T.sh)).clean = true := by
 rw [iB]
 induction ds with
 | nil => rfl
 | cons d ds ih =>
   rw [D.bN, afJ] at h
   rw [afx, T.c6, ih h.2, T.clean, h.1]; rfl
theorem yM {bs nm : List L3.D} (h1 : D.bN bs = true) (h2 : D.bN nm = true) : T.bf (rD bs nm) = true := by
 unfold rD
 rw [T.bf, T.bf, T.bf, bP h1, bP h2]; rfl
theorem yN {is os ws : List L3.D} (h1 : D.bN is = true) (h2 : D.bN os = true) (h3 : D.bN ws = true) : T.bf (rE is os ws) = true := by
 unfold rE
 rw [T.bf, T.bf, T.bf, T.bf, bP h1, bP h2, bP h3]; rfl
structure dZ where
 src : Int
 sign : Str
 asks : List L3.D
 pY : List L3.D
 tgt : Int
 mode : Str
noncomputable def dJ (w : dZ) : L3.D := .tup [.int w.src, .str w.sign, .tup w.asks, .tup w.pY, .int w.tgt, .str w.mode]
noncomputable def bR (ns : List Int) (k : Int) : Int := if k < ns.length then ns.getD k.toNat 0 else 0
noncomputable def fV (c : Int) : Int := if c % 2 = 0 then c / 2 % 9 - 4 else if c % 4 = 1 then c / 4 * 48271 % 10 ^ 60 else -(c / 4 * 48271 % 10 ^ 60)
noncomputable def HP : List Nat := (List.range 26).map (· + 97) ++ (List.range 10).map (· + 48)
theorem Ks : ("abcdefghijklmnopqrstuvwxyz0123456789" : Str).cps.toList = HP := by decide +kernel
noncomputable def tF (k : Int) : Str := ⟨#[HP.getD k.toNat 0]⟩
theorem Vu : ∀ n ∈ HP, n < 1114112 := by decide +kernel
theorem Ku (k : Int) : PyData.strOk (tF k) = true := by
 unfold PyData.strOk tF
 have : HP.getD k.toNat 0 < 1114112 := by
   rw [afk]
   cases e : HP[k.toNat]? with
   | none => decide
   | some n => exact Vu n (afM e)
 simpa [List.getD_eq_getElem?_getD] using this
noncomputable def Oe (m : Int) : Int := (m * 48271 + 11) % 2147483647
noncomputable def iQ (p : Int × Str) : Nat -> Int × Str
 | 0 => p
 | n + 1 => (Oe (iQ p n).1, (iQ p n).2 ++ tF (Oe (iQ p n).1 % 36))
noncomputable def nm0 (c : Int) : Int × Str := (c / 12 % 10 ^ (9 : Int).toNat, tF (c / 12 % 10 ^ (9 : Int).toNat % 26))
theorem Kv (p : Int × Str) (n : Nat) : (iQ p n).2.length = p.2.length + n := by
 induction n with
 | zero => rfl
 | succ n ih =>
   show ((iQ p n).2 ++ tF _).length = _
   rw [str_len, ih]
   show _ + 1 = _
   omega
theorem Yw (p : Int × Str) (h : PyData.strOk p.2 = true) (n : Nat) : PyData.strOk (iQ p n).2 = true := by
 induction n with
 | zero => exact h
 | succ n ih => exact rj _ _ ih (Ku _)
noncomputable def MD (c : Int) : Str := (iQ (nm0 c) (c % 12).toNat).2
theorem F5 (c : Int) : (MD c).length <= 12 := by
 unfold MD
 rw [Kv]
 have h1 := afB c (show (12 : Int) ≠ 0 by decide)
 have h2 := afw c (show (0 : Int) < 12 by decide)
 show 1 + (c % 12).toNat <= 12
 omega
noncomputable def w13 : List Str := ["all", "and", "box", "call", "do", "far", "if", "in", "leaf", "near", "on", "one", "open"]
noncomputable def w6 : List Str := ["out", "put", "say", "shut", "then", "to"]
noncomputable def iR (c : Int) : Str := if MD c ∈ w13 then MD c ++ "0" else if MD c ∈ w6 then MD c ++ "0" else MD c
theorem yO (c : Int) : PyData.strOk (iR c) = true := by
 have hb : PyData.strOk (MD c) = true := Yw _ (Ku _) _
 have h0 : PyData.strOk ("0" : Str) = true := by decide +kernel
 unfold iR
 split
 . exact rj _ _ hb h0
 . split
   . exact rj _ _ hb h0
   . exact hb
theorem dO (l : List Int) : jk 60 (.lst (l.map .int)) := .lst fun d hd => by
 obtain ⟨i, _, rfl⟩ := afC.mp hd
 exact .int _ _
noncomputable def fJ (mk : Str) (i j : Int) : Bool := if mk = "<" then decide (i < j) else if mk = "<=" then decide (i <= j) else if mk = "=" then decide (i = j) else !decide (i = j)
noncomputable def bE (bx mo : Int) (bs : List Int) : Int := if bx = -1 then mo else bs.getD bx.toNat 0 + mo
noncomputable def Yx (c s : Int) : Int := (c % 2147483647 + s) * 48271 % 2147483647
noncomputable def cJ (c s : Int) : Int := Yx c s * Yx c s % 2147483629
theorem Yy (c s : Int) : 0 <= Yx c s /\ Yx c s < 2147483647 := ⟨afB _ (by decide), afw _ (by decide)⟩
theorem yP (c s : Int) : 0 <= cJ c s := afB _ (by decide)
noncomputable def eK (c : Int) : Int := if c % 2 = 0 then c / 2 % 9 - 4 else if c % 4 = 1 then c / 4 * 48271 % (10 ^ 30 - 1) else -(c / 4 * 48271 % (10 ^ 30 - 1))
noncomputable def bY (es : List Int) (k : Nat) : List Int := if (12 : Int) < (([(k : Int)] ++ fB es k).length : Nat) then cutD ([(k : Int)] ++ fB es k) (some 1) none else [(k : Int)] ++ fB es k
theorem sM {es : List Int} {k : Nat} (h : iO es) (hk : k + 1 = es.length) : 0 < (bY es k).length /\ (bY es k).length <= es.length + 2 /\ ∀ x ∈ bY es k, 0 <= x /\ x < es.length := by
 have hm : ∀ x ∈ [(k : Int)] ++ fB es k, 0 <= x /\ x < es.length := fun x hx => by
   rcases afm.mp hx with h1 | h1
   . have : x = k := by simpa using h1
     omega
   . have ha := h.at (k := (k : Int)) (by omega) (by omega)
     have := yK h _ ha.1 (by omega) h1
     omega
 have hl : ([(k : Int)] ++ fB es k).length <= es.length + 2 := by
   have := pX (es.length + 1) es (es.getD (k : Int).toNat 0)
   rw [afy]
   unfold fB
   simp only [afI, agj]
   omega
 unfold bY
 split
 . rename_i h12
   have e : cutD ([(k : Int)] ++ fB es k) (some 1) none = fB es k := by
     generalize fB es k = l at h12
     unfold cutD
     have h1 : HT.sY ([(k : Int)] ++ l).length 0 (some 1) = 1 := by
       rw [afy] at h12 ⊢
       simp only [afI, agj] at h12 ⊢
       unfold HT.sY
       simp
     have h2 : HT.sY ([(k : Int)] ++ l).length ([(k : Int)] ++ l).length none = ([(k : Int)] ++ l).length := by
       unfold HT.sY
       simp
     rw [h1, h2]
     simp
   rw [e]
   have hl2 := afy (as := [(k : Int)]) (bs := fB es k)
   simp only [afI, agj] at hl2
   exact ⟨by omega, by omega, fun x hx => hm x (ae8 _ hx)⟩
 . exact ⟨by simp, hl, hm⟩
theorem getD_mem {l : List Int} {n : Nat} (h : n < l.length) : l.getD n 0 ∈ l := by
 rw [afk, afc h]
 exact agq h
theorem yQ {es : List Int} {k : Nat} {x : Int} (hx : x ∈ bY es k) : x = k \/ x ∈ fB es k := by
 have hm : x ∈ [(k : Int)] ++ fB es k := by
   unfold bY at hx
   split at hx
   . unfold cutD at hx
     exact List.mem_of_mem_drop (List.mem_of_mem_take hx)
   . exact hx
 rcases afm.mp hm with h | h
 . exact .inl (by simpa using h)
 . exact .inr h
noncomputable def Yz (s es : List Int) (k : Nat) : Int := (bY es k).getD (cJ (bR s ((k : Int) + 1)) (3 + (k : Int)) % ((bY es k).length : Nat)).toNat 0
noncomputable def n5 (s : List Int) : Nat -> List Int
 | 0 => [-1]
 | j + 1 => n5 s j ++ [Yz s (n5 s j) j]
theorem Og : xU [-1] := ⟨fun k hk => by
   have : k = 0 := by simpa using hk
   subst this
   exact ⟨Int.le_refl _, show (-1 : Int) < ((0 : Nat) : Int) by decide⟩, fun k hk => by simp at hk⟩
theorem yR (s : List Int) : ∀ j, (n5 s j).length = j + 1 /\ xU (n5 s j)
 | 0 => ⟨rfl, Og⟩
 | j + 1 => by
   obtain ⟨h1, h2⟩ := yR s j
   obtain ⟨r1, r2, r3⟩ := sM (k := j) h2.1 h1.symm
   refine ⟨by show (n5 s j ++ _).length = _; rw [afy, h1]; rfl, ?_⟩
   have hx := getD_mem (l := bY (n5 s j) j) (n := (cJ (bR s ((j : Int) + 1)) (3 + (j : Int)) % ((bY (n5 s j) j).length : Nat)).toNat) (by
     have := afw (cJ (bR s ((j : Int) + 1)) (3 + (j : Int))) (b := ((bY (n5 s j) j).length : Nat)) (by omega)
     have := afB (cJ (bR s ((j : Int) + 1)) (3 + (j : Int))) (b := ((bY (n5 s j) j).length : Nat)) (by omega)
     omega)
   exact h2.snoc h1.symm (yQ hx)
noncomputable def cntK (s : List Int) : Int := if cJ (bR s 0) 2 / 14 % 8 = 3 then 11 + cJ (bR s 0) 2 / 112 % 20 else 1 + cJ (bR s 0) 2 % 14
theorem Kw (s : List Int) : 1 <= cntK s /\ cntK s <= 30 := by
 unfold cntK
 split <;> omega
noncomputable def iZ (s : List Int) : List Int := n5 s (cntK s - 1).toNat
theorem F6 (s : List Int) : 1 <= (iZ s).length /\ (iZ s).length <= 30 /\ xU (iZ s) := by
 obtain ⟨h1, h2⟩ := yR s (cntK s - 1).toNat
 have := Kw s
 unfold iZ
 exact ⟨by omega, by omega, h2⟩
noncomputable def IW (s : List Int) (k : Nat) : Int := cJ (bR s (k : Int)) (101 + (k : Int))
noncomputable def Dk (s es : List Int) (k : Nat) : Str := if xV es (k : Int) = [] then "leaf" else (["all", "one"] : List Str).getD (IW s k % 2).toNat Str.empty
noncomputable def stK (s es : List Int) (k : Nat) : Int := if Dk s es k = "one" then (xV es (k : Int)).getD (IW s k / 2 % ((xV es (k : Int)).length : Nat)).toNat 0 else -1
noncomputable def W0 (s es : List Int) (k : Nat) : Int := if Dk s es k = "one" then (xV es (k : Int)).getD (IW s k / 22 % ((xV es (k : Int)).length : Nat)).toNat 0 else -1
theorem Vv (s es : List Int) (k : Nat) : PyData.strOk (Dk s es k) = true := by
 unfold Dk
 split
 . decide +kernel
 . have : IW s k % 2 = 0 \/ IW s k % 2 = 1 := by omega
   rcases this with e | e <;> rw [e] <;> decide +kernel
theorem Oh {s es : List Int} {k : Nat} (h : Dk s es k = "one") : xV es (k : Int) ≠ [] := by
 intro e
 unfold Dk at h
 rw [afa e] at h
 exact absurd h (by decide +kernel)
noncomputable def pZ (s es : List Int) (n : Nat) : List Str := (List.range n).map (Dk s es)
noncomputable def uX (s es : List Int) (n : Nat) : List Int := (List.range n).map (stK s es)
noncomputable def rG (s es : List Int) (n : Nat) : List Int := (List.range n).map (W0 s es)
noncomputable def sN (ks : List Str) (es ss os : List Int) : L3.D := .lst [.lst (ks.map .str), .lst (es.map .int), .lst (ss.map .int), .lst (os.map .int)]
noncomputable def uY (ks : List Str) (es ss os : List Int) : T := .lst [.lst ((ks.map .str).map T.sh), .lst ((es.map .int).map T.sh), .lst ((ss.map .int).map T.sh), .lst ((os.map .int).map T.sh)]
theorem Kx (ks : List Str) (es ss os : List Int) : (uY ks es ss os).dH = sN ks es ss os := by
 unfold uY sN
 rw [T.dH, T.fG, T.fG, T.fG, T.fG, T.fG, eL, eL, eL, eL]
noncomputable def xW (es os : List Int) : Nat -> List Int
 | 0 => [0]
 | j + 1 => if es.getD (j + 1) 0 ∈ xW es os j /\ (os.getD (es.getD (j + 1) 0).toNat 0 = -1 \/ os.getD (es.getD (j + 1) 0).toNat 0 = ((j + 1 : Nat) : Int)) then xW es os j ++ [((j + 1 : Nat) : Int)] else xW es os j
theorem tQ {es os : List Int} : ∀ (j : Nat) {x : Int}, x ∈ xW es os j -> 0 <= x /\ x <= j
 | 0, x, h => by
   have : x = 0 := by simpa [xW] using h
   omega
 | j + 1, x, h => by
   rw [xW] at h
   split at h
   . rcases afm.mp h with h | h
     . have := tQ j h
       omega
     . have : x = ((j + 1 : Nat) : Int) := by simpa using h
       omega
   . have := tQ j h
     omega
theorem tR {es os : List Int} : ∀ (j : Nat), 1 <= (xW es os j).length /\ (xW es os j).length <= j + 1
 | 0 => ⟨afg _, afg _⟩
 | j + 1 => by
   have := tR (es := es) (os := os) j
   rw [xW]
   split
   . rw [afy]
     simp only [afI, agj]
     omega
   . omega
noncomputable def W2 (s : List Int) : List Int := (List.range (cJ (bR s 0) 7 % 6).toNat).map fun (k : Nat) => fV (bR s ((k : Int) + 1) + 5 * (k : Int))
theorem Oi (s : List Int) : (W2 s).length <= 5 := by
 unfold W2
 rw [afj, agR]
 omega
theorem Ky {x : Str} (h : PyData.strOk x = true) (l k : Option Int) : PyData.strOk (Txt.slice x l k) = true := by
 unfold Txt.slice
 split
 . exact h
 . unfold PyData.strOk at *
   rw [List.all_toArray, af6]
   intro c hc
   obtain ⟨i, _, hi⟩ := List.mem_filterMap.mp hc
   rw [← Array.all_toList, af6] at h
   exact h c (by rw [← agD] at hi; exact afM hi)
theorem HQ (c : Int) : (iR c).length <= 13 := by
 have h := F5 c
 unfold iR
 split
 . rw [str_len]; show _ + 1 <= _; omega
 . split
   . rw [str_len]; show _ + 1 <= _; omega
   . omega
noncomputable def sO (s : List Int) : Str := Txt.slice (iR (bR s 0 / 2)) none (some 10)
noncomputable def Oj (s : List Int) : List Str := if bR s 0 % 2 = 0 then [sO s ++ "1", sO s ++ "12", sO s ++ "2"] else [sO s, iR (bR s 1 + 5), iR (bR s 2 + 10)]
theorem Ol (s : List Int) : (Oj s).length = 3 := by
 unfold Oj
 split <;> rfl
theorem Vw (s : List Int) : ∀ x ∈ Oj s, PyData.strOk x = true := by
 have hb : PyData.strOk (sO s) = true := Ky (yO _) _ _
 unfold Oj
 split
 . intro x hx
   simp only [afe, afK, or_false] at hx
   rcases hx with rfl | rfl | rfl
   . exact rj _ _ hb (by decide +kernel)
   . exact rj _ _ hb (by decide +kernel)
   . exact rj _ _ hb (by decide +kernel)
 . intro x hx
   simp only [afe, afK, or_false] at hx
   rcases hx with rfl | rfl | rfl
   . exact hb
   . exact yO _
   . exact yO _
inductive iS where
 | n6 (op : Bool) (m : Int)
 | num (mk : Str) (b1 m1 b2 m2 : Int)
noncomputable def ck : iS -> L3.D
 | .n6 op m => .tup [.str (if op then "open" else "shut"), .int m]
 | .num mk b1 m1 b2 m2 => .tup [.str mk, .tup [.int b1, .int m1], .tup [.int b2, .int m2]]
noncomputable def rH : List Str := ["<", "<=", "=", "!="]
noncomputable def iS.Ok (n : Nat) (bs : List Int) : iS -> Prop
 | .n6 _ m => 0 <= m /\ m < n
 | .num mk b1 _ b2 _ => mk ∈ rH /\ (b1 = -1 \/ (0 <= b1 /\ b1 < bs.length)) /\ (b2 = -1 \/ (0 <= b2 /\ b2 < bs.length))
theorem qa (a : iS) : (ck a).jg = true := by cases a <;> rfl
theorem Om : ∀ x ∈ rH, PyData.strOk x = true := by decide +kernel
theorem Kz {n : Nat} {m : Nat} {bs : List Int} {a : iS} (h : a.Ok m bs) : jk (n + 2) (ck a) := by
 cases a with
 | n6 op m =>
   refine .tup fun d hd => ?_
   rcases afe.mp hd with rfl | hd
   . refine .str _ _ ?_
     cases op <;> decide +kernel
   . rw [afD.mp hd]; exact .int _ _
 | num mk b1 m1 b2 m2 =>
   refine .tup fun d hd => ?_
   rcases afe.mp hd with rfl | hd
   . exact .str _ _ (Om _ h.1)
   . rcases afe.mp hd with rfl | hd
     . exact .tup fun d hd => by
         rcases afe.mp hd with rfl | hd
         . exact .int _ _
         . rw [afD.mp hd]; exact .int _ _
     . rw [afD.mp hd]
       exact .tup fun d hd => by
         rcases afe.mp hd with rfl | hd
         . exact .int _ _
         . rw [afD.mp hd]; exact .int _ _
noncomputable def uZ (g : Bool) (i j : Int) : List Str := rH.filter fun m => decide (fJ m i j = g)
theorem F7 (i j : Int) : fJ "=" i j = decide (i = j) := by unfold fJ; rw [ae9 (by decide +kernel), ae9 (by decide +kernel), afa rfl]
theorem F8 (i j : Int) : fJ "!=" i j = !decide (i = j) := by unfold fJ; rw [ae9 (by decide +kernel), ae9 (by decide +kernel), ae9 (by decide +kernel)]
theorem Cj (g : Bool) (i j : Int) : 0 < (uZ g i j).length := by
 have mem : ∀ m ∈ rH, fJ m i j = g -> 0 < (uZ g i j).length := fun m hm h => List.length_pos_of_mem (af4.mpr ⟨hm, agw h⟩)
 cases g with
 | true =>
   by_cases e : i = j
   . exact mem "=" (by decide +kernel) (by rw [F7]; exact agw e)
   . exact mem "!=" (by decide +kernel) (by rw [F8, afY e]; rfl)
 | false =>
   by_cases e : i = j
   . exact mem "!=" (by decide +kernel) (by rw [F8, agw e]; rfl)
   . exact mem "=" (by decide +kernel) (by rw [F7]; exact afY e)
noncomputable def Ck (c : Int) : Bool := decide (0 < cJ c 31 % 3)
noncomputable def tG (c : Int) (n : Nat) : Int := cJ c 31 / 9 % ((n : Int) + 1) - 1
noncomputable def rJ (c : Int) (n : Nat) : Int := if cJ c 31 / 729 % 3 = 0 then tG c n else cJ c 31 / 81 % ((n : Int) + 1) - 1
noncomputable def yS (c : Int) : Int := if cJ c 31 / 729 % 3 = 0 then eK (c / 3) + cJ c 31 / 2187 % 3 - 1 else eK (c / 5 + 1)
theorem yT (c : Int) (n : Nat) : tG c n = -1 \/ (0 <= tG c n /\ tG c n < n) := by
 have a := afB (cJ c 31 / 9) (b := (n : Int) + 1) (by omega)
 have b := afw (cJ c 31 / 9) (b := (n : Int) + 1) (by omega)
 unfold tG
 omega
theorem F9 (c : Int) (n : Nat) : rJ c n = -1 \/ (0 <= rJ c n /\ rJ c n < n) := by
 have a := afB (cJ c 31 / 81) (b := (n : Int) + 1) (by omega)
 have b := afw (cJ c 31 / 81) (b := (n : Int) + 1) (by omega)
 unfold rJ
 split
 . exact yT c n
 . omega
noncomputable def oi (c : Int) (bs : List Int) : Int := bE (tG c bs.length) (eK (c / 3)) bs
noncomputable def jn (c : Int) (bs : List Int) : Int := bE (rJ c bs.length) (yS c) bs
noncomputable def Cm (c : Int) (bs : List Int) : Str := (uZ (Ck c) (oi c bs) (jn c bs)).getD (cJ c 31 / 6561 % ((uZ (Ck c) (oi c bs) (jn c bs)).length : Nat)).toNat Str.empty
noncomputable def oM (ops : List Int) (m : Nat) (bs : List Int) (c : Int) : iS :=
 if cJ c 31 / 3 % 3 = 0 then .n6 (decide (decide (cJ c 31 / 9 % (m : Int) ∈ ops) = Ck c)) (cJ c 31 / 9 % (m : Int))
 else .num (Cm c bs) (tG c bs.length) (eK (c / 3)) (rJ c bs.length) (yS c)
theorem HR (c : Int) (bs : List Int) : Cm c bs ∈ rH := by
 have hp := Cj (Ck c) (oi c bs) (jn c bs)
 have hm : ∀ x ∈ uZ (Ck c) (oi c bs) (jn c bs), x ∈ rH := fun x hx => (af4.mp hx).1
 have l0 := afB (cJ c 31 / 6561) (b := ((uZ (Ck c) (oi c bs) (jn c bs)).length : Nat)) (by omega)
 have l1 := afw (cJ c 31 / 6561) (b := ((uZ (Ck c) (oi c bs) (jn c bs)).length : Nat)) (by omega)
 unfold Cm
 rw [afk, afc (by omega)]
 exact hm _ (agq _)
theorem Oo (ops : List Int) {m : Nat} (hm : 1 <= m) (bs : List Int) (c : Int) : (oM ops m bs c).Ok m bs := by
 unfold oM
 split
 . exact ⟨afB _ (by omega), afw _ (by omega)⟩
 . exact ⟨HR c bs, yT _ _, F9 _ _⟩
noncomputable def SG (th : List Str) (k : Int) : List L3.D := ([[], [.tup [.str "call", .str (th.getD 0 Str.empty)]], [.tup [.str "say", .str (th.getD 1 Str.empty), .tup [.int (-1), .int 7]], .tup [.str "call", .str (th.getD 2 Str.empty)]]] : List (List L3.D)).getD k.toNat []
noncomputable def HS (ops : List Int) (m : Nat) (bs : List Int) (c : Int) : List iS := (List.range (cJ c 11 / 100 % 3).toNat).map fun (k : Nat) => oM ops m bs (c / ((k : Int) + 1) + 17 * (k : Int))
noncomputable def KC (ops : List Int) (m : Nat) (bs : List Int) (th : List Str) (c : Int) : dZ where
 src := if cJ c 11 % 2 = 0 then ops.getD (cJ c 11 / 2 % (ops.length : Nat)).toNat 0 else cJ c 11 / 2 % (m : Int)
 sign := th.getD (cJ c 13 / 300 % 3).toNat Str.empty
 asks := (HS ops m bs c).map ck
 pY := SG th (cJ c 11 / 300 % 3)
 tgt := if cJ c 13 % 5 = 0 then -1 else cJ c 13 / 5 % (m : Int)
 mode := if cJ c 13 % 5 = 0 then "new" else (["new", "near", "far"] : List Str).getD (cJ c 13 / 100 % 3).toNat Str.empty
structure u0 (m : Nat) (bs : List Int) (w : dZ) : Prop where
 src : 0 <= w.src /\ w.src < m
 sign : PyData.strOk w.sign = true
 asks : ∃ l : List iS, w.asks = l.map ck /\ l.length <= 2 /\ ∀ a ∈ l, a.Ok m bs
 pY : D.bN w.pY = true /\ ∀ d ∈ w.pY, jk 10 d
 tgt : -1 <= w.tgt /\ w.tgt < m
 mode : PyData.strOk w.mode = true
theorem Vx {th : List Str} (h : ∀ x ∈ th, PyData.strOk x = true) (h3 : th.length = 3) (k : Int) : D.bN (SG th k) = true /\ ∀ d ∈ SG th k, jk 10 d := by
 have g : ∀ i, i < 3 -> PyData.strOk (th.getD i Str.empty) = true := fun i hi => by
   rw [afk, afc (by omega)]
   exact h _ (agq _)
 have e2 : ∀ {a b : L3.D}, jk 9 a -> jk 9 b -> jk 10 (.tup [a, b]) := fun ha hb => .tup fun d hd => by
   rcases afe.mp hd with rfl | hd
   . exact ha
   . rw [afD.mp hd]; exact hb
 unfold SG
 by_cases k0 : k.toNat = 0
 . rw [k0]; exact ⟨rfl, fun d hd => by cases hd⟩
 . by_cases k1 : k.toNat = 1
   . rw [k1]
     refine ⟨rfl, fun d hd => ?_⟩
     rw [afD.mp hd]
     exact e2 (.str _ _ (by decide +kernel)) (.str _ _ (g 0 (by omega)))
   . by_cases k2 : k.toNat = 2
     . rw [k2]
       refine ⟨rfl, fun d hd => ?_⟩
       rcases afe.mp hd with rfl | hd
       . refine .tup fun d hd => ?_
         rcases afe.mp hd with rfl | hd
         . exact .str _ _ (by decide +kernel)
         . rcases afe.mp hd with rfl | hd
           . exact .str _ _ (g 1 (by omega))
           . rw [afD.mp hd]
             refine .tup fun d hd => ?_
             rcases afe.mp hd with rfl | hd
             . exact .int _ _
             . rw [afD.mp hd]; exact .int _ _
       . rw [afD.mp hd]
         exact e2 (.str _ _ (by decide +kernel)) (.str _ _ (g 2 (by omega)))
     . rw [afk, agT (by simp; omega)]
       exact ⟨rfl, fun d hd => by cases hd⟩
theorem KD {ops : List Int} {m : Nat} {bs : List Int} {th : List Str} (hm : 1 <= m) (ho : 1 <= ops.length) (HV : ∀ x ∈ ops, 0 <= x /\ x < m) (h : ∀ x ∈ th, PyData.strOk x = true) (h3 : th.length = 3) (c : Int) : u0 m bs (KC ops m bs th c) where
 src := by
   dsimp only [KC]
   split
   . have l0 := afB (cJ c 11 / 2) (b := (ops.length : Nat)) (by omega)
     have l1 := afw (cJ c 11 / 2) (b := (ops.length : Nat)) (by omega)
     rw [afk, afc (by omega)]
     exact HV _ (agq _)
   . exact ⟨afB _ (by omega), afw _ (by omega)⟩
 sign := by
   have l0 := afB (cJ c 13 / 300) (show (3 : Int) ≠ 0 by decide)
   have l1 := afw (cJ c 13 / 300) (show (0 : Int) < 3 by decide)
   show PyData.strOk (th.getD _ _) = true
   rw [afk, afc (by omega)]
   exact h _ (agq _)
 asks := ⟨HS ops m bs c, rfl, by unfold HS; rw [afj, agR]; omega, fun a ha => by
   obtain ⟨k, _, rfl⟩ := afC.mp ha
   exact Oo ops hm bs _⟩
 pY := Vx h h3 _
 tgt := by
   dsimp only [KC]
   split
   . omega
   . have l0 := afB (cJ c 13 / 5) (b := (m : Int)) (by omega)
     have l1 := afw (cJ c 13 / 5) (b := (m : Int)) (by omega)
     omega
 mode := by
   dsimp only [KC]
   split
   . decide +kernel
   . have : cJ c 13 / 100 % 3 = 0 \/ cJ c 13 / 100 % 3 = 1 \/ cJ c 13 / 100 % 3 = 2 := by omega
     rcases this with e | e | e <;> rw [e] <;> decide +kernel
theorem u0.jg {m : Nat} {bs : List Int} {w : dZ} (h : u0 m bs w) : (dJ w).jg = true := by
 obtain ⟨l, e, _, _⟩ := h.asks
 show (true && (true && (D.bN w.asks && (D.bN w.pY && (true && (true && true)))))) = true
 rw [e, iN (fun a => qa a), h.pY.1]
 rfl
theorem Vy {n m : Nat} {d : L3.D} (h : jk n d) (hm : n <= m) : jk m d := by
 induction h generalizing m with
 | non n => exact .non _
 | bl n b => exact .bl _ _
 | int n i => exact .int _ _
 | str n x h => exact .str _ _ h
 | tup h ih =>
   obtain ⟨k, rfl⟩ : ∃ k, m = k + 1 := ⟨m - 1, by omega⟩
   exact .tup fun d hd => ih d hd (by omega)
 | lst h ih =>
   obtain ⟨k, rfl⟩ : ∃ k, m = k + 1 := ⟨m - 1, by omega⟩
   exact .lst fun d hd => ih d hd (by omega)
theorem u0.dep {m : Nat} {bs : List Int} {w : dZ} (h : u0 m bs w) : jk 12 (dJ w) := by
 obtain ⟨l, e, _, hl⟩ := h.asks
 refine .tup fun d hd => ?_
 simp only [afe, afK, or_false] at hd
 rcases hd with rfl | rfl | rfl | rfl | rfl | rfl
 . exact .int _ _
 . exact .str _ _ h.sign
 . refine .tup fun d hd => ?_
   rw [e] at hd
   obtain ⟨a, ha, rfl⟩ := afC.mp hd
   exact Kz (hl a ha)
 . exact .tup fun d hd => h.pY.2 d hd
 . exact .int _ _
 . exact .str _ _ h.mode
noncomputable def u5 (s ops : List Int) (m : Nat) (bs : List Int) (th : List Str) : List dZ := e7 dZ.src (s.map (KC ops m bs th))
theorem KG {s ops : List Int} {m : Nat} {bs : List Int} {th : List Str} (hm : 1 <= m) (ho : 1 <= ops.length) (HV : ∀ x ∈ ops, 0 <= x /\ x < m) (h : ∀ x ∈ th, PyData.strOk x = true) (h3 : th.length = 3) : (u5 s ops m bs th).length = s.length /\ ∀ w ∈ u5 s ops m bs th, u0 m bs w := by
 unfold u5
 refine ⟨by rw [jQ, afj], fun w hw => ?_⟩
 obtain ⟨c, _, rfl⟩ := afC.mp (mL.mp hw)
 exact KD hm ho HV h h3 c
noncomputable def qb (m : Nat) (bs : List Int) (ws : List dZ) : Prop := ws.length <= 63 /\ ∀ w ∈ ws, u0 m bs w
theorem qb.bN {m : Nat} {bs : List Int} {ws : List dZ} (h : qb m bs ws) : D.bN (ws.map dJ) = true := kB fun d hd => by
 obtain ⟨w, hw, rfl⟩ := afC.mp hd
 exact (h.2 w hw).jg
theorem qb.dep {m : Nat} {bs : List Int} {ws : List dZ} (h : qb m bs ws) (n : Nat) : jk (n + 13) (.lst (ws.map dJ)) := .lst fun d hd => by
 obtain ⟨w, hw, rfl⟩ := afC.mp hd
 exact Vy (h.2 w hw).dep (by omega)
noncomputable def w0 : dZ := ⟨0, Str.empty, [], [], 0, Str.empty⟩
noncomputable def aeo : L3.D -> Int
 | .tup (_ :: _ :: _ :: _ :: .int t :: _) => t
 | _ => 0
noncomputable def rK (ln : List Int) (y : Int) : Nat := ln.findIdx (fun z => decide (z = y))
theorem DV {ln : List Int} {y : Int} (h : y ∈ ln) : rK ln y < ln.length := List.findIdx_lt_length_of_exists ⟨y, h, by simp⟩
theorem yU {ln : List Int} {y : Int} (h : y ∈ ln) : ln[rK ln y]? = some y := by
 have hl := DV h
 have := List.findIdx_getElem (w := hl)
 rw [afc hl]
 exact congrArg some (afo this)
theorem Vz {ln : List Int} {y : Int} {i : Nat} (h : i < rK ln y) : ln[i]? ≠ some y := fun e => by
 have hl : i < ln.length := (afA.mp e).1
 have := List.not_of_lt_findIdx h
 rw [(afA.mp e).2] at this
 simp at this
theorem Oq {ln : List Int} (nd : ln.Nodup) {y : Int} {i : Nat} (hy : y ∈ ln) : rK ln y = i ↔ ln[i]? = some y := by
 constructor
 . rintro rfl; exact yU hy
 . intro e
   have h1 := yU hy
   have hl := DV hy
   have hi : i < ln.length := (afA.mp e).1
   rw [afc hl] at h1
   rw [afc hi] at e
   have e3 := (afv h1).trans (afv e).symm
   have np := List.pairwise_iff_getElem.mp nd
   rcases Nat.lt_trichotomy (rK ln y) i with z | z | z
   . exact absurd e3 (np _ _ hl hi z)
   . exact z
   . exact absurd e3.symm (np _ _ hi hl z)
noncomputable def wI (ops : List Int) : L3.D -> Bool
 | .tup [.str k, .int m] => if k = "open" then decide (m ∈ ops) else if k = "shut" then !decide (m ∈ ops) else true
 | _ => true
noncomputable def gR (ops : List Int) (l : List L3.D) : Bool := l.all (wI ops)
noncomputable def iS.Ot : iS -> Prop
 | .n6 _ _ => True
 | .num mk _ _ _ _ => mk ∈ rH
theorem iS.Ok.mk {n : Nat} {bs : List Int} {a : iS} (h : a.Ok n bs) : a.Ot := by
 cases a with
 | n6 op m => trivial
 | num mk b1 m1 b2 m2 => exact h.1
theorem Ga {mk : Str} (h : mk ∈ rH) : mk ≠ "open" /\ mk ≠ "shut" := by
 have : ∀ x ∈ rH, x ≠ "open" /\ x ≠ "shut" := by decide +kernel
 exact this mk h
theorem Cp (ops : List Int) (op : Bool) (m : Int) : wI ops (ck (.n6 op m)) = if op then decide (m ∈ ops) else !decide (m ∈ ops) := by
 cases op
 . show (if (if false = true then ("open" : Str) else "shut") = "open" then decide (m ∈ ops) else if (if false = true then ("open" : Str) else "shut") = "shut" then !decide (m ∈ ops) else true) = _
   rw [ae9 (by decide +kernel), afa (by decide +kernel)]
   rfl
 . show (if (if true = true then ("open" : Str) else "shut") = "open" then decide (m ∈ ops) else if (if true = true then ("open" : Str) else "shut") = "shut" then !decide (m ∈ ops) else true) = _
   rw [afa (by decide +kernel)]
   rfl
noncomputable def Ou (ops : List Int) (sg : Str) (ln : List Int) (w : dZ) : Bool := decide (w.sign = sg) && (decide (w.src ∈ ln) && gR ops w.asks)
noncomputable def KH (ws : List dZ) (ops : List Int) (sg : Str) (ln : List Int) (n : Nat) : List Nat := (List.range n).filter fun k => Ou ops sg ln (ws.getD k w0)
noncomputable def DW (ws : List dZ) (ops : List Int) (sg : Str) (ln : List Int) : List Int := e7 (fun k : Int => (rK ln (ws.getD k.toNat w0).src : Int)) ((KH ws ops sg ln ws.length).map fun (k : Nat) => (k : Int))
noncomputable def DX (ws : List dZ) (ops : List Int) (sg : Str) (m : Int) (n : Nat) : List Int := ((List.range n).filter fun k => decide ((ws.getD k w0).src = m) && (decide ((ws.getD k w0).sign = sg) && gR ops (ws.getD k w0).asks)).map fun (k : Nat) => (k : Int)
noncomputable def gsW (ws : List dZ) (ops : List Int) (sg : Str) (ln : List Int) : List Int := ln.flatMap fun m => DX ws ops sg m ws.length
theorem go_eq {ws : List dZ} {ops : List Int} {sg : Str} {ln : List Int} (nd : ln.Nodup) : DW ws ops sg ln = gsW ws ops sg ln := by
 unfold DW
 rw [jR]
 have e0 : (fun y : Nat => ((rK ln (ws.getD ((y : Int).toNat) w0).src : Nat) : Int)) = fun y : Nat => ((rK ln (ws.getD y w0).src : Nat) : Int) := by
   funext y; rw [afW]
 rw [e0]
 have YB : ∀ k ∈ KH ws ops sg ln ws.length, (ws.getD k w0).src ∈ ln := fun k hk => by
   have := (af4.mp hk).2
   simp only [Ou, afJ, agQ] at this
   exact this.2.1
 rw [sJ (fun k : Nat => rK ln (ws.getD k w0).src) ln.length _ fun k hk => DV (YB k hk), List.map_flatMap]
 have el : ln = (List.range ln.length).map fun i => ln.getD i 0 := agG fun i => by
   rw [afH]
   by_cases hi : i < ln.length
   . rw [agm hi, afc hi]
     show _ = some (ln.getD i 0)
     rw [afk, afc hi]; rfl
   . rw [List.getElem?_eq_none (by omega), List.getElem?_eq_none (by simpa using hi)]; rfl
 unfold gsW
 conv => rhs; rw [el]
 rw [List.flatMap_map, agH, agH]
 congr 1
 refine agc fun i hi => ?_
 have hi := af5.mp hi
 unfold DX KH
 rw [List.filter_filter]
 congr 1
 refine List.filter_congr fun k _ => ?_
 have YC : ln[i]? = some (ln.getD i 0) := by
   rw [afk, afc hi]; rfl
 by_cases hs : (ws.getD k w0).src ∈ ln
 . have := Oq nd (i := i) hs
   have e2 : decide (rK ln (ws.getD k w0).src = i) = decide ((ws.getD k w0).src = ln.getD i 0) := by
     rw [decide_eq_decide, this, YC, Option.some.injEq]
     exact eq_comm
   rw [e2]
   unfold Ou
   rw [agw hs, Bool.true_and]
 . unfold Ou
   rw [afY hs]
   have : decide ((ws.getD k w0).src = ln.getD i 0) = false := afY fun e => hs (e ▸ afM YC)
   rw [this]
   simp
theorem yV (ws : List dZ) (ops : List Int) (sg : Str) (ln : List Int) (n : Nat) : (KH ws ops sg ln n).length <= n := by
 have := agg (fun k => Ou ops sg ln (ws.getD k w0)) (List.range n)
 rw [agR] at this
 exact this
theorem KJ (ws : List dZ) (ops : List Int) (sg : Str) (ln : List Int) (n : Nat) : KH ws ops sg ln (n + 1) = KH ws ops sg ln n ++ (if Ou ops sg ln (ws.getD n w0) = true then [n] else []) := by
 unfold KH
 rw [agN, agB, List.filter_cons, agZ]
theorem Gb (ws : List dZ) (ops : List Int) (sg : Str) (m : Int) (n : Nat) : (DX ws ops sg m n).length <= n := by
 unfold DX
 rw [afj]
 have := agg (fun k => decide ((ws.getD k w0).src = m) && (decide ((ws.getD k w0).sign = sg) && gR ops (ws.getD k w0).asks)) (List.range n)
 rw [agR] at this
 exact this
theorem KL (ws : List dZ) (ops : List Int) (sg : Str) (m : Int) (n : Nat) : DX ws ops sg m (n + 1) = DX ws ops sg m n ++ (if (decide ((ws.getD n w0).src = m) && (decide ((ws.getD n w0).sign = sg) && gR ops (ws.getD n w0).asks)) = true then [(n : Int)] else []) := by
 unfold DX
 rw [agN, agB, List.filter_cons, agZ, ag0]
 congr 1
 split <;> rfl
theorem Ov (ws : List dZ) (ops : List Int) (sg : Str) (ln : List Int) : (DW ws ops sg ln).length <= ws.length := by
 unfold DW
 rw [jQ, afj]
 exact yV _ _ _ _ _
theorem DY {es : List Int} (ht : iO es) {x : Int} (h0 : 0 <= x) (h1 : x < es.length) : (x :: fB es x).Nodup := by
 refine age.mpr ⟨fun h => ?_, ?_⟩
 . have := yL ht h0 h1 h
   omega
 . exact (uV ht (es.length + 1) h0 h1 (by omega)).imp fun h e => by omega
noncomputable def DZ (ws : List dZ) : Prop := ∀ w ∈ ws, ∃ l : List iS, w.asks = l.map ck /\ ∀ a ∈ l, a.Ot
noncomputable abbrev Ask := Str × Int × Int × Int × Int
noncomputable def Cq (q : Ask) : L3.D := .tup [.str q.1, .tup [.int q.2.1, .int q.2.2.1], .tup [.int q.2.2.2.1, .int q.2.2.2.2]]
noncomputable def okQ (bs : List Int) (q : Ask) : Prop := (q.2.1 = -1 \/ (0 <= q.2.1 /\ q.2.1 < bs.length)) /\ (q.2.2.2.1 = -1 \/ (0 <= q.2.2.2.1 /\ q.2.2.2.1 < bs.length))
noncomputable def hQ (bs : List Int) (q : Ask) : Bool := fJ q.1 (bE q.2.1 q.2.2.1 bs) (bE q.2.2.2.1 q.2.2.2.2 bs)
noncomputable def HW (l : List L3.D) : List L3.D := l.filter fun d => !decide (d.at1.toS ∈ (["open", "shut"] : List Str))
noncomputable def D0 : iS -> List Ask
 | .n6 _ _ => []
 | .num mk b1 m1 b2 m2 => [(mk, b1, m1, b2, m2)]
theorem Ow {n : Nat} {bs : List Int} {l : List iS} (h : ∀ a ∈ l, a.Ok n bs) : HW (l.map ck) = (l.flatMap D0).map Cq := by
 unfold HW
 induction l with
 | nil => rfl
 | cons a l ih =>
   have ih := ih fun q hq => h q (afd _ hq)
   have ha := h a afb
   rw [afx, agu, ag0, ← ih]
   cases a with
   | n6 op m =>
     rw [agI]
     . rfl
     . show ¬ (!decide ((if op = true then ("open" : Str) else "shut") ∈ (["open", "shut"] : List Str))) = true
       cases op <;> decide +kernel
   | num mk b1 m1 b2 m2 =>
     rw [agJ]
     . rfl
     . show (!decide (mk ∈ (["open", "shut"] : List Str))) = true
       have : ∀ x ∈ rH, (!decide (x ∈ (["open", "shut"] : List Str))) = true := by decide +kernel
       exact this mk ha.1
theorem Ox {n : Nat} {bs : List Int} {l : List iS} (h : ∀ a ∈ l, a.Ok n bs) : ∀ q ∈ l.flatMap D0, okQ bs q := fun q hq => by
 obtain ⟨a, ha, hq⟩ := List.mem_flatMap.mp hq
 have hk := h a ha
 cases a with
 | n6 op m => cases hq
 | num mk b1 m1 b2 m2 =>
   rw [afD.mp hq]
   exact hk.2
noncomputable def hD (vs : List Int) : L3.D -> Bool
 | .tup [.str mk, .tup [.int b1, .int m1], .tup [.int b2, .int m2]] => fJ mk (bE b1 m1 vs) (bE b2 m2 vs)
 | _ => true
noncomputable def Dl (vs : List Int) (w : dZ) : Bool := w.asks.all (hD vs)
theorem VA {n : Nat} {bs vs : List Int} {l : List iS} (h : ∀ a ∈ l, a.Ok n bs) : (l.map ck).all (hD vs) = (l.flatMap D0).all (hQ vs) := by
 induction l with
 | nil => rfl
 | cons a l ih =>
   have ih := ih fun q hq => h q (afd _ hq)
   rw [afx, ag5, agu, List.all_append, ih]
   congr 1
   cases a with
   | n6 op m => rfl
   | num mk b1 m1 b2 m2 => exact (Bool.and_true _).symm
theorem iS.Ok.to {n : Nat} {bs vs : List Int} {a : iS} (h : a.Ok n bs) (e : vs.length = bs.length) : a.Ok n vs := by
 cases a with
 | n6 op m => exact h
 | num mk b1 m1 b2 m2 => exact ⟨h.1, by rw [e]; exact h.2.1, by rw [e]; exact h.2.2⟩
noncomputable def kE (n : Nat) (bs : List Int) (ws : List dZ) : Prop := ∀ w ∈ ws, ∃ l : List iS, w.asks = l.map ck /\ l.length <= 2 /\ ∀ a ∈ l, a.Ok n bs
theorem kE.ok {n : Nat} {bs : List Int} {ws : List dZ} (h : kE n bs ws) : DZ ws := fun w hw => by
 obtain ⟨l, e, _, hl⟩ := h w hw
 exact ⟨l, e, fun a ha => (hl a ha).mk⟩
noncomputable def u6 (l : List Int) (s : Int) : List Int := if s ∈ l then l else l ++ [s]
noncomputable def HX (l : List Int) : List (Key × L3.D) := l.map fun s => ((Sum.inl s : Key), L3.D.bl true)
theorem Oz (l : List Int) (s : Int) : ((HX l).any fun kv => decide (kv.1 = Sum.inl s)) = decide (s ∈ l) := by
 unfold HX
 induction l with
 | nil => rfl
 | cons y l ih =>
   rw [afx, ago, ih]
   by_cases h : y = s
   . subst h; simp
   . have h' : ¬ s = y := fun e => h e.symm
     have h2 : ¬ (Sum.inl y : Key) = Sum.inl s := fun e => h (Sum.inl.inj e)
     simp [h', h2]
theorem OB (l : List Int) (s : Int) : uL (HX l) (.inl s) (.bl true) = HX (u6 l s) := by
 unfold uL
 rw [Oz]
 unfold u6
 by_cases h : s ∈ l
 . rw [afa (agw h), afa h]
   unfold HX
   rw [afR]
   refine agc fun y _ => ?_
   show (if (Sum.inl y : Key) = Sum.inl s then ((Sum.inl y : Key), L3.D.bl true) else ((Sum.inl y : Key), L3.D.bl true)) = _
   split <;> rfl
 . rw [if_neg (by simpa using h), if_neg h]
   unfold HX
   rw [ag0]; rfl
theorem KN (l : List Int) : ((HX l).map (·.1)).map Hv = l.map L3.D.int := by
 unfold HX
 rw [afR, afR]
 rfl
theorem KP (l : List Int) (s : Int) : (u6 l s).length <= l.length + 1 := by
 unfold u6
 split <;> simp
noncomputable def fsM (ws : List dZ) (ops vs : List Int) (sg : Str) (es : List Int) (leaf : Int) : List Int := (DW ws ops sg (leaf :: fB es leaf)).filter fun k => Dl vs (ws.getD k.toNat w0)
noncomputable def SJ (ws : List dZ) (ops vs : List Int) (sg : Str) (es : List Int) (acc : List Int) (leaf : Int) : List Int := match fsM ws ops vs sg es leaf with
 | [] => acc
 | k :: _ => u6 acc k
noncomputable def HY (ks : List Str) (x : Int) : Bool := decide (ks.getD x.toNat Str.empty = "leaf")
noncomputable def mO (ks : List Str) (ops : List Int) : List Int := ops.filter (HY ks)
noncomputable def u9 (ws : List dZ) (ops vs : List Int) (sg : Str) (es : List Int) (l : List Int) : List Int := l.foldl (SJ ws ops vs sg es) []
theorem OD (ws : List dZ) (ops vs : List Int) (sg : Str) (es : List Int) (acc : List Int) (leaf : Int) : (SJ ws ops vs sg es acc leaf).length <= acc.length + 1 := by
 unfold SJ
 split
 . omega
 . exact KP _ _
theorem tS (ws : List dZ) (ops vs : List Int) (sg : Str) (es : List Int) : ∀ l : List Int, (u9 ws ops vs sg es l).length <= l.length := by
 have gen : ∀ (l acc : List Int), (l.foldl (SJ ws ops vs sg es) acc).length <= acc.length + l.length := by
   intro l
   induction l with
   | nil => intro acc; simp
   | cons y l ih =>
     intro acc
     have h1 := OD ws ops vs sg es acc y
     have := ih (SJ ws ops vs sg es acc y)
     rw [List.foldl_cons, afI]; omega
 intro l
 have := gen l []
 simpa [u9] using this
theorem Cr (ws : List dZ) (ops vs : List Int) (sg : Str) (es : List Int) (l : List Int) (x : Int) : u9 ws ops vs sg es (l ++ [x]) = SJ ws ops vs sg es (u9 ws ops vs sg es l) x := by
 unfold u9; rw [List.foldl_append]; rfl
theorem Gd {ws : List dZ} {ops : List Int} {sg : Str} {ln : List Int} {k : Int} (h : k ∈ DW ws ops sg ln) : 0 <= k /\ k < ws.length := by
 obtain ⟨i, hi, rfl⟩ := afC.mp (mL.mp h)
 have := af5.mp (af4.mp hi).1
 omega
theorem HZ {α : Type} {p : α -> Bool} {l : List α} {j : Nat} {x : α} (h : l[j]? = some x) (hp : p x = true) (hn : ∀ y ∈ l.take j, p y = false) : ∃ r, l.filter p = x :: r := by
 have hj : j < l.length := (afA.mp h).1
 have e : l = l.take j ++ x :: l.drop (j + 1) := by
   have h2 := List.take_append_drop j l
   rw [List.drop_eq_getElem_cons hj, (afA.mp h).2] at h2
   exact h2.symm
 refine ⟨(l.drop (j + 1)).filter p, ?_⟩
 conv => lhs; rw [e]
 rw [agB, List.filter_eq_nil_iff.mpr (fun y hy => by rw [hn y hy]; decide), agJ hp]
 rfl
noncomputable abbrev tT : Stmt := top 25
noncomputable abbrev yW : Type := Int × Int
noncomputable def fM : yW -> List L3.D := fun (c, s) => [.int c, .int s]
noncomputable def fN : yW -> Prop := fun (c, s) => True
noncomputable def fO : yW -> T := fun (c, s) => (.sh (.int (cJ c s)) : T)
structure OG (X : Cx) (CL : Str -> Addr) : Prop extends cy X where
 dg : Ln X 0 "cell"
 VB : Ln X 1 "salt"
 aO : Ln X 2 "mixed"
theorem OI {X : Cx} {CL : Str -> Addr} {b : Bx} (E : OG X CL) (c s) (h : fN (c, s)) :
   aA X CL b tT ["cell", "salt", "mixed"] (fM (c, s)) (fO (c, s)) := by
 dsimp only [aA, fN, fM, fO] at h ⊢
 refine aP E.g E.aO (aV (bq (ah (oE (ah (dM (ah (bq (aJ E.dg) (ah aj) (by decide))) (aJ E.VB))) (ah aj) (.inr ⟨by decide, by decide⟩))) (ah aj) (by decide)) (t2 := .sh (.int (Yx c s))) rfl) ?_
 obtain ⟨m0, m1⟩ := Yy c s
 refine aY (bq (ah (oE (aJ E.aO) (aJ E.aO) (.inl ⟨by omega, by omega⟩))) (ah aj) (by decide)) rfl
theorem vd : jO (ao tT) ([("cell", av), ("salt", av), ("mixed", av)]) = true := by decide +kernel
theorem Ct : aL ["cell", "salt", "mixed"] ["cell", "salt"] (ao tT) := aW
noncomputable abbrev mP : Stmt := top 20
noncomputable abbrev rL : Type := List Int × Int
noncomputable def eV : rL -> List L3.D := fun (ns, j) => [.lst (ns.map .int), .int j]
noncomputable def eW : rL -> Prop := fun (ns, j) => 0 <= j
noncomputable def eX : rL -> T := fun (ns, j) => (.sh (.int (bR ns j)) : T)
structure Ic (X : Cx) (CL : Str -> Addr) : Prop extends cy X where
 bH : Ln X 0 "script"
 lu : Ln X 1 "k"
 cX : Gl X "len"
 cY : X.mg "len" = none
theorem Ie {X : Cx} {CL : Str -> Addr} {b : Bx} (E : Ic X CL) (ns j) (h : eW (ns, j)) :
   aA X CL b mP ["script", "k"] (eV (ns, j)) (eX (ns, j)) := by
 dsimp only [aA, eW, eV, eX] at h ⊢
 refine c9 (JF (aJ E.lu) (ah (pM E.cY (aJ E.bH) E.cX))).1 (fun hp => ?_) (fun hp => ?_)
 . have e : j < ns.length := by simpa using of_decide_eq_true hp
   refine aY (cE (aR (aJ E.bH) (aJ E.lu) (eU h e)) rfl) ?_
   show T.sh _ = T.sh (.int (bR ns j))
   rw [bR, afa e]
 . have e : ¬ j < ns.length := by simpa using of_decide_eq_false hp
   refine au (aY aj ?_)
   show T.sh _ = T.sh (.int (bR ns j))
   rw [bR, ae9 e]
theorem oN : jO (ao mP) ([("script", av), ("k", av), ("len", aB)]) = true := by decide +kernel
theorem ve : aL ["script", "k"] ["script", "k"] (ao mP) := aW
noncomputable abbrev tU : Stmt := top 26
noncomputable abbrev yX : Type := List Int × Int
noncomputable def jT : yX -> List L3.D := fun (es, m) => [.lst (es.map .int), .int m]
noncomputable def iC : yX -> Prop := fun (es, m) => iO es /\ 0 <= m /\ m < es.length /\ es.length <= 1000
noncomputable def jU : yX -> T := fun (es, m) => (.lst (((fB es m).map .int).map T.sh) : T)
structure OJ (X : Cx) (CL : Str -> Addr) : Prop extends cy X where
 cC : Ln X 0 "elders"
 jo : Ln X 1 "mood"
 bw : Ln X 2 "found"
 KQ : Ln X 3 "at"
theorem OL {X : Cx} {CL : Str -> Addr} {b : Bx} (E : OJ X CL) (es m) (h : iC (es, m)) :
   aA X CL b tU ["elders", "mood", "found", "at"] (jT (es, m)) (jU (es, m)) := by
 dsimp only [aA, iC, jT, jU] at h ⊢
 obtain ⟨ht, h0, h1, hlen⟩ := h
 refine aP E.g E.bw (dF dD (afG _)) ?_
 refine aP E.g E.KQ (cE (aR (aJ E.cC) (aJ E.jo) (eU h0 h1)) rfl) ?_
 have hm := ht.at h0 h1
 refine FU E.g (fun n δ => ∃ (k : Int) (l : List Int), δ = [some (.sh (.lst (es.map .int))), some (.sh (.int m)), some (.lst ((l.map .int).map T.sh)), some (.sh (.int k))] /\ -1 <= k /\ k < n /\ k < es.length /\ l ++ qU n es k = fB es m /\ l.length + n <= es.length + 1) (es.length + 1)
   ⟨es.getD m.toNat 0, [], rfl, hm.1, by omega, by omega, rfl, by simp⟩ ?_
 rintro n δ ⟨k, l, rfl, k0, k1, k2, k3, k4⟩
 refine ⟨_, _, (qX (aJ E.KQ) (ah (gK (ah aj)))).1, fun hp => ?_, fun hp => ?_⟩
 . have hk : ¬ k = -1 := by simpa using hp
   have ha := ht.at (k := k) (by omega) k2
   cases n with
   | zero => omega
   | succ n =>
     refine lg E.bw.1 rfl (v_ E.KQ.1) rfl (by simp; omega) ?_
     refine aP E.g E.KQ (cE (aR (aJ E.cC) (aJ E.KQ) (eU (by omega) k2)) rfl) ?_
     refine au ⟨n, Nat.lt_succ_self _, es.getD k.toNat 0, l ++ [k], ?_, ha.1, by omega, by omega, ?_, by simp; omega⟩
     . show [_, _, some (T.lst (((l.map D.int).map T.sh) ++ [T.sh (.int k)])), _] = _
       simp
     . rw [← k3, qU, ae9 hk, afi]
       rfl
 . have hk : k = -1 := by simpa using hp
   subst hk
   have e : l = fB es m := by
     rw [← k3]
     cases n with
     | zero => rw [qU, afQ]
     | succ n => rw [qU, afa rfl, afQ]
   subst e
   exact aY (vM E.bw.1) rfl
theorem qc : jO (ao tU) ([("elders", av), ("mood", av), ("found", av), ("at", av)]) = true := by decide +kernel
theorem Cu : aL ["elders", "mood", "found", "at"] ["elders", "mood"] (ao tU) := aW
noncomputable abbrev qd : Stmt := top 27
noncomputable abbrev vf : Type := List Int
noncomputable def kF : vf -> List L3.D := fun s => [.lst (s.map .int)]
noncomputable def kG : vf -> Prop := fun s => s.length <= 1000
noncomputable def kH : vf -> T := fun s => (.lst (((iZ s).map .int).map T.sh) : T)
structure KR (X : Cx) (CL : Str -> Addr) : Prop extends cy X where
 bH : Ln X 0 "script"
 aO : Ln X 1 "mixed"
 fW : Ln X 2 "many"
 cC : Ln X 3 "elders"
 lu : Ln X 4 "k"
 mQ : Ln X 5 "roads"
 bZ : Gl X "_law_mixed"
 bI : Gl X "_law_cell_at"
 cL : Gl X "range"
 kI : Gl X "_law_chain"
 cX : Gl X "len"
 fX : Fc X CL "_law_mixed" 1 2 fM fN fO
 dm : Fc X CL "_law_cell_at" 1 2 eV eW eX
 cM : X.mg "range" = none
 yZ : Fc X CL "_law_chain" 1 2 jT iC jU
 cY : X.mg "len" = none
theorem KS {X : Cx} {CL : Str -> Addr} {b : Bx} (E : KR X CL) (s) (h : kG s) :
   aA X CL b qd ["script", "mixed", "many", "elders", "k", "roads"] (kF s) (kH s) := by
 dsimp only [aA, kG, kF, kH] at h ⊢
 refine aP E.g E.aO (aV (c_ ((bR s 0, 2)) E.fX E.bZ (ai (ah (c_ ((s, 0)) E.dm E.bI (ai (aJ E.bH) (ai (ah aj) aK)) (show (0 : Int) <= 0 by omega) rfl)) (ai (ah aj) aK)) (trivial) rfl) (t2 := .sh (.int (cJ (bR s 0) 2))) rfl) ?_
 have c0 := yP (bR s 0) 2
 refine aP E.g E.fW (dM (ah aj) (ah (bq (aJ E.aO) (ah aj) (by decide)))) ?_
 refine xK (fun δ => δ = [some (.sh (.lst (s.map .int))), some (.sh (.int (cJ (bR s 0) 2))), some (.sh (.int (cntK s))), none, none, none]) (fh (ah (bq (ah (bJ (aJ E.aO) (ah aj) ⟨by decide, by decide⟩)) (ah aj) (by decide))) (ah aj)).1 (fun hp => ?_) (fun hp => ?_) ?_
 . refine aP E.g E.fW (aV (dM (ah aj) (ah (bq (ah (bJ (aJ E.aO) (ah aj) ⟨by decide, by decide⟩)) (ah aj) (by decide)))) (t2 := .sh (.int (cntK s))) ?_) (au rfl)
   unfold cntK
   rw [afa (afo hp)]
 . refine au ?_
   unfold cntK
   rw [ae9 (afp hp)]
   rfl
 rintro δ rfl
 refine aP E.g E.cC (i9 (aH (gK (ah aj)) b9) (aG rfl)) ?_
 obtain ⟨k0, k1⟩ := Kw s
 refine gQ E.g E.lu (fun j δ => ∃ o5, δ = [some (.sh (.lst (s.map .int))), some (.sh (.int (cJ (bR s 0) 2))), some (.sh (.int (cntK s))), some (.lst (((n5 s j).map .int).map T.sh)), (if j = 0 then none else some (.sh (.int ((j : Int) - 1)))), o5])
   (fj E.cM (ah (lF (aJ E.fW) (ah aj))) (by omega) E.cL) ⟨_, rfl⟩ (fun j δ ⟨_, e⟩ => by subst e; exact afh rfl) ?turn ?fin
 case turn =>
   rintro j d δ hj ⟨o5, rfl⟩
   obtain ⟨rfl, Dj⟩ := iL hj
   rw [agt]
   obtain ⟨hl, tD⟩ := yR s j
   have ht := tD.1
   obtain ⟨r1, r2, r3⟩ := sM (k := j) ht hl.symm
   have Jc : n5 s (j + 1) = n5 s j ++ [Yz s (n5 s j) j] := rfl
   show eO X CL b _ _ { nx := fun δ => ∃ o5, δ = [_, _, _, some (.lst (((n5 s (j + 1)).map .int).map T.sh)), (if j + 1 = 0 then none else some (.sh (.int (((j + 1 : Nat) : Int) - 1)))), o5], rt := _, bk := _, ct := _ }
   rw [Jc, ae9 (show ¬ (j + 1 = 0) by omega), show ((j + 1 : Nat) : Int) - 1 = (j : Int) by omega]
   generalize n5 s j = es at hl ht r1 r2 r3 ⊢
   have hcl : (fB es (j : Int)).length <= es.length + 1 := pX _ _ _
   refine aP E.g E.mQ (tO (ds := [.int (j : Int)]) (Hi := (fB es (j : Int)).map .int) (b8 (ds := [.int (j : Int)]) (dF (fz (v_ E.lu.1) dD) (aG rfl)))
     (b8 (c_ (es, (j : Int)) E.yZ E.kI (ai (vL E.cC.1) (ai (aJ E.lu) aK)) (show iO es /\ (0 : Int) <= j /\ (j : Int) < es.length /\ es.length <= 1000 from ⟨ht, by omega, by omega, by omega⟩) (by show (T.lst _).clean = true; rw [iB]; exact sG _))) rfl (cB _) (af9 (cu (by simp; omega)))) ?_
   have er : ([L3.D.int (j : Int)] ++ (fB es (j : Int)).map L3.D.int) = ([(j : Int)] ++ fB es j).map L3.D.int := rfl
   rw [er]
   have hlr : (([(j : Int)] ++ fB es j).map L3.D.int).length = ([(j : Int)] ++ fB es j).length := by simp
   refine xK (fun δ => δ = [some (.sh (.lst (s.map .int))), some (.sh (.int (cJ (bR s 0) 2))), some (.sh (.int (cntK s))), some (.lst ((es.map .int).map T.sh)), some (.sh (.int j)), some (.lst (((bY es j).map .int).map T.sh))])
     (Sg (ah (dz hlr E.cY (vL E.mQ.1) E.cX)) (ah aj)).1 (fun hp => ?_) (fun hp => ?_) ?_
   . have e : (12 : Int) < (([(j : Int)] ++ fB es j).length : Nat) := afo hp
     refine aP E.g E.mQ (BV (vL E.mQ.1) (cB _) (yy (ah aj)) yx) (au ?_)
     rw [JT]
     unfold bY
     rw [afa e]
     rfl
   . have e : ¬ (12 : Int) < (([(j : Int)] ++ fB es j).length : Nat) := afp hp
     refine au ?_
     unfold bY
     rw [ae9 e]
     rfl
   rintro δ rfl
   have hl2 : ((bY es j).map L3.D.int).length = (bY es j).length := by simp
   have b1 := afB (cJ (bR s ((j : Int) + 1)) (3 + (j : Int))) (b := ((bY es j).length : Nat)) (by omega)
   have b2 := afw (cJ (bR s ((j : Int) + 1)) (3 + (j : Int))) (b := ((bY es j).length : Nat)) (by omega)
   have est : ((es.map L3.D.int).map T.sh) ++ [T.sh (.int (Yz s es j))] = ((es ++ [Yz s es j]).map L3.D.int).map T.sh := by simp
   refine lg E.cC.1 rfl (aV (cE (aR (vL E.mQ.1) (ah (bq (ah (c_ ((bR s ((j : Int) + 1), 3 + (j : Int))) E.fX E.bZ (ai (ah (c_ ((s, (j : Int) + 1)) E.dm E.bI (ai (aJ E.bH) (ai (ah (dM (aJ E.lu) (ah aj))) aK)) (show (0 : Int) <= (j : Int) + 1 by omega) rfl)) (ai (ah (dM (ah aj) (aJ E.lu))) aK)) (trivial) rfl)) (ah (dz (hl2) E.cY (vL E.mQ.1) E.cX)) (by omega))) (eU b1 b2)) rfl) (t2 := .sh (.int (Yz s es j))) rfl) rfl (by simp; omega) (au ?_)
   rw [est]
   exact ⟨_, rfl⟩
 case fin =>
   rintro δ ⟨o5, rfl⟩
   refine aY (vM E.cC.1) ?_
   have e : (bM 0 (cntK s - 1).toNat).length = (cntK s - 1).toNat := by simp [bM]
   rw [e]
   rfl
theorem dP : jO (ao qd) ([("script", av), ("mixed", av), ("many", av), ("elders", av), ("k", av), ("roads", av), ("_law_mixed", aB), ("_law_cell_at", aB), ("range", aB), ("_law_chain", aB), ("len", aB)]) = true := by decide +kernel
theorem xX : aL ["script", "mixed", "many", "elders", "k", "roads"] ["script"] (ao qd) := aW
noncomputable abbrev tV : Stmt := top 28
noncomputable abbrev y9 : Type := List Int
noncomputable def mR : y9 -> List L3.D := fun s => [.lst (s.map .int)]
noncomputable def mS : y9 -> Prop := fun s => s.length <= 1000
noncomputable def mU : y9 -> T := fun s => (uY (pZ s (iZ s) (iZ s).length) (iZ s) (uX s (iZ s) (iZ s).length) (rG s (iZ s) (iZ s).length) : T)
structure OO (X : Cx) (CL : Str -> Addr) : Prop extends cy X where
 bH : Ln X 0 "script"
 cC : Ln X 1 "elders"
 vg : X.env.kindOf "elders" = some .cell
 kJ : Ln X 2 "kinds"
 jV : Ln X 3 "starts"
 aM : Ln X 4 "opens"
 lu : Ln X 5 "k"
 k_k : X.env.kindOf "k" = some .cell
 aO : Ln X 6 "mixed"
 rM : Ln X 7 "mine"
 wJ : Gl X "_law_elders"
 cL : Gl X "range"
 cX : Gl X "len"
 bZ : Gl X "_law_mixed"
 bI : Gl X "_law_cell_at"
 KW : Fc X CL "_law_elders" 2 1 kF kG kH
 cM : X.mg "range" = none
 cY : X.mg "len" = none
 fX : Fc X CL "_law_mixed" 1 2 fM fN fO
 dm : Fc X CL "_law_cell_at" 1 2 eV eW eX
theorem OQ {X : Cx} {CL : Str -> Addr} {b : Bx} (E : OO X CL) (s) (h : mS s) :
   aA X CL b tV ["script", "elders", "kinds", "starts", "opens", "k", "mixed", "mine"] (mR s) (mU s) := by
 dsimp only [aA, mS, mR, mU] at h ⊢
 refine aP E.g E.cC (aV (c_ (s) E.KW E.wJ (ai (aJ E.bH) aK) (h) (bO _)) (t2 := .lst (((iZ s).map .int).map T.sh)) rfl) ?_
 obtain ⟨n1, n2, tD⟩ := F6 s
 generalize iZ s = es at n1 n2 tD ⊢
 refine aP E.g E.kJ (dF dD (afG _)) ?_
 refine aP E.g E.jV (dF dD (afG _)) ?_
 refine aP E.g E.aM (dF dD (afG _)) ?_
 refine gQ E.g E.lu (fun j δ => ∃ o5 o6 o7, δ = [some (.sh (.lst (s.map .int))), some (.lst ((es.map .int).map T.sh)), some (.lst (((pZ s es j).map .str).map T.sh)), some (.lst (((uX s es j).map .int).map T.sh)), some (.lst (((rG s es j).map .int).map T.sh)), o5, o6, o7])
   (fj E.cM (ah (dz (afj ..) E.cY (vL E.cC.1) E.cX)) (by omega) E.cL) ⟨_, _, _, rfl⟩ (fun j δ ⟨_, _, _, e⟩ => by subst e; exact afh rfl) ?turn ?fin
 case turn =>
   rintro j d δ hj ⟨o5, o6, o7, rfl⟩
   obtain ⟨rfl, Dj⟩ := iL hj
   rw [agt]
   refine aP E.g E.aO (aV (c_ ((bR s (j : Int), 101 + (j : Int))) E.fX E.bZ (ai (ah (c_ ((s, (j : Int))) E.dm E.bI (ai (aJ E.bH) (ai (aJ E.lu) aK)) (show (0 : Int) <= (j : Int) by omega) rfl)) (ai (ah (dM (ah aj) (aJ E.lu))) aK)) (trivial) rfl) (t2 := .sh (.int (IW s j))) rfl) ?_
   have YB : (((bM 0 (es.length : Int).toNat).filter fun d => decide (es.getD d.wg.toNat 0 = (j : Int))).map fun d => T.sh d) = ((xV es (j : Int)).map L3.D.int).map T.sh := by
     unfold bM xV
     rw [List.filter_map, afR, afR, afR, afW]
     have e1 : ((fun d : L3.D => decide (es.getD d.wg.toNat 0 = (j : Int))) ∘ fun i : Nat => L3.D.int (0 + (i : Int))) = fun i : Nat => decide (es.getD i 0 = (j : Int)) := by
       funext i
       show decide (es.getD (0 + (i : Int)).toNat 0 = (j : Int)) = _
       rw [agt, afW]
     rw [e1]
     congr 1
     funext i
     show T.sh (.int (0 + (i : Int))) = T.sh (.int i)
     rw [agt]
   refine oH (p := fun d => decide (es.getD d.wg.toNat 0 = (j : Int))) (gg := fun d => T.sh d) E.g E.rM (cF (.cons E.cC.1 (.inl E.vg) (.cons E.lu.1 (.inl E.k_k) .nil)) (by decide +kernel)) (fj E.cM (ah (dz (afj ..) E.cY (vL E.cC.1) E.cX)) (by omega) E.cL) (.inl ⟨rfl, fun d hd => by obtain ⟨i, _, rfl⟩ := afC.mp hd; rfl⟩) (fun C s0 H0 f0 b' d hd => ?Cv) (af9 (cu (by simp [bM]; omega))) ?rest (by exact afh rfl) (iK ⟨_, rfl⟩)
   case Cv =>
     obtain ⟨i, hi, rfl⟩ := afC.mp hd
     have IU : i < es.length := by simpa using hi
     exact ⟨(fh (aR (xO (ah (v_ (gw (i := 1) rfl (by decide +kernel)))) (eL _)) (ah (v_ (eG (i := 0) rfl (by decide +kernel)))) (eU (show (0 : Int) <= 0 + (i : Int) by omega) (show 0 + (i : Int) < es.length by omega))) (ah (v_ (gw (i := 2) rfl (by decide +kernel))))).1, fun _ => v_ (eG (i := 0) rfl (by decide +kernel))⟩
   case rest =>
   rw [YB]
   have hml := Od es (j : Int)
   have kl : (pZ s es j).length = j := by simp [pZ]
   have sl : (uX s es j).length = j := by simp [uX]
   have ol : (rG s es j).length = j := by simp [rG]
   have ek : pZ s es (j + 1) = pZ s es j ++ [Dk s es j] := by simp [pZ, agN]
   have esn : uX s es (j + 1) = uX s es j ++ [stK s es j] := by simp [uX, agN]
   have eo : rG s es (j + 1) = rG s es j ++ [W0 s es j] := by simp [rG, agN]
   show eO X CL b _ _ { nx := fun δ => ∃ o5 o6 o7, δ = [_, _, some (.lst (((pZ s es (j + 1)).map .str).map T.sh)), some (.lst (((uX s es (j + 1)).map .int).map T.sh)), some (.lst (((rG s es (j + 1)).map .int).map T.sh)), o5, o6, o7], rt := _, bk := _, ct := _ }
   rw [ek, esn, eo]
   generalize pZ s es j = ks at kl ⊢
   generalize uX s es j = ss at sl ⊢
   generalize rG s es j = os at ol ⊢
   have aS : ∀ (l : List Str) (x : Str), (l.map L3.D.str).map T.sh ++ [T.sh (.str x)] = ((l ++ [x]).map L3.D.str).map T.sh := by intros; simp
   have aI : ∀ (l : List Int) (x : Int), (l.map L3.D.int).map T.sh ++ [T.sh (.int x)] = ((l ++ [x]).map L3.D.int).map T.sh := by intros; simp
   refine lg E.kJ.1 rfl aX rfl (by simp; omega) ?_
   rw [aS]
   refine lg E.jV.1 rfl (gK (ah aj)) rfl (by simp; omega) ?_
   rw [aI]
   have abL : ∀ (x y : Str), (((ks ++ [x]).map L3.D.str).map T.sh).set j (T.sh (.str y)) = ((ks ++ [y]).map L3.D.str).map T.sh := fun x y => by
     rw [← List.map_set, ← List.map_set, List.set_append, ae9 (by omega), kl, Nat.sub_self]; rfl
   have YD : ∀ (x y : Int), (((ss ++ [x]).map L3.D.int).map T.sh).set j (T.sh (.int y)) = ((ss ++ [y]).map L3.D.int).map T.sh := fun x y => by
     rw [← List.map_set, ← List.map_set, List.set_append, ae9 (by omega), sl, Nat.sub_self]; rfl
   have abM : ∀ (l : List Str) (x : Str), l.length = j -> G0 (((l ++ [x]).map L3.D.str).map T.sh).length (j : Int) = some j := fun l x e => by
     rw [afj, afj, afy]; unfold G0; rw [afa (by omega), afa (by simp; omega), afW]
   have abN : ∀ (l : List Int) (x : Int), l.length = j -> G0 (((l ++ [x]).map L3.D.int).map T.sh).length (j : Int) = some j := fun l x e => by
     rw [afj, afj, afy]; unfold G0; rw [afa (by omega), afa (by simp; omega), afW]
   refine xK (fun δ => δ = [some (.sh (.lst (s.map .int))), some (.lst ((es.map .int).map T.sh)), some (.lst (((ks ++ [Dk s es j]).map .str).map T.sh)), some (.lst (((ss ++ [-1]).map L3.D.int).map T.sh)), some (.lst ((os.map .int).map T.sh)), some (.sh (.int j)), some (.sh (.int (IW s j))), some (.lst (((xV es (j : Int)).map .int).map T.sh))])
     (q8 E.u (vL E.rM.1) (b8 (ds := []) (dF dD (afG _))) (dO _) (dO [])).1 (fun hp => ?_) (fun hp => ?_) ?_
   . have oG : xV es (j : Int) ≠ [] := fun e => by
       rw [e] at hp
       have : Dh (.lst (([] : List Int).map L3.D.int)) (.lst []) = true := lJ (dO [])
       rw [this] at hp
       cases hp
     have ekd : Dk s es j = (["all", "one"] : List Str).getD (IW s j % 2).toNat Str.empty := by unfold Dk; rw [ae9 oG]
     refine Sl E.kJ.1 (aV (cE (aR (b8 (i9 (aH aX (aH aX b9)) (aG rfl))) (ah (bq (aJ E.aO) (ah aj) (by decide))) (iM (f := L3.D.str) (l := ["all", "one"]) Str.empty (afB _ (by decide)) (afw _ (by decide)))) rfl) (t2 := .sh (.str (Dk s es j))) (by rw [ekd])) (aJ E.lu) rfl (abM ks _ kl) (au ?_)
     rw [abL]
     rfl
   . have he : xV es (j : Int) = [] := by
       generalize xV es (j : Int) = l at hp
       cases l with
       | nil => rfl
       | cons x l =>
         have : Dh (.lst ((x :: l).map L3.D.int)) (.lst []) = false := rfl
         rw [this] at hp
         cases hp
     have ekd : Dk s es j = "leaf" := by unfold Dk; rw [afa he]
     refine au ?_
     rw [ekd]
     rfl
   rintro δ rfl
   have DP : sZ ((ks ++ [Dk s es j]).map L3.D.str) (j : Int) = some (.str (Dk s es j)) := by
     refine (iM Str.empty (by omega) (by rw [afy, kl]; simp only [afI, agj]; omega)).trans ?_
     rw [afW, afk, agp (by omega), kl, Nat.sub_self]
     rfl
   refine c9 (dY (aR (vL E.kJ.1) (aJ E.lu) (DP)) (ah aX)).1 (fun hp => ?_) (fun hp => ?_)
   . have hp := afo hp
     have oG := List.length_pos_iff.mpr (Oh hp)
     have hm2 : ((xV es (j : Int)).map L3.D.int).length = (xV es (j : Int)).length := by simp
     have c1 := afB (IW s j / 2) (b := ((xV es (j : Int)).length : Nat)) (by omega)
     have c2 := afw (IW s j / 2) (b := ((xV es (j : Int)).length : Nat)) (by omega)
     have c3 := afB (IW s j / 22) (b := ((xV es (j : Int)).length : Nat)) (by omega)
     have c4 := afw (IW s j / 22) (b := ((xV es (j : Int)).length : Nat)) (by omega)
     refine Sl E.jV.1 (aV (cE (aR (vL E.rM.1) (ah (bq (ah (bJ (aJ E.aO) (ah aj) ⟨by decide, by decide⟩)) (ah (dz (hm2) E.cY (vL E.rM.1) E.cX)) (by omega))) (eU c1 c2)) rfl) (t2 := .sh (.int (stK s es j))) (by unfold stK; rw [afa hp])) (aJ E.lu) rfl (abN ss _ sl) ?_
     rw [YD]
     refine lg E.aM.1 rfl (aV (cE (aR (vL E.rM.1) (ah (bq (ah (bJ (aJ E.aO) (ah aj) ⟨by decide, by decide⟩)) (ah (dz (hm2) E.cY (vL E.rM.1) E.cX)) (by omega))) (eU c3 c4)) rfl) (t2 := .sh (.int (W0 s es j))) (by unfold W0; rw [afa hp])) rfl (by simp; omega) (au (au ?_))
     rw [aI]
     exact ⟨_, _, _, rfl⟩
   . have hp := afp hp
     refine lg E.aM.1 rfl (gK (ah aj)) rfl (by simp; omega) (au (au ?_))
     rw [aI, show stK s es j = -1 by unfold stK; rw [ae9 hp], show W0 s es j = -1 by unfold W0; rw [ae9 hp]]
     exact ⟨_, _, _, rfl⟩
 case fin =>
   rintro δ ⟨o5, o6, o7, rfl⟩
   have e : (bM 0 (es.length : Int).toNat).length = es.length := by simp [bM]
   rw [e]
   exact aY (dF (fz (vM E.kJ.1) (fz (vM E.cC.1) (fz (vM E.jV.1) (fz (vM E.aM.1) dD)))) (aG rfl)) rfl
theorem cT : jO (ao tV) ([("script", av), ("elders", .cell), ("kinds", av), ("starts", av), ("opens", av), ("k", .cell), ("mixed", av), ("mine", av), ("_law_elders", aB), ("range", aB), ("len", aB), ("_law_mixed", aB), ("_law_cell_at", aB)]) = true := by decide +kernel
theorem Cw : aL ["script", "elders", "kinds", "starts", "opens", "k", "mixed", "mine"] ["script"] (ao tV) := aW
noncomputable abbrev tW : Stmt := top 29
noncomputable abbrev za : Type := List Str × List Int × List Int × List Int
noncomputable def mV : za -> List L3.D := fun (ks, es, ss, os) => [sN ks es ss os]
noncomputable def jW : za -> Prop := fun (ks, es, ss, os) => 1 <= es.length /\ es.length <= 900 /\ os.length = es.length /\ iO es
noncomputable def mW : za -> T := fun (ks, es, ss, os) => (.lst (((xW es os (es.length - 1)).map .int).map T.sh) : T)
structure OS (X : Cx) (CL : Str -> Addr) : Prop extends cy X where
 bL : Ln X 0 "lists"
 aM : Ln X 1 "opens"
 lu : Ln X 2 "k"
 gX : Ln X 3 "elder"
 cL : Gl X "range"
 cX : Gl X "len"
 cM : X.mg "range" = none
 cY : X.mg "len" = none
theorem OU {X : Cx} {CL : Str -> Addr} {b : Bx} (E : OS X CL) (ks es ss os) (h : jW (ks, es, ss, os)) :
   aA X CL b tW ["lists", "opens", "k", "elder"] (mV (ks, es, ss, os)) (mW (ks, es, ss, os)) := by
 dsimp only [aA, jW, mV, mW] at h ⊢
 obtain ⟨ZS, hl, ho, ht⟩ := h
 refine aP E.g E.aM (i9 (aH aj b9) (aG rfl)) ?_
 refine gQ E.g E.lu (fun j δ => ∃ o o', δ = [some (.sh (sN ks es ss os)), some (.lst (((xW es os j).map .int).map T.sh)), o, o'])
   (Hg E.cM (ah aj) (ah (dz (afj ..) E.cY (aR (aJ E.bL) (ah aj) rfl) E.cX)) (by omega) E.cL) ⟨_, _, rfl⟩ (fun j δ ⟨_, _, e⟩ => by subst e; exact afh rfl) ?turn ?fin
 case turn =>
   rintro j d δ hj ⟨o, o', rfl⟩
   obtain ⟨rfl, Dj⟩ := iL hj
   have MF := (tR (es := es) (os := os) j).2
   have ej : (1 + (j : Int)).toNat = j + 1 := by omega
   have ejI : (1 + (j : Int)) = ((j + 1 : Nat) : Int) := by omega
   refine aP E.g E.gX (aV (cE (aR (aR (aJ E.bL) (ah aj) rfl) (aJ E.lu) (eU (by omega) (by omega))) rfl) (congrArg (fun z => T.sh (.int (es.getD z 0))) ej)) ?_
   have ha := ht (j + 1) (by omega)
   show eO X CL b _ _ { nx := fun δ => ∃ o o', δ = [_, some (.lst (((xW es os (j + 1)).map .int).map T.sh)), o, o'], rt := _, bk := _, ct := _ }
   rw [xW]
   generalize es.getD (j + 1) 0 = x at ha ⊢
   have hx0 : x ∈ xW es os j -> 0 <= x := fun hx => (tQ j hx).1
   refine c9 (lH (fH (mK (aJ E.gX) (vL E.aM.1) rfl rfl).1 (fun hb => (i7 (mK (l := [-1, 1 + (j : Int)]) (aR (aR (aJ E.bL) (ah aj) rfl) (aJ E.gX) (eU (hx0 (afo hb)) (by omega))) (ah (cz (aH (gK (ah aj)) (aH (v_ E.lu.1) b9)) (aG rfl))) rfl rfl).1)))) (fun hp => ?_) (fun hp => au (au ?_))
   . simp only [afJ, agQ] at hp
     refine lg E.aM.1 rfl (v_ E.lu.1) rfl (by simp; omega) (au (au ?_))
     rw [afa ⟨hp.1, by
       have := hp.2
       simp only [afe, afK, or_false] at this
       rw [← ejI]
       exact this⟩]
     have e1 : ((xW es os j).map L3.D.int).map T.sh ++ [T.sh (.int (1 + (j : Int)))] = ((xW es os j ++ [((j + 1 : Nat) : Int)]).map L3.D.int).map T.sh := by
       rw [ejI]; simp
     rw [e1]
     exact ⟨_, _, rfl⟩
   . rw [ae9 (fun z => by
       have : (decide (x ∈ xW es os j) && decide (os.getD x.toNat 0 ∈ [-1, 1 + (j : Int)])) = true := by
         simp only [afJ, agQ, afe, afK, or_false]
         exact ⟨z.1, by rw [ejI]; exact z.2⟩
       rw [this] at hp
       cases hp)]
     exact ⟨_, _, rfl⟩
 case fin =>
   rintro δ ⟨o, o', rfl⟩
   have e : (bM 1 ((es.length : Int) - 1).toNat).length = es.length - 1 := by simp [bM]
   rw [e]
   exact aY (vM E.aM.1) rfl
theorem jX : jO (ao tW) ([("lists", av), ("opens", av), ("k", av), ("elder", av), ("range", aB), ("len", aB)]) = true := by decide +kernel
theorem Cy : aL ["lists", "opens", "k", "elder"] ["lists"] (ao tW) := aW
noncomputable abbrev qe : Stmt := top 21
noncomputable abbrev vh : Type := Int
noncomputable def kK : vh -> List L3.D := fun a => [.int a]
noncomputable def kL : vh -> Prop := fun a => True
noncomputable def kM : vh -> T := fun a => (.sh (.int (fV a)) : T)
structure KY (X : Cx) (CL : Str -> Addr) : Prop extends cy X where
 dg : Ln X 0 "cell"
 oO : Ln X 1 "size"
theorem KZ {X : Cx} {CL : Str -> Addr} {b : Bx} (E : KY X CL) (a) (h : kL a) :
   aA X CL b qe ["cell", "size"] (kK a) (kM a) := by
 dsimp only [aA, kL, kK, kM] at h ⊢
 refine c9 (fh (ah (bq (aJ E.dg) (ah aj) (by decide))) (ah aj)).1 (fun hp => ?_) (fun hp => ?_)
 . have e : a % 2 = 0 := afo hp
   refine aY (lF (ah (bq (ah (bJ (aJ E.dg) (ah aj) ⟨by decide, by decide⟩)) (ah aj) (by decide))) (ah aj)) ?_
   show T.sh _ = T.sh (.int (fV a))
   rw [fV, afa e]
 . have e : ¬ a % 2 = 0 := afp hp
   refine au ?_
   refine aP E.g E.oO (bq (ah (oE (ah (bJ (aJ E.dg) (ah aj) ⟨by decide, by decide⟩)) (ah aj) (.inr ⟨by decide, by decide⟩))) (ah (DI (ah aj) (ah aj) ⟨by decide, by decide, by decide⟩)) (by decide)) ?_
   refine c9 (fh (ah (bq (aJ E.dg) (ah aj) (by decide))) (ah aj)).1 (fun hp => ?_) (fun hp => ?_)
   . have e2 : a % 4 = 1 := afo hp
     refine aY (v_ E.oO.1) ?_
     show T.sh _ = T.sh (.int (fV a))
     rw [fV, ae9 e, afa e2]
     rfl
   . have e2 : ¬ a % 4 = 1 := afp hp
     refine au (aY (gK (aJ E.oO)) ?_)
     show T.sh _ = T.sh (.int (fV a))
     rw [fV, ae9 e, ae9 e2]
     rfl
theorem xY : jO (ao qe) ([("cell", av), ("size", av)]) = true := by decide +kernel
theorem xZ : aL ["cell", "size"] ["cell"] (ao qe) := aW
noncomputable abbrev tX : Stmt := top 30
noncomputable abbrev zb : Type := List Int
noncomputable def mX : zb -> List L3.D := fun a => [.lst (a.map .int)]
noncomputable def mY : zb -> Prop := fun a => a.length <= 1000
noncomputable def mZ : zb -> T := fun a => (.lst (((W2 a).map .int).map T.sh) : T)
structure OV (X : Cx) (CL : Str -> Addr) : Prop extends cy X where
 bH : Ln X 0 "script"
 K0 : X.env.kindOf "script" = some .cell
 fW : Ln X 1 "many"
 bZ : Gl X "_law_mixed"
 bI : Gl X "_law_cell_at"
 cL : Gl X "range"
 fX : Fc X CL "_law_mixed" 1 2 fM fN fO
 dm : Fc X CL "_law_cell_at" 1 2 eV eW eX
 cM : X.mg "range" = none
 K1 : Fc X CL "_law_number" 1 1 kK kL kM
theorem OW {X : Cx} {CL : Str -> Addr} {b : Bx} (E : OV X CL) (a) (h : mY a) :
   aA X CL b tX ["script", "many"] (mX a) (mZ a) := by
 dsimp only [aA, mY, mX, mZ] at h ⊢
 refine aP E.g E.fW (aV (bq (ah (c_ ((bR a 0, 7)) E.fX E.bZ (ai (ah (c_ ((a, 0)) E.dm E.bI (ai (aJ E.bH) (ai (ah aj) aK)) (show (0 : Int) <= 0 by omega) rfl)) (ai (ah aj) aK)) (trivial) rfl)) (ah aj) (by decide)) (t2 := .sh (.int (cJ (bR a 0) 7 % 6))) rfl) ?_
 have m0 := afB (cJ (bR a 0) 7) (show (6 : Int) ≠ 0 by decide)
 have m1 := afw (cJ (bR a 0) 7) (show (0 : Int) < 6 by decide)
 refine aY (yH (p := fun _ => true) (g := fun d => .sh (.int (fV (bR a (d.wg + 1) + 5 * d.wg)))) (cF (.cons E.bH.1 (.inl E.K0) .nil) (by decide +kernel)) E.g.calm (fj E.cM (aJ E.fW) (by omega) E.cL) (.inl ⟨rfl, fun _ _ => rfl⟩) (fun C s0 H0 f0 b' d hd => ?Cv) (af9 (cu (by simp [bM]; omega)))) ?res
 case Cv =>
   obtain ⟨j, hj, rfl⟩ := afC.mp hd
   exact ⟨rfl, fun _ => aV (c_ (bR a ((0 + (j : Int)) + 1) + 5 * (0 + (j : Int))) (pO E.K1) (ku (by decide +kernel)) (ai (ah (dM (ah (c_ ((a, (0 + (j : Int)) + 1)) (pO E.dm) (ku (by decide +kernel)) (ai (ah (v_ (gw (i := 1) rfl (by decide +kernel)))) (ai (ah (dM (ah (v_ (eG (i := 0) rfl (by decide +kernel)))) (ah aj))) aK)) (show (0 : Int) <= (0 + (j : Int)) + 1 by omega) rfl)) (ah (oE (ah aj) (ah (v_ (eG (i := 0) rfl (by decide +kernel)))) (.inl ⟨by decide, by decide⟩))))) aK) (trivial) rfl) rfl⟩
 case res =>
   show T.lst _ = T.lst _
   rw [gF]
   unfold bM W2
   rw [afR, afR, afR]
   congr 1
   refine agc fun j _ => ?_
   show T.sh (.int (fV (bR a ((0 : Int) + j + 1) + 5 * ((0 : Int) + j)))) = T.sh (.int (fV (bR a ((j : Int) + 1) + 5 * (j : Int))))
   rw [agt]
theorem jY : jO (ao tX) ([("script", .cell), ("many", av), ("_law_mixed", aB), ("_law_cell_at", aB), ("range", aB)]) = true := by decide +kernel
theorem Cz : aL ["script", "many"] ["script"] (ao tX) := aW
noncomputable abbrev zc : Stmt := top 24
noncomputable abbrev D3 : Type := Int
noncomputable def qf : D3 -> List L3.D := fun c => [.int c]
noncomputable def qg : D3 -> Prop := fun c => True
noncomputable def qh : D3 -> T := fun c => (.sh (.str (iR c)) : T)
structure VC (X : Cx) (CL : Str -> Addr) : Prop extends cy X where
 dg : Ln X 0 "cell"
 rN : Ln X 1 "letters"
 aO : Ln X 2 "mixed"
 jq : Ln X 3 "name"
 lu : Ln X 4 "k"
 cL : Gl X "range"
 cM : X.mg "range" = none
theorem VD {X : Cx} {CL : Str -> Addr} {b : Bx} (E : VC X CL) (c) (h : qg c) :
   aA X CL b zc ["cell", "letters", "mixed", "name", "k"] (qf c) (qh c) := by
 dsimp only [aA, qg, qf, qh] at h ⊢
 refine aP E.g E.rN aX ?_
 refine aP E.g E.aO (bq (ah (bJ (aJ E.dg) (ah aj) ⟨by decide, by decide⟩)) (ah (DI (ah aj) (ah aj) ⟨by decide, by decide, by decide⟩)) (by decide)) ?_
 generalize hm0 : c / 12 % 10 ^ (9 : Int).toNat = m0
 have e0 : nm0 c = (m0, tF (m0 % 26)) := by rw [← hm0]; rfl
 have YF : HP.length = 36 := by decide +kernel
 have m26 := fun m : Int => afB m (show (26 : Int) ≠ 0 by decide)
 have l26 := fun m : Int => afw m (show (0 : Int) < 26 by decide)
 have m36 := fun m : Int => afB m (show (36 : Int) ≠ 0 by decide)
 have l36 := fun m : Int => afw m (show (0 : Int) < 36 by decide)
 refine aP E.g E.jq (JH (aJ E.rN) (ah (bq (aJ E.aO) (ah aj) (by decide))) (by rw [afP]; decide +kernel) (by rw [Ks]; exact JW 0 (m26 _) (by have := l26 m0; rw [YF]; omega))) ?_
 have c0 := afB c (show (12 : Int) ≠ 0 by decide)
 have c1 := afw c (show (0 : Int) < 12 by decide)
 refine gQ E.g E.lu (fun j δ => ∃ o, δ = [some (.sh (.int c)), some (.sh (.str "abcdefghijklmnopqrstuvwxyz0123456789")), some (.sh (.int (iQ (m0, tF (m0 % 26)) j).1)), some (.sh (.str (iQ (m0, tF (m0 % 26)) j).2)), o])
   (fj E.cM (ah (bq (aJ E.dg) (ah aj) (by decide))) (by omega) E.cL) ⟨_, rfl⟩ (fun j δ ⟨_, e⟩ => by subst e; exact afh rfl) ?turn ?fin
 case turn =>
   rintro j d δ hj ⟨o, rfl⟩
   obtain ⟨rfl, Dj⟩ := iL hj
   have Z8 := Kv (m0, tF (m0 % 26)) j
   have hn0 : (tF (m0 % 26)).length = 1 := rfl
   refine aP E.g E.aO (bq (ah (dM (ah (oE (aJ E.aO) (ah aj) (.inr ⟨by decide, by decide⟩))) (ah aj))) (ah aj) (by decide)) ?_
   refine aP E.g E.jq (lG (aJ E.jq) (ah (JH (aJ E.rN) (ah (bq (aJ E.aO) (ah aj) (by decide))) (by rw [afP]; decide +kernel) (by rw [Ks]; exact JW 0 (m36 _) (by have := l36 (Oe (iQ (m0, tF (m0 % 26)) j).1); unfold Oe at this; rw [YF]; omega)))) (by rw [afP, Z8, hn0]; show 1 + j + 1 <= _; omega)) (au ⟨_, rfl⟩)
 case fin =>
   rintro δ ⟨o, rfl⟩
   have hn : (bM 0 (c % 12).toNat).length = (c % 12).toNat := by simp [bM]
   rw [hn]
   have hb : (iQ (m0, tF (m0 % 26)) (c % 12).toNat).2 = MD c := by unfold MD; rw [e0]
   rw [hb]
   have Z6 := F5 c
   refine c9 (JV (l := w13) (aJ E.jq) (tN rfl)).1 (fun hp => ?_) (fun hp => au ?_)
   . refine aY (lG (aJ E.jq) (ah aX) (by rw [afP]; show _ + 1 <= _; omega)) ?_
     show T.sh _ = T.sh (.str (iR c))
     rw [iR, afa (afo hp)]
   refine c9 (JV (l := w6) (aJ E.jq) (tN rfl)).1 (fun hq => ?_) (fun hq => au ?_)
   . refine aY (lG (aJ E.jq) (ah aX) (by rw [afP]; show _ + 1 <= _; omega)) ?_
     show T.sh _ = T.sh (.str (iR c))
     rw [iR, ae9 (afp hp), afa (afo hq)]
   . refine aY (v_ E.jq.1) ?_
     show T.sh _ = T.sh (.str (iR c))
     rw [iR, ae9 (afp hp), ae9 (afp hq)]
theorem m5 : jO (ao zc) ([("cell", av), ("letters", av), ("mixed", av), ("name", av), ("k", av), ("range", aB)]) = true := by decide +kernel
theorem Ge : aL ["cell", "letters", "mixed", "name", "k"] ["cell"] (ao zc) := aW
noncomputable abbrev tY : Stmt := top 31
noncomputable abbrev zf : Type := List Int
noncomputable def m7 : zf -> List L3.D := fun a => [.lst (a.map .int)]
noncomputable def m8 : zf -> Prop := fun a => a.length <= 1000
noncomputable def m9 : zf -> T := fun a => (.lst (((Oj a).map .str).map T.sh) : T)
structure OX (X : Cx) (CL : Str -> Addr) : Prop extends cy X where
 bH : Ln X 0 "script"
 vm : Ln X 1 "base"
 lQ : Gl X "_law_name"
 bI : Gl X "_law_cell_at"
 D4 : Fc X CL "_law_name" 1 1 qf qg qh
 dm : Fc X CL "_law_cell_at" 1 2 eV eW eX
theorem OY {X : Cx} {CL : Str -> Addr} {b : Bx} (E : OX X CL) (a) (h : m8 a) :
   aA X CL b tY ["script", "base"] (m7 a) (m9 a) := by
 dsimp only [aA, m8, m7, m9] at h ⊢
 have hz : ∀ c, (iR c).length <= 13 := fun c => HQ c
 have hb : (sO a).length <= 13 := afU (Txt.slice_le _ _ _) (hz _)
 refine aP E.g E.vm (aV (Hu (ah (c_ (bR a 0 / 2) E.D4 E.lQ (ai (ah (bJ (ah (c_ ((a, 0)) E.dm E.bI (ai (aJ E.bH) (ai (ah aj) aK)) (show (0 : Int) <= 0 by omega) rfl)) (ah aj) ⟨by decide, by decide⟩)) aK) (trivial) rfl)) ((by rw [afP]; have := hz (bR a 0 / 2); omega)) yx (yy (ah aj))) (t2 := .sh (.str (sO a))) rfl) ?_
 show eO X CL b _ _ { nx := _, rt := fun HB _ => HB = T.lst (((Oj a).map .str).map T.sh), bk := _, ct := _ }
 unfold Oj
 generalize sO a = bs at hb ⊢
 refine c9 (fh (ah (bq (ah (c_ ((a, 0)) E.dm E.bI (ai (aJ E.bH) (ai (ah aj) aK)) (show (0 : Int) <= 0 by omega) rfl)) (ah aj) (by decide))) (ah aj)).1 (fun hp => ?_) (fun hp => au ?_)
 . rw [afa (afo hp)]
   exact aY (i9 (aH (lG (aJ E.vm) (ah aX) ((by rw [afP]; show _ + 1 <= _; omega))) (aH (lG (aJ E.vm) (ah aX) ((by rw [afP]; show _ + 2 <= _; omega))) (aH (lG (aJ E.vm) (ah aX) ((by rw [afP]; show _ + 1 <= _; omega))) b9))) (aG rfl)) rfl
 . rw [ae9 (afp hp)]
   exact aY (i9 (aH (v_ E.vm.1) (aH (c_ (bR a 1 + 5) E.D4 E.lQ (ai (ah (dM (ah (c_ ((a, 1)) E.dm E.bI (ai (aJ E.bH) (ai (ah aj) aK)) (show (0 : Int) <= 1 by omega) rfl)) (ah aj))) aK) (trivial) rfl) (aH (c_ (bR a 2 + 10) E.D4 E.lQ (ai (ah (dM (ah (c_ ((a, 2)) E.dm E.bI (ai (aJ E.bH) (ai (ah aj) aK)) (show (0 : Int) <= 2 by omega) rfl)) (ah aj))) aK) (trivial) rfl) b9))) (aG rfl)) rfl
theorem qi : jO (ao tY) ([("script", av), ("base", av), ("_law_name", aB), ("_law_cell_at", aB)]) = true := by decide +kernel
theorem CB : aL ["script", "base"] ["script"] (ao tY) := aW
noncomputable abbrev tZ : Stmt := top 22
noncomputable abbrev zg : Type := Int
noncomputable def ng : zg -> List L3.D := fun a => [.int a]
noncomputable def nh : zg -> Prop := fun a => True
noncomputable def ni : zg -> T := fun a => (.sh (.int (eK a)) : T)
structure OZ (X : Cx) (CL : Str -> Addr) : Prop extends cy X where
 dg : Ln X 0 "cell"
 oO : Ln X 1 "size"
theorem O1 {X : Cx} {CL : Str -> Addr} {b : Bx} (E : OZ X CL) (a) (h : nh a) :
   aA X CL b tZ ["cell", "size"] (ng a) (ni a) := by
 dsimp only [aA, nh, ng, ni] at h ⊢
 refine c9 (fh (ah (bq (aJ E.dg) (ah aj) (by decide))) (ah aj)).1 (fun hp => ?_) (fun hp => au ?_)
 . refine aY (lF (ah (bq (ah (bJ (aJ E.dg) (ah aj) ⟨by decide, by decide⟩)) (ah aj) (by decide))) (ah aj)) ?_
   show T.sh _ = T.sh (.int (eK a))
   rw [eK, afa (afo hp)]
 . have e : ¬ a % 2 = 0 := afp hp
   refine aP E.g E.oO (aV (bq (ah (oE (ah (bJ (aJ E.dg) (ah aj) ⟨by decide, by decide⟩)) (ah aj) (.inr ⟨by decide, by decide⟩))) (ah (lF (ah (DI (ah aj) (ah aj) ⟨by decide, by decide, by decide⟩)) (ah aj))) (by decide)) (t2 := .sh (.int (a / 4 * 48271 % (10 ^ 30 - 1)))) rfl) ?_
   refine c9 (fh (ah (bq (aJ E.dg) (ah aj) (by decide))) (ah aj)).1 (fun hp => ?_) (fun hp => au ?_)
   . refine aY (v_ E.oO.1) ?_
     show T.sh _ = T.sh (.int (eK a))
     rw [eK, ae9 e, afa (afo hp)]
   . refine aY (gK (aJ E.oO)) ?_
     show T.sh _ = T.sh (.int (eK a))
     rw [eK, ae9 e, ae9 (afp hp)]
theorem CD : jO (ao tZ) ([("cell", av), ("size", av)]) = true := by decide +kernel
theorem CF : aL ["cell", "size"] ["cell"] (ao tZ) := aW
noncomputable abbrev t6 : Stmt := top 32
noncomputable abbrev zj : Type := Int × Int × List Int
noncomputable def jZ : zj -> List L3.D := fun (bx, mo, bs) => [.tup [.int bx, .int mo], .lst (bs.map .int)]
noncomputable def j3 : zj -> Prop := fun (bx, mo, bs) => bx = -1 \/ (0 <= bx /\ bx < bs.length)
noncomputable def j4 : zj -> T := fun (bx, mo, bs) => (.sh (.int (bE bx mo bs)) : T)
structure O2 (X : Cx) (CL : Str -> Addr) : Prop extends cy X where
 oQ : Ln X 0 "term"
 aU : Ln X 1 "boxes"
theorem O4 {X : Cx} {CL : Str -> Addr} {b : Bx} (E : O2 X CL) (bx mo bs) (h : j3 (bx, mo, bs)) :
   aA X CL b t6 ["term", "boxes"] (jZ (bx, mo, bs)) (j4 (bx, mo, bs)) := by
 dsimp only [aA, j3, jZ, j4] at h ⊢
 refine c9 (fh (bC (aJ E.oQ) (ah aj) rfl) (ah (gK (ah aj)))).1 (fun hp => ?_) (fun hp => ?_)
 . refine aY (cE (bC (aJ E.oQ) (ah aj) rfl) rfl) ?_
   have e : bx = -1 := afo hp
   show T.sh (.int mo) = T.sh (.int (bE bx mo bs))
   rw [bE, afa e]
 . refine au ?_
   have e : ¬ bx = -1 := afp hp
   refine aY (dM (aR (aJ E.aU) (bC (aJ E.oQ) (ah aj) rfl) (eU (by omega) (by omega))) (bC (aJ E.oQ) (ah aj) rfl)) ?_
   show T.sh _ = T.sh (.int (bE bx mo bs))
   rw [bE, ae9 e]
theorem CG : jO (ao t6) ([("term", av), ("boxes", av)]) = true := by decide +kernel
theorem CH : aL ["term", "boxes"] ["term", "boxes"] (ao t6) := aW
noncomputable abbrev Gf : Stmt := top 33
noncomputable abbrev K2 : Type := Str × Int × Int
noncomputable def qj : K2 -> List L3.D := fun (mk, i, j) => [.str mk, .int i, .int j]
noncomputable def qk : K2 -> Prop := fun (mk, i, j) => True
noncomputable def ql : K2 -> T := fun (mk, i, j) => (.sh (.bl (fJ mk i j)) : T)
structure YG (X : Cx) (CL : Str -> Addr) : Prop extends cy X where
 lR : Ln X 0 "mark"
 gS : Ln X 1 "one"
 d7 : Ln X 2 "other"
theorem YH {X : Cx} {CL : Str -> Addr} {b : Bx} (E : YG X CL) (mk i j) (h : qk (mk, i, j)) :
   aA X CL b Gf ["mark", "one", "other"] (qj (mk, i, j)) (ql (mk, i, j)) := by
 dsimp only [aA, qk, qj, ql] at h ⊢
 refine c9 (dY (aJ E.lR) (ah aX)).1 (fun hp => ?_) (fun hp => au ?_)
 . refine aY (JF (aJ E.gS) (aJ E.d7)).2 ?_
   show T.sh _ = T.sh (.bl (fJ mk i j))
   rw [fJ, afa (afo hp)]
 refine c9 (dY (aJ E.lR) (ah aX)).1 (fun hq => ?_) (fun hq => au ?_)
 . refine aY (Sf (aJ E.gS) (aJ E.d7)).2 ?_
   show T.sh _ = T.sh (.bl (fJ mk i j))
   rw [fJ, ae9 (afp hp), afa (afo hq)]
 refine c9 (dY (aJ E.lR) (ah aX)).1 (fun hr => ?_) (fun hr => au ?_)
 . refine aY (fh (aJ E.gS) (aJ E.d7)).2 ?_
   show T.sh _ = T.sh (.bl (fJ mk i j))
   rw [fJ, ae9 (afp hp), ae9 (afp hq), afa (afo hr)]
 . refine aY (qX (aJ E.gS) (aJ E.d7)).2 ?_
   show T.sh _ = T.sh (.bl (fJ mk i j))
   rw [fJ, ae9 (afp hp), ae9 (afp hq), ae9 (afp hr)]
theorem D5 : jO (ao Gf) ([("mark", av), ("one", av), ("other", av)]) = true := by decide +kernel
theorem K3 : aL ["mark", "one", "other"] ["mark", "one", "other"] (ao Gf) := aW
noncomputable abbrev Gg : Stmt := top 34
noncomputable abbrev K4 : Type := Int × List Int × Nat × List Int
noncomputable def t7 : K4 -> List L3.D := fun (c, ops, m, bs) => [.int c, .lst (ops.map .int), .int m, .lst (bs.map .int)]
noncomputable def qm : K4 -> Prop := fun (c, ops, m, bs) => 1 <= m /\ bs.length <= 1000
noncomputable def t8 : K4 -> T := fun (c, ops, m, bs) => (.sh (ck (oM ops m bs c)) : T)
structure YJ (X : Cx) (CL : Str -> Addr) : Prop extends cy X where
 dg : Ln X 0 "cell"
 aM : Ln X 1 "opens"
 fW : Ln X 2 "many"
 aU : Ln X 3 "boxes"
 aO : Ln X 4 "mixed"
 D6 : Ln X 5 "good"
 VF : X.env.kindOf "good" = some .cell
 jo : Ln X 6 "mood"
 gS : Ln X 7 "one"
 d7 : Ln X 8 "other"
 K5 : Ln X 9 "side"
 VG : X.env.kindOf "side" = some .cell
 Gh : Ln X 10 "right"
 O5 : X.env.kindOf "right" = some .cell
 zk : Ln X 11 "marks"
 bZ : Gl X "_law_mixed"
 K6 : Gl X "int"
 cX : Gl X "len"
 qo : Gl X "_law_small"
 fY : Gl X "_law_worth"
 fX : Fc X CL "_law_mixed" 1 2 fM fN fO
 K7 : X.mg "int" = none
 cY : X.mg "len" = none
 Gi : Fc X CL "_law_small" 1 1 ng nh ni
 qp : Fc X CL "_law_worth" 1 2 jZ j3 j4
 K8 : Fc X CL "_law_due" 1 3 qj qk ql
theorem YK {X : Cx} {CL : Str -> Addr} {b : Bx} (E : YJ X CL) (c ops m bs) (h : qm (c, ops, m, bs)) :
   aA X CL b Gg ["cell", "opens", "many", "boxes", "mixed", "good", "mood", "one", "other", "side", "right", "marks"] (t7 (c, ops, m, bs)) (t8 (c, ops, m, bs)) := by
 dsimp only [aA, qm, t7, t8] at h ⊢
 obtain ⟨hm, hb⟩ := h
 refine aP E.g E.aO (aV (c_ ((c, 31)) E.fX E.bZ (ai (aJ E.dg) (ai (ah aj) aK)) (trivial) rfl) (t2 := .sh (.int (cJ c 31))) rfl) ?_
 refine aP E.g E.D6 (aV (Sg (ah (bq (aJ E.aO) (ah aj) (by decide))) (ah aj)).2 (t2 := .sh (.bl (Ck c))) rfl) ?_
 show eO X CL b _ _ { nx := _, rt := fun HB _ => HB = T.sh (ck (oM ops m bs c)), bk := _, ct := _ }
 have c0 := yP c 31
 refine c9 (fh (ah (bq (ah (bJ (aJ E.aO) (ah aj) ⟨by decide, by decide⟩)) (ah aj) (by decide))) (ah aj)).1 (fun hp => ?_) (fun hp => au ?_)
 . have hp := afo hp
   rw [show oM ops m bs c = .n6 (decide (decide (cJ c 31 / 9 % (m : Int) ∈ ops) = Ck c)) (cJ c 31 / 9 % (m : Int)) by unfold oM; rw [afa hp]]
   refine aP E.g E.jo (bq (ah (bJ (aJ E.aO) (ah aj) ⟨by decide, by decide⟩)) (aJ E.fW) (by omega)) ?_
   have DP : ∀ p : Bool, sZ [L3.D.str "shut", .str "open"] (if p then 1 else 0) = some (.str (if p then "open" else "shut")) := fun p => by cases p <;> rfl
   exact aY (cz (aH (cE (aR (b8 (i9 (ds := [.str "shut", .str "open"]) (aH aX (aH aX b9)) (aG rfl))) (ah (NB E.K7 (ah (JR (ah (mK (aJ E.jo) (aJ E.aM) rfl rfl).2) (aJ E.D6)).2) E.K6)) (DP _)) rfl) (aH (v_ E.jo.1) b9)) (aG rfl)) rfl
 have hp := afp hp
 rw [show oM ops m bs c = .num (Cm c bs) (tG c bs.length) (eK (c / 3)) (rJ c bs.length) (yS c) by unfold oM; rw [ae9 hp]]
 refine aP E.g E.gS (aV (cz (aH (lF (ah (bq (ah (bJ (aJ E.aO) (ah aj) ⟨by decide, by decide⟩)) (ah (dM (ah (dz (afj ..) E.cY (aJ E.aU) E.cX)) (ah aj))) (by omega))) (ah aj)) (aH (c_ (c / 3) E.Gi E.qo (ai (ah (bJ (aJ E.dg) (ah aj) ⟨by decide, by decide⟩)) aK) (trivial) rfl) b9)) (aG rfl)) (t2 := .sh (.tup [.int (tG c bs.length), .int (eK (c / 3))])) rfl) ?_
 refine aP E.g E.d7 (aV (cz (aH (lF (ah (bq (ah (bJ (aJ E.aO) (ah aj) ⟨by decide, by decide⟩)) (ah (dM (ah (dz (afj ..) E.cY (aJ E.aU) E.cX)) (ah aj))) (by omega))) (ah aj)) (aH (c_ (c / 5 + 1) E.Gi E.qo (ai (ah (dM (ah (bJ (aJ E.dg) (ah aj) ⟨by decide, by decide⟩)) (ah aj))) aK) (trivial) rfl) b9)) (aG rfl)) (t2 := .sh (.tup [.int (cJ c 31 / 81 % ((bs.length : Int) + 1) - 1), .int (eK (c / 5 + 1))])) rfl) ?_
 refine xK (fun δ => δ = [some (.sh (.int c)), some (.sh (.lst (ops.map .int))), some (.sh (.int m)), some (.sh (.lst (bs.map .int))), some (.sh (.int (cJ c 31))), some (.sh (.bl (Ck c))), none, some (.sh (.tup [.int (tG c bs.length), .int (eK (c / 3))])), some (.sh (.tup [.int (rJ c bs.length), .int (yS c)])), none, none, none]) (fh (ah (bq (ah (bJ (aJ E.aO) (ah aj) ⟨by decide, by decide⟩)) (ah aj) (by decide))) (ah aj)).1 (fun hq => ?_) (fun hq => ?_) ?_
 . have hq := afo hq
   rw [show rJ c bs.length = tG c bs.length by unfold rJ; rw [afa hq], show yS c = eK (c / 3) + cJ c 31 / 2187 % 3 - 1 by unfold yS; rw [afa hq]]
   exact aP E.g E.d7 (cz (aH (cE (bC (aJ E.gS) (ah aj) rfl) rfl) (aH (lF (ah (dM (bC (aJ E.gS) (ah aj) rfl) (ah (bq (ah (bJ (aJ E.aO) (ah aj) ⟨by decide, by decide⟩)) (ah aj) (by decide))))) (ah aj)) b9)) (aG rfl)) (au rfl)
 . have hq := afp hq
   rw [show rJ c bs.length = cJ c 31 / 81 % ((bs.length : Int) + 1) - 1 by unfold rJ; rw [ae9 hq], show yS c = eK (c / 5 + 1) by unfold yS; rw [ae9 hq]]
   exact au rfl
 rintro δ rfl
 refine aP E.g E.K5 (aV (c_ ((tG c bs.length, eK (c / 3), bs)) E.qp E.fY (ai (aJ E.gS) (ai (aJ E.aU) aK)) (yT c bs.length) rfl) (t2 := .sh (.int (oi c bs))) rfl) ?_
 refine aP E.g E.Gh (aV (c_ ((rJ c bs.length, yS c, bs)) E.qp E.fY (ai (aJ E.d7) (ai (aJ E.aU) aK)) (F9 c bs.length) rfl) (t2 := .sh (.int (jn c bs))) rfl) ?_
 have hmk : Cm c bs = (uZ (Ck c) (oi c bs) (jn c bs)).getD (cJ c 31 / 6561 % ((uZ (Ck c) (oi c bs) (jn c bs)).length : Nat)).toNat Str.empty := rfl
 rw [hmk]
 generalize oi c bs = sd
 generalize jn c bs = rt
 have hmp := Cj (Ck c) sd rt
 have hem : (((rH.map L3.D.str).filter fun d => decide (fJ d.toS sd rt = Ck c)).map fun d => T.sh d) = ((uZ (Ck c) sd rt).map L3.D.str).map T.sh := by
   rw [List.filter_map]
   rfl
 refine oH (p := fun d => decide (fJ d.toS sd rt = Ck c)) (gg := fun d => T.sh d) E.g E.zk (cF (.cons E.D6.1 (.inl E.VF) (.cons E.Gh.1 (.inl E.O5) (.cons E.K5.1 (.inl E.VG) .nil))) (by decide +kernel)) (ji (Nt (ds := rH.map L3.D.str) (tN rfl))) (.inr rfl) (fun C s0 H0 f0 b' d hd => ?Cv) (aG rfl) ?rest (by exact afh rfl) (iK ⟨_, rfl⟩)
 case Cv =>
   obtain ⟨mk, hmk, rfl⟩ := afC.mp hd
   exact ⟨(JR (ah (c_ ((mk, sd, rt)) (pO E.K8) (ku (by decide +kernel)) (ai (ah (v_ (eG (i := 0) rfl (by decide +kernel)))) (ai (ah (v_ (gw (i := 3) rfl (by decide +kernel)))) (ai (ah (v_ (gw (i := 2) rfl (by decide +kernel)))) aK))) (trivial) rfl)) (ah (v_ (gw (i := 1) rfl (by decide +kernel))))).1, fun _ => (v_ (eG (i := 0) rfl (by decide +kernel)))⟩
 case rest =>
 rw [hem]
 generalize uZ (Ck c) sd rt = mks at hmp
 have l0 := afB (cJ c 31 / 6561) (b := (mks.length : Nat)) (by omega)
 have l1 := afw (cJ c 31 / 6561) (b := (mks.length : Nat)) (by omega)
 exact aY (cz (aH (cE (aR (vL E.zk.1) (ah (bq (ah (bJ (aJ E.aO) (ah aj) ⟨by decide, by decide⟩)) (ah (dz (afj ..) E.cY (vL E.zk.1) E.cX)) (by omega))) (iM Str.empty l0 l1)) rfl) (aH (v_ E.gS.1) (aH (v_ E.d7.1) b9))) (aG rfl)) rfl
theorem dQ : jO (ao Gg) ([("cell", av), ("opens", av), ("many", av), ("boxes", av), ("mixed", av), ("good", .cell), ("mood", av), ("one", av), ("other", av), ("side", .cell), ("right", .cell), ("marks", av), ("_law_mixed", aB), ("int", aB), ("len", aB), ("_law_small", aB), ("_law_worth", aB)]) = true := by decide +kernel
theorem K9 : aL ["cell", "opens", "many", "boxes", "mixed", "good", "mood", "one", "other", "side", "right", "marks"] ["cell", "opens", "many", "boxes"] (ao Gg) := aW
noncomputable abbrev Gj : Stmt := top 35
noncomputable abbrev La : Type := Int × List Int × Nat × List Int × List Str
noncomputable def t9 : La -> List L3.D := fun (c, ops, m, bs, th) => [.int c, .lst (ops.map .int), .int m, .lst (bs.map .int), .lst (th.map .str)]
noncomputable def qq : La -> Prop := fun (c, ops, m, bs, th) => 1 <= m /\ 1 <= ops.length /\ bs.length <= 1000 /\ th.length = 3
noncomputable def ua : La -> T := fun (c, ops, m, bs, th) => (.sh (dJ (KC ops m bs th c)) : T)
structure YL (X : Cx) (CL : Str -> Addr) : Prop extends cy X where
 dg : Ln X 0 "cell"
 aM : Ln X 1 "opens"
 fW : Ln X 2 "many"
 aU : Ln X 3 "boxes"
 gB : Ln X 4 "three"
 aO : Ln X 5 "mixed"
 vn : Ln X 6 "source"
 gM : Ln X 7 "asks"
 lu : Ln X 8 "k"
 Gk : Ln X 9 "deeds"
 vo : Ln X 10 "target"
 D7 : Ln X 11 "mode"
 bZ : Gl X "_law_mixed"
 cX : Gl X "len"
 cL : Gl X "range"
 D8 : Gl X "_law_ask"
 zl : Gl X "tuple"
 fX : Fc X CL "_law_mixed" 1 2 fM fN fO
 cY : X.mg "len" = none
 cM : X.mg "range" = none
 YM : Fc X CL "_law_ask" 2 4 t7 qm t8
 zm : X.mg "tuple" = none
theorem YN {X : Cx} {CL : Str -> Addr} {b : Bx} (E : YL X CL) (c ops m bs th) (h : qq (c, ops, m, bs, th)) :
   aA X CL b Gj ["cell", "opens", "many", "boxes", "three", "mixed", "source", "asks", "k", "deeds", "target", "mode"] (t9 (c, ops, m, bs, th)) (ua (c, ops, m, bs, th)) := by
 dsimp only [aA, qq, t9, ua] at h ⊢
 obtain ⟨hm, ho, hb, h3⟩ := h
 refine aP E.g E.aO (aV (c_ ((c, 11)) E.fX E.bZ (ai (aJ E.dg) (ai (ah aj) aK)) (trivial) rfl) (t2 := .sh (.int (cJ c 11))) rfl) ?_
 have c0 := yP c 11
 show eO X CL b _ _ { nx := _, rt := fun HB _ => HB = T.sh (dJ (KC ops m bs th c)), bk := _, ct := _ }
 have hw : dJ (KC ops m bs th c) = .tup [.int (if cJ c 11 % 2 = 0 then ops.getD (cJ c 11 / 2 % (ops.length : Nat)).toNat 0 else cJ c 11 / 2 % (m : Int)), .str (th.getD (cJ c 13 / 300 % 3).toNat Str.empty), .tup ((HS ops m bs c).map ck), .tup (SG th (cJ c 11 / 300 % 3)), .int (if cJ c 13 % 5 = 0 then -1 else cJ c 13 / 5 % (m : Int)), .str (if cJ c 13 % 5 = 0 then "new" else (["new", "near", "far"] : List Str).getD (cJ c 13 / 100 % 3).toNat Str.empty)] := rfl
 rw [hw]
 generalize O6 : (if cJ c 11 % 2 = 0 then ops.getD (cJ c 11 / 2 % (ops.length : Nat)).toNat 0 else cJ c 11 / 2 % (m : Int)) = src
 refine aP E.g E.vn (bq (ah (bJ (aJ E.aO) (ah aj) ⟨by decide, by decide⟩)) (aJ E.fW) (by omega)) ?_
 have MF : (ops.map L3.D.int).length = ops.length := by simp
 have l0 := afB (cJ c 11 / 2) (b := (ops.length : Nat)) (by omega)
 have l1 := afw (cJ c 11 / 2) (b := (ops.length : Nat)) (by omega)
 refine xK (fun δ => δ = [some (.sh (.int c)), some (.sh (.lst (ops.map .int))), some (.sh (.int m)), some (.sh (.lst (bs.map .int))), some (.sh (.lst (th.map .str))), some (.sh (.int (cJ c 11))), some (.sh (.int src)), none, none, none, none, none]) (fh (ah (bq (aJ E.aO) (ah aj) (by decide))) (ah aj)).1 (fun hq => ?_) (fun hq => ?_) ?_
 . rw [afa (afo hq)] at O6
   rw [← O6]
   exact aP E.g E.vn (cE (aR (aJ E.aM) (ah (bq (ah (bJ (aJ E.aO) (ah aj) ⟨by decide, by decide⟩)) (ah (dz (MF) E.cY (aJ E.aM) E.cX)) (by omega))) (eU l0 l1)) rfl) (au rfl)
 . rw [ae9 (afp hq)] at O6
   rw [← O6]
   exact au rfl
 rintro δ rfl
 refine aP E.g E.gM (dF dD (afG _)) ?_
 have k0 := afB (cJ c 11 / 100) (show (3 : Int) ≠ 0 by decide)
 have k1 := afw (cJ c 11 / 100) (show (0 : Int) < 3 by decide)
 refine gQ E.g E.lu (fun j δ => ∃ o8, δ = [some (.sh (.int c)), some (.sh (.lst (ops.map .int))), some (.sh (.int m)), some (.sh (.lst (bs.map .int))), some (.sh (.lst (th.map .str))), some (.sh (.int (cJ c 11))), some (.sh (.int src)), some (.lst ((((List.range j).map fun (k : Nat) => oM ops m bs (c / ((k : Int) + 1) + 17 * (k : Int))).map ck).map T.sh)), o8, none, none, none])
   (fj E.cM (ah (bq (ah (bJ (aJ E.aO) (ah aj) ⟨by decide, by decide⟩)) (ah aj) (by decide))) (by omega) E.cL) ⟨_, rfl⟩ (fun j δ ⟨_, e⟩ => by subst e; exact afh rfl) ?turn ?fin
 case turn =>
   rintro j d δ hj ⟨o8, rfl⟩
   obtain ⟨rfl, Dj⟩ := iL hj
   have Dj : j < (cJ c 11 / 100 % 3).toNat := Dj
   rw [agt]
   refine lg E.gM.1 rfl (aV (c_ ((c / ((j : Int) + 1) + 17 * (j : Int), ops, m, bs)) E.YM E.D8 (ai (ah (dM (ah (bJ (aJ E.dg) (ah (dM (aJ E.lu) (ah aj))) (⟨by omega, by omega⟩))) (ah (oE (ah aj) (aJ E.lu) (.inl ⟨by decide, by decide⟩))))) (ai (aJ E.aM) (ai (aJ E.fW) (ai (aJ E.aU) aK)))) (by dsimp only [qm]; exact (⟨hm, hb⟩)) (qa _)) (t2 := .sh (ck (oM ops m bs (c / ((j : Int) + 1) + 17 * (j : Int))))) rfl) rfl (by simp; omega) (au ?_)
   have e1 : ((((List.range j).map fun (k : Nat) => oM ops m bs (c / ((k : Int) + 1) + 17 * (k : Int))).map ck).map T.sh) ++ [T.sh (ck (oM ops m bs (c / ((j : Int) + 1) + 17 * (j : Int))))] = ((((List.range (j + 1)).map fun (k : Nat) => oM ops m bs (c / ((k : Int) + 1) + 17 * (k : Int))).map ck).map T.sh) := by
     simp [agN]
   rw [e1]
   exact ⟨_, rfl⟩
 case fin =>
   rintro δ ⟨o8, rfl⟩
   have e0 : (bM 0 (cJ c 11 / 100 % 3).toNat).length = (cJ c 11 / 100 % 3).toNat := by simp [bM]
   rw [e0]
   rw [show ((List.range (cJ c 11 / 100 % 3).toNat).map fun (k : Nat) => oM ops m bs (c / ((k : Int) + 1) + 17 * (k : Int))) = HS ops m bs c from rfl]
   generalize HS ops m bs c = al
   have hth : ∀ i : Nat, i < 3 -> sZ (th.map L3.D.str) (i : Int) = some (.str (th.getD i Str.empty)) := fun i hi => iM Str.empty (by omega) (by omega)
   have DP : sZ [L3.D.tup [], .tup [.tup [.str "call", .str (th.getD 0 Str.empty)]], .tup [.tup [.str "say", .str (th.getD 1 Str.empty), .tup [.int (-1), .int 7]], .tup [.str "call", .str (th.getD 2 Str.empty)]]] (cJ c 11 / 300 % 3) = some (.tup (SG th (cJ c 11 / 300 % 3))) := by
     have : cJ c 11 / 300 % 3 = 0 \/ cJ c 11 / 300 % 3 = 1 \/ cJ c 11 / 300 % 3 = 2 := by omega
     rcases this with e | e | e <;> rw [e] <;> rfl
   have abR : (L3.D.tup (SG th (cJ c 11 / 300 % 3))).jg = true := by
     have : cJ c 11 / 300 % 3 = 0 \/ cJ c 11 / 300 % 3 = 1 \/ cJ c 11 / 300 % 3 = 2 := by omega
     rcases this with e | e | e <;> rw [e] <;> rfl
   refine aP E.g E.Gk (cE (aR (δ1 := [some (.sh (.int c)), some (.sh (.lst (ops.map .int))), some (.sh (.int m)), some (.sh (.lst (bs.map .int))), some (.sh (.lst (th.map .str))), some (.sh (.int (cJ c 11))), some (.sh (.int src)), some (.lst ((al.map ck).map T.sh)), o8, none, none, none]) (b8 (i9 (ds := [L3.D.tup [], .tup [.tup [.str "call", .str (th.getD 0 Str.empty)]], .tup [.tup [.str "say", .str (th.getD 1 Str.empty), .tup [.int (-1), .int 7]], .tup [.str "call", .str (th.getD 2 Str.empty)]]])
     (pW ?d1 (pW ?d2 (pW ?d3 b9))) (aG rfl))) (ah (bq (ah (bJ (aJ E.aO) (ah aj) ⟨by decide, by decide⟩)) (ah aj) (by decide))) DP) abR) ?rest
   case d1 => exact cz b9 (aG rfl)
   case d2 => exact cz (aH (cz (aH aX (aH (cE (aR (aJ E.gB) (ah aj) (hth 0 (by omega))) rfl) b9)) (aG rfl)) b9) (aG rfl)
   case d3 =>
     refine cz (pW ?d4 (pW ?d5 b9)) (aG rfl)
     case d4 => exact cz (aH aX (aH (cE (aR (aJ E.gB) (ah aj) (hth 1 (by omega))) rfl) (aH (cz (aH (gK (ah aj)) (aH aj b9)) (aG rfl)) b9))) (aG rfl)
     case d5 => exact cz (aH aX (aH (cE (aR (aJ E.gB) (ah aj) (hth 2 (by omega))) rfl) b9)) (aG rfl)
   case rest =>
   generalize SG th (cJ c 11 / 300 % 3) = de
   refine aP E.g E.aO (aV (c_ ((c, 13)) E.fX E.bZ (ai (aJ E.dg) (ai (ah aj) aK)) (trivial) rfl) (t2 := .sh (.int (cJ c 13))) rfl) ?_
   have d0 := yP c 13
   generalize cJ c 13 = q at d0 ⊢
   refine aP E.g E.vo (bq (ah (bJ (aJ E.aO) (ah aj) ⟨by decide, by decide⟩)) (aJ E.fW) (by omega)) ?_
   refine aP E.g E.D7 (cE (aR (b8 (i9 (aH aX (aH aX (aH aX b9))) (aG rfl))) (ah (bq (ah (bJ (aJ E.aO) (ah aj) ⟨by decide, by decide⟩)) (ah aj) (by decide))) (iM (f := L3.D.str) (l := ["new", "near", "far"]) Str.empty (afB _ (by decide)) (afw _ (by decide)))) rfl) ?_
   generalize Z9 : (if q % 5 = 0 then (-1 : Int) else q / 5 % (m : Int)) = tg
   generalize hmd : (if q % 5 = 0 then ("new" : Str) else (["new", "near", "far"] : List Str).getD (q / 100 % 3).toNat Str.empty) = md
   refine xK (fun δ => δ = [some (.sh (.int c)), some (.sh (.lst (ops.map .int))), some (.sh (.int m)), some (.sh (.lst (bs.map .int))), some (.sh (.lst (th.map .str))), some (.sh (.int q)), some (.sh (.int src)), some (.lst ((al.map ck).map T.sh)), o8, some (.sh (.tup de)), some (.sh (.int tg)), some (.sh (.str md))]) (fh (ah (bq (aJ E.aO) (ah aj) (by decide))) (ah aj)).1 (fun hq => ?_) (fun hq => ?_) ?_
   . rw [afa (afo hq)] at Z9 hmd
     rw [← Z9, ← hmd]
     exact aP E.g E.vo (gK (ah aj)) (aP E.g E.D7 aX (au rfl))
   . rw [ae9 (afp hq)] at Z9 hmd
     rw [← Z9, ← hmd]
     exact au rfl
   rintro δ rfl
   have q0 := afB (q / 300) (show (3 : Int) ≠ 0 by decide)
   have q1 := afw (q / 300) (show (0 : Int) < 3 by decide)
   exact aY (cz (aH (v_ E.vn.1) (aH (cE (aR (aJ E.gB) (ah (bq (ah (bJ (aJ E.aO) (ah aj) ⟨by decide, by decide⟩)) (ah aj) (by decide))) (iM Str.empty q0 (by omega))) rfl) (aH (xN E.zm (vL E.gM.1) (iN (fun a => qa a) _) E.zl) (aH (v_ E.Gk.1) (aH (v_ E.vo.1) (aH (v_ E.D7.1) b9)))))) (aG rfl)) rfl
theorem eY : jO (ao Gj) ([("cell", av), ("opens", av), ("many", av), ("boxes", av), ("three", av), ("mixed", av), ("source", av), ("asks", av), ("k", av), ("deeds", av), ("target", av), ("mode", av), ("_law_mixed", aB), ("len", aB), ("range", aB), ("_law_ask", aB), ("tuple", aB)]) = true := by decide +kernel
theorem Lb : aL ["cell", "opens", "many", "boxes", "three", "mixed", "source", "asks", "k", "deeds", "target", "mode"] ["cell", "opens", "many", "boxes", "three"] (ao Gj) := aW
theorem O7 {α : Type} {l : List α} {k : Nat} (h : l.length <= k) : cutD l none (some (k : Int)) = l := by
 unfold cutD
 have e1 : HT.sY l.length 0 none = 0 := rfl
 have e2 : HT.sY l.length l.length (some (k : Int)) = l.length := by
   unfold HT.sY
   simp
   split <;> omega
 rw [e1, e2]
 simp
noncomputable abbrev zo : Stmt := top 36
noncomputable abbrev D9 : Type := List Int × List Int × Nat × List Int × List Str
noncomputable def qu : D9 -> List L3.D := fun (s, ops, m, bs, th) => [.lst (s.map .int), .lst (ops.map .int), .int m, .lst (bs.map .int), .lst (th.map .str)]
noncomputable def lS : D9 -> Prop := fun (s, ops, m, bs, th) => s.length <= 63 /\ 1 <= m /\ 1 <= ops.length /\ bs.length <= 1000 /\ th.length = 3 /\ (∀ x ∈ ops, 0 <= x /\ x < m) /\ ∀ x ∈ th, PyData.strOk x = true
noncomputable def qv : D9 -> T := fun (s, ops, m, bs, th) => (.lst (((u5 s ops m bs th).map dJ).map T.sh) : T)
structure VH (X : Cx) (CL : Str -> Addr) : Prop extends cy X where
 bH : Ln X 0 "script"
 aM : Ln X 1 "opens"
 zq : X.env.kindOf "opens" = some .cell
 fW : Ln X 2 "many"
 VJ : X.env.kindOf "many" = some .cell
 aU : Ln X 3 "boxes"
 qw : X.env.kindOf "boxes" = some .cell
 gB : Ln X 4 "three"
 O8 : X.env.kindOf "three" = some .cell
 cN : Ln X 5 "ways"
 vp : Gl X "sorted"
 vq : X.mg "sorted" = none
 YQ : Fc X CL "_law_way" 3 5 t9 qq ua
 lam : Kg X CL "#_law_ways.<locals>.<lambda>" "_law_ways.<locals>.<lambda>"
 dp : X.A.depth < recursionLimit
 rm : eN 3 X.A
theorem VL {X : Cx} {CL : Str -> Addr} {b : Bx} (E : VH X CL) (s ops m bs th) (h : lS (s, ops, m, bs, th)) :
   aA X CL b zo ["script", "opens", "many", "boxes", "three", "ways"] (qu (s, ops, m, bs, th)) (qv (s, ops, m, bs, th)) := by
 dsimp only [aA, lS, qu, qv] at h ⊢
 obtain ⟨hs, hm, ho, hb, h3, HV, dw⟩ := h
 have abS : cutD (s.map L3.D.int) none (some 63) = s.map L3.D.int := O7 (k := 63) (by simpa using hs)
 have DC := fun c : Int => KD (ops := ops) (m := m) (bs := bs) (th := th) hm ho HV dw h3 c
 refine oH (p := fun _ => true) (gg := fun d => T.sh (dJ (KC ops m bs th d.wg))) E.g E.cN (cF (.cons E.aU.1 (.inl E.qw) (.cons E.fW.1 (.inl E.VJ) (.cons E.aM.1 (.inl E.zq) (.cons E.gB.1 (.inl E.O8) .nil)))) (by decide +kernel)) (ji (pU (aV (BV (aJ E.bH) (cB _) yx (yy (ah aj))) (t2 := .lst ((s.map L3.D.int).map T.sh)) (by rw [abS])))) (.inr rfl) (fun C s0 H0 f0 b' d hd => ?Cv) (af9 (cu (by simp; omega))) ?rest (by exact afh rfl) (iK ⟨_, rfl⟩)
 case Cv =>
   obtain ⟨c, hc, rfl⟩ := afC.mp hd
   exact ⟨rfl, fun _ => aV (c_ ((c, ops, m, bs, th)) (pO E.YQ) (ku (by decide +kernel)) (ai (ah (v_ (eG (i := 0) rfl (by decide +kernel)))) (ai (ah (v_ (gw (i := 3) rfl (by decide +kernel)))) (ai (ah (v_ (gw (i := 2) rfl (by decide +kernel)))) (ai (ah (v_ (gw (i := 1) rfl (by decide +kernel)))) (ai (ah (v_ (gw (i := 4) rfl (by decide +kernel)))) aK))))) (by dsimp only [qq]; exact (⟨hm, ho, hb, h3⟩)) ((DC c).jg)) rfl⟩
 case rest =>
 have em : ((s.map L3.D.int).filter fun _ => true).map (fun d => T.sh (dJ (KC ops m bs th d.wg))) = ((s.map (KC ops m bs th)).map dJ).map T.sh := by
   rw [gF, afR, afR, afR]
   rfl
 rw [em]
 refine aY (aV (uQ (y := "way") (g := fun d => d.at1.wg) E.lam E.g E.dp E.vq E.vp (cF .nil (by decide +kernel)) (vL E.cN.1) (kB fun d hd => ?jg) (by simp; omega) (fun f c s0 H0 b' d hd => ?key)) ?eq) rfl
 case jg =>
   obtain ⟨w, hw, rfl⟩ := afC.mp hd
   obtain ⟨c, _, rfl⟩ := afC.mp hw
   exact (DC c).jg
 case key =>
   obtain ⟨w, hw, rfl⟩ := afC.mp hd
   exact bC (ah (v_ (Km (i := 0) rfl (by decide +kernel)))) (ah aj) rfl
 case eq =>
   rw [jR]
   rfl
theorem fZ : jO (ao zo) ([("script", av), ("opens", .cell), ("many", .cell), ("boxes", .cell), ("three", .cell), ("ways", av), ("sorted", aB)]) = true := by decide +kernel
theorem Gm : aL ["script", "opens", "many", "boxes", "three", "ways"] ["script", "opens", "many", "boxes", "three"] (ao zo) := aW
noncomputable abbrev ja : Stmt := inClass (top 6) 0
noncomputable abbrev lT : Type := List Str × List Int × List Int
noncomputable def oj : lT -> List L3.D := fun (ks, es, ss) => [.lst (ks.map .str), .lst (es.map .int), .lst (ss.map .int)]
noncomputable def om : lT -> Prop := fun (ks, es, ss) => True
noncomputable def oq : lT -> List (Str × T) := fun (ks, es, ss) => (lP ks es ss : List (Str × T))
structure CJ (X : Cx) (CL : Str -> Addr) : Prop extends cy X where
 jr : Ln X 0 "self"
 kJ : Ln X 1 "kinds"
 cC : Ln X 2 "elders"
 jV : Ln X 3 "starts"
 dh : Gl X "list"
 di : X.mg "list" = none
 f6 : wc X.K (CL "Tree")
 f7 : bB X.K (CL "Tree") "kinds"
 eF : bB X.K (CL "Tree") "elders"
 jt : bB X.K (CL "Tree") "starts"
theorem CK {X : Cx} {CL : Str -> Addr} {b : Bx} (E : CJ X CL) (ks : List Str) (es ss : List Int) (y : Addr) (h : True) :
   eO X CL b (fu ja) (JZ ["self", "kinds", "elders", "starts"] y "Tree" [.lst (ks.map .str), .lst (es.map .int), .lst (ss.map .int)]) { nx := fun δ => δ[0]? = some (some (.pin y (.ins "Tree" (lP ks es ss)))), rt := fun _ _ => False } := by
 have hi : D.bN (ks.map L3.D.str) = true := iN (fun _ => rfl) _
 refine pR E.f6 E.f7 E.jr.1 (cS E.di (aJ E.kJ) hi E.dh bG) rfl (afh rfl) ?_
 rw [fS]
 refine pR E.f6 E.eF E.jr.1 (cS E.di (aJ E.cC) (cB _) E.dh bG) rfl (afh rfl) ?_
 rw [bK (by decide +kernel), fS]
 refine pR E.f6 E.jt E.jr.1 (cS E.di (aJ E.jV) (cB _) E.dh bG) rfl (afh rfl) ?_
 rw [bK (by decide +kernel), bK (by decide +kernel), fS]
 exact au rfl
theorem f9 : jO (ao ja) ([("self", av), ("kinds", av), ("elders", av), ("starts", av), ("list", aB)]) = true := by decide +kernel
theorem qx : aL ["self", "kinds", "elders", "starts"] ["self", "kinds", "elders", "starts"] (ao ja) := aW
noncomputable abbrev gY : Stmt := inClass (top 4) 0
noncomputable abbrev kN : Type := List L3.D × List L3.D × V × List L3.D × List L3.D × List L3.D
noncomputable def lU : kN -> List L3.D := fun (bs, nm, tv, is, os, ws) => [.lst bs, .lst nm, .val tv, .lst is, .lst os, .lst ws]
noncomputable def lV : kN -> Prop := fun (bs, nm, tv, is, os, ws) => D.bN bs = true /\ D.bN nm = true /\ D.bN is = true /\ D.bN os = true /\ D.bN ws = true
noncomputable def lW : kN -> List (Str × T) := fun (bs, nm, tv, is, os, ws) => (iP bs nm (.sh (.val tv)) is os ws : List (Str × T))
structure zu (X : Cx) (CL : Str -> Addr) : Prop extends cy X where
 jr : Ln X 0 "self"
 aU : Ln X 1 "boxes"
 nj : Ln X 2 "names"
 gO : Ln X 3 "tree"
 YR : Ln X 4 "ins"
 VM : Ln X 5 "outs"
 cN : Ln X 6 "ways"
 dh : Gl X "list"
 di : X.mg "list" = none
 cO : wc X.K (CL "Chart")
 wK : bB X.K (CL "Chart") "boxes"
 wL : bB X.K (CL "Chart") "names"
 d8 : bB X.K (CL "Chart") "tree"
 CM : bB X.K (CL "Chart") "ins"
 zv : bB X.K (CL "Chart") "outs"
 dB : bB X.K (CL "Chart") "ways"
theorem zx {X : Cx} {CL : Str -> Addr} {b : Bx} (E : zu X CL) (bs nm : List L3.D) (tv : V) (is os ws : List L3.D) (y : Addr) (h : D.bN bs = true /\ D.bN nm = true /\ D.bN is = true /\ D.bN os = true /\ D.bN ws = true) :
   eO X CL b (fu gY) (JZ ["self", "boxes", "names", "tree", "ins", "outs", "ways"] y "Chart" [.lst bs, .lst nm, .val tv, .lst is, .lst os, .lst ws]) { nx := fun δ => δ[0]? = some (some (.pin y (.ins "Chart" (iP bs nm (.sh (.val tv)) is os ws)))), rt := fun _ _ => False } := by
 obtain ⟨h1, h2, h3, h4, h5⟩ := h
 refine pR E.cO E.wK E.jr.1 (cS E.di (aJ E.aU) h1 E.dh bG) rfl (afh rfl) ?_
 rw [fS]
 refine pR E.cO E.wL E.jr.1 (cS E.di (aJ E.nj) h2 E.dh bG) rfl (afh rfl) ?_
 rw [bK (by decide +kernel), fS]
 refine pR E.cO E.d8 E.jr.1 (v_ E.gO.1) rfl (afh rfl) ?_
 rw [bK (by decide +kernel), bK (by decide +kernel), fS]
 refine pR E.cO E.CM E.jr.1 (cS E.di (aJ E.YR) h3 E.dh bG) rfl (afh rfl) ?_
 rw [bK (by decide +kernel), bK (by decide +kernel), bK (by decide +kernel), fS]
 refine pR E.cO E.zv E.jr.1 (cS E.di (aJ E.VM) h4 E.dh bG) rfl (afh rfl) ?_
 rw [bK (by decide +kernel), bK (by decide +kernel), bK (by decide +kernel), bK (by decide +kernel), fS]
 refine pR E.cO E.dB E.jr.1 (cS E.di (aJ E.cN) h5 E.dh bG) rfl (afh rfl) ?_
 rw [bK (by decide +kernel), bK (by decide +kernel), bK (by decide +kernel), bK (by decide +kernel), bK (by decide +kernel), fS]
 exact au rfl
theorem cR : jO (ao gY) ([("self", av), ("boxes", av), ("names", av), ("tree", av), ("ins", av), ("outs", av), ("ways", av), ("list", aB)]) = true := by decide +kernel
theorem ou : aL ["self", "boxes", "names", "tree", "ins", "outs", "ways"] ["self", "boxes", "names", "tree", "ins", "outs", "ways"] (ao gY) := aW
noncomputable def sI (k : Int) : Str := toString k
noncomputable def W3 (k : Nat) : Str := ("mood" : Str) ++ sI (k : Int)
noncomputable def oR (n : Nat) : List Str := (List.range n).map W3
noncomputable def W4 (k : Nat) : L3.D := .tup [.str (("box" : Str) ++ sI (k : Int)), .int ((k : Int) - 2)]
noncomputable def qy (n : Nat) : List L3.D := (List.range n).map W4
noncomputable def rO (n : Nat) : List L3.D := (List.replicate n [L3.D.tup []]).flatten
theorem rP (n : Nat) : D.bN (qy n) = true := iN (fun _ => rfl) _
theorem j5 (n : Nat) : D.bN (rO n) = true := kB fun d hd => by
 unfold rO at hd
 obtain ⟨l, hl, hd⟩ := List.mem_flatten.mp hd
 rw [(List.mem_replicate.mp hl).2] at hd
 rw [afD.mp hd]; rfl
theorem CN (k : Nat) (h : k <= 40) : (k : Int).natAbs.log2 < 1920 /\ (toString (k : Int) : Str).length <= 50 /\ PyData.strOk (toString (k : Int) : Str) = true := by
 have h2 : ((List.range 41).all fun k => decide ((k : Int).natAbs.log2 < 1920) && decide ((toString (k : Int) : Str).length <= 50) && PyData.strOk (toString (k : Int) : Str)) = true := by decide +kernel
 have := af6.mp h2 k (af5.mpr (by omega))
 simpa [Bool.and_eq_true, and_assoc] using this
theorem zy {bs nm is os ws : List L3.D} {t : T} (h1 : D.bN bs = true) (h2 : D.bN nm = true) (h3 : t.clean = true) (h4 : D.bN is = true) (h5 : D.bN os = true) (h6 : D.bN ws = true) : T.bf (iP bs nm t is os ws) = true := by
 unfold iP rD rE
 rw [afF, afF, agM, T.bf, T.bf, T.bf, T.bf, T.bf, T.bf, T.bf, bP h1, bP h2, h3, bP h4, bP h5, bP h6]
 rfl
noncomputable abbrev uc : Stmt := top 37
noncomputable abbrev zA : Type := List Str × List Int × List Int × List Int × List Int × List L3.D
noncomputable def nq : zA -> List L3.D := fun (ks, es, ss, oo, bs, ws) => [sN ks es ss oo, .lst (bs.map .int), .lst ws]
noncomputable def j6 : zA -> Prop := fun (ks, es, ss, oo, bs, ws) => es.length <= 40 /\ bs.length <= 40 /\ D.bN ws = true
noncomputable def nu : zA -> T := fun (ks, es, ss, oo, bs, ws) => (.ins "Chart" (iP (qy bs.length) ((oR es.length).map .str) (.ins "Tree" (lP ks es ss)) (rO es.length) (rO es.length) ws) : T)
structure O9 (X : Cx) (CL : Str -> Addr) : Prop extends cy X where
 bL : Ln X 0 "lists"
 aU : Ln X 1 "boxes"
 cN : Ln X 2 "ways"
 Gn : Ln X 3 "named"
 nj : Ln X 4 "names"
 gO : Ln X 5 "tree"
 cL : Gl X "range"
 cX : Gl X "len"
 VN : Gl X "Tree"
 dh : Gl X "list"
 Pa : Gl X "Chart"
 cM : X.mg "range" = none
 cY : X.mg "len" = none
 VP : Fm X CL "Tree" 1 4 oj om oq
 di : X.mg "list" = none
 Pb : Fm X CL "Chart" 1 7 lU lV lW
 SK : X.mg "str" = none
theorem Pg {X : Cx} {CL : Str -> Addr} {b : Bx} (E : O9 X CL) (ks es ss oo bs ws) (h : j6 (ks, es, ss, oo, bs, ws)) :
   aA X CL b uc ["lists", "boxes", "ways", "named", "names", "tree"] (nq (ks, es, ss, oo, bs, ws)) (nu (ks, es, ss, oo, bs, ws)) := by
 dsimp only [aA, j6, nq, nu] at h ⊢
 obtain ⟨hl, hb, iw⟩ := h
 refine oH (p := fun _ => true) (gg := fun d => T.sh (W4 d.wg.toNat)) E.g E.Gn (cF .nil (by decide +kernel)) (fj E.cM (ah (dz (afj ..) E.cY (aJ E.aU) E.cX)) (by omega) E.cL) (.inr rfl) (fun C s0 H0 f0 b' d hd => ?abT) (af9 (cu (by simp [bM]; omega))) ?YS (by exact afh rfl) (iK ⟨_, rfl⟩)
 case abT =>
   obtain ⟨i, hi, rfl⟩ := afC.mp hd
   have IU : i < bs.length := by simpa using hi
   obtain ⟨q1, q2, _⟩ := CN i (by omega)
   have ei : (0 + (i : Int)) = (i : Int) := agt _
   have et : (L3.D.int (0 + (i : Int))).wg.toNat = i := by show (0 + (i : Int)).toNat = i; omega
   refine ⟨rfl, fun _ => aV (cz (aH (lG (ah aX) (ah (FW E.SK (ku (by decide +kernel)) (ah (v_ (eG (i := 0) rfl (by decide +kernel)))) ((by rw [ei]; exact q1)))) ((by rw [ei, afP]; show 3 + (toString (i : Int) : Str).length <= _; omega))) (aH (lF (ah (v_ (eG (i := 0) rfl (by decide +kernel)))) (ah aj)) b9)) (aG rfl)) ?_⟩
   show T.sh _ = T.sh (W4 (L3.D.int (0 + (i : Int))).wg.toNat)
   rw [et]
   unfold W4
   rw [ei]
   rfl
 case YS =>
 have em0 : ((bM 0 (bs.length : Int).toNat).filter fun _ => true).map (fun d => T.sh (W4 d.wg.toNat)) = (qy bs.length).map T.sh := by
   rw [gF]
   unfold bM qy
   rw [afR, afR, afW]
   refine agc fun k _ => ?_
   show T.sh (W4 (0 + (k : Int)).toNat) = _
   rw [show (0 + (k : Int)).toNat = k by omega]
   rfl
 rw [em0]
 refine oH (p := fun _ => true) (gg := fun d => T.sh (.str (W3 d.wg.toNat))) E.g E.nj (cF .nil (by decide +kernel)) (fj E.cM (ah (dz (afj ..) E.cY (aR (aJ E.bL) (ah aj) rfl) E.cX)) (by omega) E.cL) (.inr rfl) (fun C s0 H0 f0 b' d hd => ?Cv) (af9 (cu (by simp [bM]; omega))) ?rest (by exact afh rfl) (iK ⟨_, rfl⟩)
 case Cv =>
   obtain ⟨i, hi, rfl⟩ := afC.mp hd
   have IU : i < es.length := by simpa using hi
   obtain ⟨q1, q2, _⟩ := CN i (by omega)
   have ei : (0 + (i : Int)) = (i : Int) := agt _
   have et : (L3.D.int (0 + (i : Int))).wg.toNat = i := by show (0 + (i : Int)).toNat = i; omega
   refine ⟨rfl, fun _ => aV (lG (ah aX) (ah (FW E.SK (ku (by decide +kernel)) (ah (v_ (eG (i := 0) rfl (by decide +kernel)))) ((by rw [ei]; exact q1)))) ((by rw [ei, afP]; show 4 + (toString (i : Int) : Str).length <= _; omega))) ?_⟩
   show T.sh _ = T.sh (.str (W3 (L3.D.int (0 + (i : Int))).wg.toNat))
   rw [et]
   unfold W3
   rw [ei]
   rfl
 case rest =>
 have em : ((bM 0 (es.length : Int).toNat).filter fun _ => true).map (fun d => T.sh (.str (W3 d.wg.toNat))) = ((oR es.length).map L3.D.str).map T.sh := by
   rw [gF]
   unfold bM oR
   rw [afR, afR, afR, afW]
   refine agc fun k _ => ?_
   show T.sh (.str (W3 (0 + (k : Int)).toNat)) = _
   rw [show (0 + (k : Int)).toNat = k by omega]
   rfl
 rw [em]
 refine aP E.g E.gO (aV (mk_ (ks, es, ss) E.VP E.VN (ai (b8 (cS E.di (aR (aJ E.bL) (ah aj) rfl) (jP _) E.dh bG)) (ai (b8 (cS E.di (aR (aJ E.bL) (ah aj) rfl) (cB _) E.dh bG)) (ai (b8 (cS E.di (aR (aJ E.bL) (ah aj) rfl) (cB _) E.dh bG)) aK))) trivial (sL ks es ss)) (t2 := .ins "Tree" (lP ks es ss)) rfl) ?_
 have Z8 : ((oR es.length).map L3.D.str).length = es.length := by simp [oR]
 have eun : ∀ n : Nat, (List.replicate ((n : Int).toNat) [L3.D.tup []]).flatten = rO n := fun n => by rw [afW]; rfl
 exact aY (mkP (f := "tree") (B4 := rD (qy bs.length) ((oR es.length).map .str)) (IV := rE (rO es.length) (rO es.length) ws) (fun v => (qy bs.length, (oR es.length).map .str, v, rO es.length, rO es.length, ws)) E.Pb E.Pa
   (B5 (vL E.Gn.1) (B5 (vL E.nj.1)
     (J9 (vM E.gO.1)
       (ai (b8 (aV (F0 (ds := [.tup []]) (b8 (ds := [.tup []]) (dF (fz (cz b9 (aG rfl)) dD) (aG rfl))) (ah (dz Z8 E.cY (vL E.nj.1) E.cX)) rfl (by omega) (by omega) (by rw [afW, afP]; show 1 * es.length <= _; omega)) (t2 := .lst ((rO es.length).map T.sh)) (by rw [eun])))
       (ai (b8 (aV (F0 (ds := [.tup []]) (b8 (ds := [.tup []]) (dF (fz (cz b9 (aG rfl)) dD) (aG rfl))) (ah (dz Z8 E.cY (vL E.nj.1) E.cX)) rfl (by omega) (by omega) (by rw [afW, afP]; show 1 * es.length <= _; omega)) (t2 := .lst ((rO es.length).map T.sh)) (by rw [eun])))
       (ai (b8 (cS E.di (aJ E.cN) iw E.dh bG)) aK))))))
   (fun v => rfl) (fun v => ⟨rP _, jP _, j5 _, j5 _, iw⟩) (fun v => rfl) (yM (rP _) (jP _)) (yN (j5 _) (j5 _) iw)) rfl
theorem eZ : jO (ao uc) ([("lists", av), ("boxes", av), ("ways", av), ("named", av), ("names", av), ("tree", av), ("range", aB), ("len", aB), ("Tree", aB), ("list", aB), ("Chart", aB)]) = true := by decide +kernel
theorem CP : aL ["lists", "boxes", "ways", "named", "names", "tree"] ["lists", "boxes", "ways"] (ao uc) := aW
noncomputable abbrev ny : Stmt := top 39
noncomputable abbrev rQ : Type := List iS × List Int
noncomputable def jb : rQ -> List L3.D := fun (l, ops) => [.tup (l.map ck), .lst (ops.map .int)]
noncomputable def gG : rQ -> Prop := fun (l, ops) => ∀ a ∈ l, a.Ot
noncomputable def jc : rQ -> T := fun (l, ops) => (.sh (.bl (gR ops (l.map ck))) : T)
structure Ig (X : Cx) (CL : Str -> Addr) : Prop extends cy X where
 gM : Ln X 0 "asks"
 aM : Ln X 1 "opens"
 cU : Ln X 2 "ask"
theorem Ih {X : Cx} {CL : Str -> Addr} {b : Bx} (E : Ig X CL) (l ops) (h : gG (l, ops)) :
   aA X CL b ny ["asks", "opens", "ask"] (jb (l, ops)) (jc (l, ops)) := by
 dsimp only [aA, gG, jb, jc] at h ⊢
 show eO X CL b _ _ { nx := _, rt := fun HB _ => HB = T.sh (.bl (gR ops (l.map ck))), bk := _, ct := _ }
 refine gQ E.g E.cU (fun j δ => ∃ o, (∀ d ∈ (l.map ck).take j, wI ops d = true) /\ δ = [some (.sh (.tup (l.map ck))), some (.sh (.lst (ops.map .int))), o])
   (uF (v_ E.gM.1)) ⟨_, fun x hx => by simp at hx, rfl⟩ (fun j δ ⟨_, _, e⟩ => by subst e; exact afh rfl) ?turn ?fin
 case turn =>
   rintro j d δ hj ⟨o, oG, rfl⟩
   have FZ : (l.map ck).take (j + 1) = (l.map ck).take j ++ [d] := by rw [af8, hj]; rfl
   have SM : d ∈ l.map ck := afM hj
   have no : wI ops d = false -> gR ops (l.map ck) = false := fun e => ag3.mpr ⟨d, SM, by rw [e]; decide⟩
   obtain ⟨a, ha, rfl⟩ := afC.mp SM
   have hk := h a ha
   have SN : wI ops (ck a) = true -> ∀ y ∈ (l.map ck).take (j + 1), wI ops y = true := fun e y hy => by
     rw [FZ] at hy
     rcases afm.mp hy with hy | hy
     . exact oG y hy
     . rw [afD.mp hy]; exact e
   cases a with
   | num mk b1 m1 b2 m2 =>
     obtain ⟨n1, n2⟩ := Ga hk
     refine c9 (lH (fH (q := false) (dY (bC (aJ E.cU) (ah aj) rfl) (ah aX)).1 (fun hb => absurd (afo hb) n1))) (fun hp => by simp at hp) (fun _ => au ?_)
     refine c9 (lH (fH (q := false) (dY (bC (aJ E.cU) (ah aj) rfl) (ah aX)).1 (fun hb => absurd (afo hb) n2))) (fun hp => by simp at hp) (fun _ => au (au ⟨_, SN rfl, rfl⟩))
   | n6 op m =>
     have hf := Cp ops op m
     refine c9 (lH (fH (dY (bC (aJ E.cU) (ah aj) rfl) (ah aX)).1 (fun _ => i7 (yz (bC (aJ E.cU) (ah aj) rfl) (aJ E.aM) rfl rfl).1))) (fun hp => ?_) (fun hp => au ?_)
     . have hp : (decide ((if op = true then ("open" : Str) else "shut") = "open") && !decide (m ∈ ops)) = true := hp
       refine aY i6 ?_
       rw [no]
       rw [hf]
       cases op with
       | false => exact absurd hp (by rw [show decide ((if false = true then ("open" : Str) else "shut") = "open") = false by decide +kernel]; simp)
       | true => rw [Bool.and_eq_true] at hp; simpa using hp.2
     have hp : (decide ((if op = true then ("open" : Str) else "shut") = "open") && !decide (m ∈ ops)) = false := hp
     refine c9 (lH (fH (dY (bC (aJ E.cU) (ah aj) rfl) (ah aX)).1 (fun _ => i7 (mK (bC (aJ E.cU) (ah aj) rfl) (aJ E.aM) rfl rfl).1))) (fun hq => ?_) (fun hq => au (au ⟨_, SN ?_, rfl⟩))
     . have hq : (decide ((if op = true then ("open" : Str) else "shut") = "shut") && decide (m ∈ ops)) = true := hq
       refine aY i6 ?_
       rw [no]
       rw [hf]
       cases op with
       | true => exact absurd hq (by rw [show decide ((if true = true then ("open" : Str) else "shut") = "shut") = false by decide +kernel]; simp)
       | false => rw [Bool.and_eq_true] at hq; simpa using hq.2
     . have hq : (decide ((if op = true then ("open" : Str) else "shut") = "shut") && decide (m ∈ ops)) = false := hq
       rw [hf]
       cases op with
       | true => rw [show decide ((if true = true then ("open" : Str) else "shut") = "open") = true by decide +kernel, Bool.true_and] at hp; simpa using hp
       | false => rw [show decide ((if false = true then ("open" : Str) else "shut") = "shut") = true by decide +kernel, Bool.true_and] at hq; simpa using hq
 case fin =>
   rintro δ ⟨o, oG, rfl⟩
   rw [aga] at oG
   refine aY i6 ?_
   rw [show gR ops (l.map ck) = true from af6.mpr oG]
theorem oS : jO (ao ny) ([("asks", av), ("opens", av), ("ask", av)]) = true := by decide +kernel
theorem vt : aL ["asks", "opens", "ask"] ["asks", "opens"] (ao ny) := aW
noncomputable abbrev zB : Stmt := top 40
noncomputable abbrev Ea : Type := List dZ × List Int × List Int × Str
noncomputable def qz : Ea -> List L3.D := fun (ws, ops, ln, sg) => [.lst (ws.map dJ), .lst (ops.map .int), .lst (ln.map .int), .str sg]
noncomputable def lX : Ea -> Prop := fun (ws, ops, ln, sg) => ws.length <= 63 /\ ln.length <= 1000 /\ DZ ws
noncomputable def lY : Ea -> T := fun (ws, ops, ln, sg) => (.lst (((gsW ws ops sg ln).map .int).map T.sh) : T)
structure VQ (X : Cx) (CL : Str -> Addr) : Prop extends cy X where
 cN : Ln X 0 "ways"
 aM : Ln X 1 "opens"
 nA : Ln X 2 "chain"
 gb : Ln X 3 "sign"
 bw : Ln X 4 "found"
 jo : Ln X 5 "mood"
 lu : Ln X 6 "k"
 cL : Gl X "range"
 cX : Gl X "len"
 CQ : Gl X "_law_fits"
 cM : X.mg "range" = none
 cY : X.mg "len" = none
 Ii : Fc X CL "_law_fits" 1 2 jb gG jc
theorem VR {X : Cx} {CL : Str -> Addr} {b : Bx} (E : VQ X CL) (ws ops ln sg) (h : lX (ws, ops, ln, sg)) :
   aA X CL b zB ["ways", "opens", "chain", "sign", "found", "mood", "k"] (qz (ws, ops, ln, sg)) (lY (ws, ops, ln, sg)) := by
 dsimp only [aA, lX, qz, lY] at h ⊢
 obtain ⟨FJ, hll, MC⟩ := h
 have hlen : (ws.map dJ).length = ws.length := by simp
 refine aP E.g E.bw (dF dD (afG _)) ?_
 have aI : ∀ (l : List Int) (x : Int), (l.map L3.D.int).map T.sh ++ [T.sh (.int x)] = ((l ++ [x]).map L3.D.int).map T.sh := by intros; simp
 have SD : ∀ j, ((ln.take j).flatMap fun m => DX ws ops sg m ws.length).length <= 63 * j := fun j => by
   induction j with
   | zero => simp
   | succ j ih =>
     by_cases hj : j < ln.length
     . rw [af8, afc hj, agX, afy]
       have := Gb ws ops sg ln[j] ws.length
       simp only [Option.toList, agu, List.flatMap_nil, afQ]
       omega
     . rw [agO (by omega)]
       rw [agO (by omega)] at ih
       omega
 refine gQ E.g E.jo (fun j δ => ∃ o5 o6, δ = [some (.sh (.lst (ws.map dJ))), some (.sh (.lst (ops.map .int))), some (.sh (.lst (ln.map .int))), some (.sh (.str sg)), some (.lst ((((ln.take j).flatMap fun m => DX ws ops sg m ws.length).map .int).map T.sh)), o5, o6])
   (ji (v_ E.nA.1)) ⟨_, _, rfl⟩ (fun j δ ⟨_, _, e⟩ => by subst e; exact afh rfl) ?turn ?fin
 case turn =>
   rintro j d δ hj ⟨o5, o6, rfl⟩
   obtain ⟨m, rfl, hx, hxm, Dj, _, FZ⟩ := rB hj
   have hj1 := SD j
   show eO X CL b _ _ { nx := fun δ => ∃ o5 o6, δ = [_, _, _, _, some (.lst ((((ln.take (j + 1)).flatMap fun m => DX ws ops sg m ws.length).map .int).map T.sh)), o5, o6], rt := _, bk := _, ct := _ }
   rw [FZ, agX, agu, List.flatMap_nil, afQ]
   generalize ((ln.take j).flatMap fun m => DX ws ops sg m ws.length) = fd at hj1 ⊢
   refine gQ E.g E.lu (fun i δ => ∃ o6, δ = [some (.sh (.lst (ws.map dJ))), some (.sh (.lst (ops.map .int))), some (.sh (.lst (ln.map .int))), some (.sh (.str sg)), some (.lst (((fd ++ DX ws ops sg m i).map .int).map T.sh)), some (.sh (.int m)), o6])
     (fj E.cM (ah (dz (hlen) E.cY (aJ E.cN) E.cX)) (by omega) E.cL) ⟨_, by rw [show DX ws ops sg m 0 = [] from rfl, afQ]; rfl⟩ (fun j δ ⟨_, e⟩ => by subst e; exact afh rfl) ?Lc ?fin2
   case Lc =>
     rintro i d δ hi ⟨o6, rfl⟩
     obtain ⟨rfl, W5⟩ := iL hi
     have W5 : i < ws.length := by simpa using W5
     rw [agt]
     obtain ⟨w, hw⟩ : ∃ w, ws.getD i w0 = w := ⟨_, rfl⟩
     have YT : w ∈ ws := by rw [← hw, afk, afc W5]; exact agq _
     obtain ⟨al, Bf, Ph⟩ := MC w YT
     have DP : sZ (ws.map dJ) (i : Int) = some (dJ w) := (iM (f := dJ) w0 (by omega) (by omega)).trans (by rw [afW, hw])
     have hgl := Gb ws ops sg m i
     show eO X CL b _ _ { nx := fun δ => ∃ o6, δ = [_, _, _, _, some (.lst (((fd ++ DX ws ops sg m (i + 1)).map .int).map T.sh)), _, o6], rt := _, bk := _, ct := _ }
     rw [KL, hw, ← afi]
     generalize DX ws ops sg m i = gm at hgl ⊢
     have abV : (fd ++ gm).length <= 70000 := by rw [afy]; omega
     generalize fd ++ gm = fe at abV ⊢
     refine c9 (lH (fH (fh (bC (aR (aJ E.cN) (aJ E.lu) DP) (ah aj) (dX (j := 0) rfl)) (aJ E.jo)).1 (fun _ => fH (dY (bC (aR (aJ E.cN) (aJ E.lu) DP) (ah aj) (dX (j := 1) rfl)) (aJ E.gb)).1 (fun _ => i7 (jM (aV (c_ (al, ops) E.Ii E.CQ (ai (xO (bC (aR (aJ E.cN) (aJ E.lu) DP) (ah aj) (dX (j := 2) rfl)) (congrArg L3.D.tup Bf)) (ai (aJ E.aM) aK)) (by dsimp only [gG]; exact Ph) rfl) (t2 := .sh (.bl (gR ops w.asks))) (by rw [Bf]; rfl))))))) (fun hp => ?_) (fun hp => au (au ?_))
     . have hp : (decide (w.src = m) && (decide (w.sign = sg) && gR ops w.asks)) = true := hp
       refine lg E.bw.1 rfl (v_ E.lu.1) rfl (by simp; omega) (au (au ?_))
       rw [aI, afa hp]
       exact ⟨_, rfl⟩
     . have hp : (decide (w.src = m) && (decide (w.sign = sg) && gR ops w.asks)) = false := hp
       rw [ae9 (by rw [hp]; decide), afQ]
       exact ⟨_, rfl⟩
   case fin2 =>
     rintro δ ⟨o6, rfl⟩
     rw [show (bM 0 (ws.length : Int).toNat).length = ws.length by simp [bM]]
     exact au ⟨_, _, rfl⟩
 case fin =>
   rintro δ ⟨o5, o6, rfl⟩
   rw [afj, aga]
   exact aY (vM E.bw.1) rfl
theorem gC : jO (ao zB) ([("ways", av), ("opens", av), ("chain", av), ("sign", av), ("found", av), ("mood", av), ("k", av), ("range", aB), ("len", aB), ("_law_fits", aB)]) = true := by decide +kernel
theorem Gp : aL ["ways", "opens", "chain", "sign", "found", "mood", "k"] ["ways", "opens", "chain", "sign"] (ao zB) := aW
noncomputable abbrev kO : Stmt := top 41
noncomputable abbrev oU : Type := List iS × List Int × Nat
noncomputable def gZ : oU -> List L3.D := fun (l, vs, n) => [.tup (l.map ck), .lst (vs.map .int)]
noncomputable def gf : oU -> Prop := fun (l, vs, n) => ∀ a ∈ l, a.Ok n vs
noncomputable def g6 : oU -> T := fun (l, vs, n) => (.sh (.bl ((l.map ck).all (hD vs))) : T)
structure Eb (X : Cx) (CL : Str -> Addr) : Prop extends cy X where
 gM : Ln X 0 "asks"
 aU : Ln X 1 "boxes"
 cU : Ln X 2 "ask"
 Ec : Gl X "_law_due"
 fY : Gl X "_law_worth"
 K8 : Fc X CL "_law_due" 1 3 qj qk ql
 qp : Fc X CL "_law_worth" 1 2 jZ j3 j4
theorem Ed {X : Cx} {CL : Str -> Addr} {b : Bx} (E : Eb X CL) (l vs n) (h : gf (l, vs, n)) :
   aA X CL b kO ["asks", "boxes", "ask"] (gZ (l, vs, n)) (g6 (l, vs, n)) := by
 dsimp only [aA, gf, gZ, g6] at h ⊢
 show eO X CL b _ _ { nx := _, rt := fun HB _ => HB = T.sh (.bl ((l.map ck).all (hD vs))), bk := _, ct := _ }
 refine gQ E.g E.cU (fun j δ => ∃ o, (∀ d ∈ (l.map ck).take j, hD vs d = true) /\ δ = [some (.sh (.tup (l.map ck))), some (.sh (.lst (vs.map .int))), o])
   (uF (v_ E.gM.1)) ⟨_, fun x hx => by simp at hx, rfl⟩ (fun j δ ⟨_, _, e⟩ => by subst e; exact afh rfl) ?turn ?fin
 case turn =>
   rintro j d δ hj ⟨o, oG, rfl⟩
   have FZ : (l.map ck).take (j + 1) = (l.map ck).take j ++ [d] := by rw [af8, hj]; rfl
   have SM : d ∈ l.map ck := afM hj
   have no : hD vs d = false -> (l.map ck).all (hD vs) = false := fun e => ag3.mpr ⟨d, SM, by rw [e]; decide⟩
   obtain ⟨a, ha, rfl⟩ := afC.mp SM
   have hk := h a ha
   have SN : hD vs (ck a) = true -> ∀ y ∈ (l.map ck).take (j + 1), hD vs y = true := fun e y hy => by
     rw [FZ] at hy
     rcases afm.mp hy with hy | hy
     . exact oG y hy
     . rw [afD.mp hy]; exact e
   cases a with
   | n6 op m =>
     refine c9 (yC (x := if op = true then "open" else "shut") (l := ["open", "shut"]) (bC (aJ E.cU) (ah aj) rfl) (ah (cz (aH aX (aH aX b9)) (aG rfl))) rfl rfl).1 (fun hp => absurd hp (by cases op <;> decide +kernel)) (fun _ => au (au ⟨_, SN rfl, rfl⟩))
   | num mk b1 m1 b2 m2 =>
     have hn : ∀ x ∈ rH, (!decide (x ∈ (["open", "shut"] : List Str))) = true := by decide +kernel
     refine c9 (yC (x := mk) (l := ["open", "shut"]) (bC (aJ E.cU) (ah aj) rfl) (ah (cz (aH aX (aH aX b9)) (aG rfl))) rfl rfl).1 (fun _ => ?_) (fun hp => absurd (hn mk hk.1) (by rw [hp]; decide))
     refine c9 (ko (jM (aV (c_ (mk, bE b1 m1 vs, bE b2 m2 vs) E.K8 E.Ec (ai (bC (aJ E.cU) (ah aj) rfl) (ai (ah (aV (c_ (b1, m1, vs) E.qp E.fY (ai (bC (aJ E.cU) (ah aj) rfl) (ai (aJ E.aU) aK)) hk.2.1 rfl) (t2 := .sh (.int (bE b1 m1 vs))) rfl)) (ai (ah (aV (c_ (b2, m2, vs) E.qp E.fY (ai (bC (aJ E.cU) (ah aj) rfl) (ai (aJ E.aU) aK)) hk.2.2 rfl) (t2 := .sh (.int (bE b2 m2 vs))) rfl)) aK))) trivial rfl) (t2 := .sh (.bl (fJ mk (bE b1 m1 vs) (bE b2 m2 vs)))) rfl))) (fun hp => ?_) (fun hp => au (au (au ⟨_, SN ?_, rfl⟩)))
     . refine aY i6 ?_
       rw [no]
       show fJ mk (bE b1 m1 vs) (bE b2 m2 vs) = false
       simpa using hp
     . show fJ mk (bE b1 m1 vs) (bE b2 m2 vs) = true
       simpa using hp
 case fin =>
   rintro δ ⟨o, oG, rfl⟩
   rw [aga] at oG
   refine aY i6 ?_
   rw [show (l.map ck).all (hD vs) = true from af6.mpr oG]
theorem gH : jO (ao kO) ([("asks", av), ("boxes", av), ("ask", av), ("_law_due", aB), ("_law_worth", aB)]) = true := by decide +kernel
theorem sP : aL ["asks", "boxes", "ask"] ["asks", "boxes"] (ao kO) := aW
noncomputable abbrev kP : Stmt := top 42
noncomputable abbrev oV : Type := List Str × List Int × List Int × List Int × List dZ × List Int × List Int × Str
noncomputable def g7 : oV -> List L3.D := fun (ks, es, ss, oo, ws, ops, vs, sg) => [sN ks es ss oo, .lst (ws.map dJ), .lst (ops.map .int), .lst (vs.map .int), .str sg]
noncomputable def gi : oV -> Prop := fun (ks, es, ss, oo, ws, ops, vs, sg) => iO es /\ es.length <= 900 /\ ks.length = es.length /\ ws.length <= 63 /\ ops.length <= 1000 /\ (∀ x ∈ ops, 0 <= x /\ x < es.length) /\ kE es.length vs ws
noncomputable def g8 : oV -> T := fun (ks, es, ss, oo, ws, ops, vs, sg) => (.lst (((u9 ws ops vs sg es (mO ks ops)).map .int).map T.sh) : T)
structure Ef (X : Cx) (CL : Str -> Addr) : Prop extends cy X where
 bL : Ln X 0 "lists"
 cN : Ln X 1 "ways"
 Eg : X.env.kindOf "ways" = some .cell
 aM : Ln X 2 "opens"
 aU : Ln X 3 "boxes"
 qw : X.env.kindOf "boxes" = some .cell
 gb : Ln X 4 "sign"
 bw : Ln X 5 "found"
 ju : Ln X 6 "leaf"
 nA : Ln X 7 "chain"
 qA : Ln X 8 "ready"
 kI : Gl X "_law_chain"
 CT : Gl X "_law_goes"
 yZ : Fc X CL "_law_chain" 1 2 jT iC jU
 VW : Fc X CL "_law_goes" 2 4 qz lX lY
 Eh : Fc X CL "_law_holds" 2 2 gZ gf g6
theorem Ei {X : Cx} {CL : Str -> Addr} {b : Bx} (E : Ef X CL) (ks es ss oo ws ops vs sg) (h : gi (ks, es, ss, oo, ws, ops, vs, sg)) :
   aA X CL b kP ["lists", "ways", "opens", "boxes", "sign", "found", "leaf", "chain", "ready"] (g7 (ks, es, ss, oo, ws, ops, vs, sg)) (g8 (ks, es, ss, oo, ws, ops, vs, sg)) := by
 dsimp only [aA, gi, g7, g8] at h ⊢
 obtain ⟨ht, hl, hk, FJ, MF, ho, MC⟩ := h
 refine aP E.g E.bw (dF dD (afG _)) ?_
 have aI : ∀ (l : List Int) (x : Int), (l.map L3.D.int).map T.sh ++ [T.sh (.int x)] = ((l ++ [x]).map L3.D.int).map T.sh := by intros; simp
 refine gQ E.g E.ju (fun j δ => ∃ o6 o7 o8, δ = [some (.sh (sN ks es ss oo)), some (.sh (.lst (ws.map dJ))), some (.sh (.lst (ops.map .int))), some (.sh (.lst (vs.map .int))), some (.sh (.str sg)), some (.lst (((u9 ws ops vs sg es (mO ks (ops.take j))).map .int).map T.sh)), o6, o7, o8])
   (ji (v_ E.aM.1)) ⟨_, _, _, rfl⟩ (fun j δ ⟨_, _, _, e⟩ => by subst e; exact afh rfl) ?turn ?fin
 case turn =>
   rintro j d δ hj ⟨o6, o7, o8, rfl⟩
   obtain ⟨x, rfl, _, hxm, Dj, _, FZ⟩ := rB hj
   obtain ⟨x0, x1⟩ := ho x hxm
   have sy := tS ws ops vs sg es (mO ks (ops.take j))
   have YV : (mO ks (ops.take j)).length <= 1000 := by
     have h1 := agg (HY ks) (ops.take j)
     have h2 : (ops.take j).length <= ops.length := by rw [agU]; omega
     unfold mO
     omega
   have hlv : mO ks (ops.take (j + 1)) = mO ks (ops.take j) ++ (if HY ks x = true then [x] else []) := by
     unfold mO
     rw [FZ, agB, List.filter_cons, agZ]
   show eO X CL b _ _ { nx := fun δ => ∃ o6 o7 o8, δ = [_, _, _, _, _, some (.lst (((u9 ws ops vs sg es (mO ks (ops.take (j + 1)))).map .int).map T.sh)), o6, o7, o8], rt := _, bk := _, ct := _ }
   rw [hlv]
   generalize mO ks (ops.take j) = ll at sy YV ⊢
   refine c9 (dY (aR (aR (aJ E.bL) (ah aj) rfl) (aJ E.ju) (iM Str.empty x0 (by omega))) (ah aX)).1 (fun hp => ?leaf) (fun hp => au (au ?other))
   case other =>
     have hp : HY ks x = false := hp
     rw [ae9 (by rw [hp]; decide), afQ]
     exact ⟨_, _, _, rfl⟩
   case leaf =>
   have hp : HY ks x = true := hp
   rw [afa hp, Cr]
   generalize u9 ws ops vs sg es ll = acc at sy ⊢
   have hcl : (fB es x).length <= es.length + 1 := pX _ _ _
   refine aP E.g E.nA (aV (tO (ds := [.int x]) (Hi := (fB es x).map .int) (b8 (ds := [.int x]) (dF (fz (v_ E.ju.1) dD) (aG rfl))) (b8 (c_ (es, x) E.yZ E.kI (ai (aR (aJ E.bL) (ah aj) rfl) (ai (aJ E.ju) aK)) (by dsimp only [iC]; exact ⟨ht, x0, x1, by omega⟩) (bO _))) rfl (cB _) (Nat.le_of_lt (cu (by simp; omega)))) (t2 := .lst (((x :: fB es x).map .int).map T.sh)) rfl) ?_
   have Sx := go_eq (ws := ws) (ops := ops) (sg := sg) (DY ht x0 x1)
   have hgl := Ov ws ops sg (x :: fB es x)
   have hp1 : SJ ws ops vs sg es acc x = match (DW ws ops sg (x :: fB es x)).filter (fun k => Dl vs (ws.getD k.toNat w0)) with | [] => acc | k :: _ => u6 acc k := rfl
   rw [hp1]
   have YW : ∀ {k : Int}, k ∈ DW ws ops sg (x :: fB es x) -> 0 <= k /\ k < ws.length := fun h => Gd h
   have NT : lY (ws, ops, x :: fB es x, sg) = T.lst (((DW ws ops sg (x :: fB es x)).map .int).map T.sh) := by rw [Sx]; rfl
   generalize DW ws ops sg (x :: fB es x) = go at hgl YW NT ⊢
   refine oH (p := fun d => Dl vs (ws.getD d.wg.toNat w0)) (gg := fun d => T.sh d) E.g E.qA (cF (.cons E.aU.1 (.inl E.qw) (.cons E.cN.1 (.inl E.Eg) .nil)) (by decide +kernel)) (ji (pU (ds := go.map .int) (aV (c_ (ws, ops, x :: fB es x, sg) E.VW E.CT (ai (aJ E.cN) (ai (aJ E.aM) (ai (vL E.nA.1) (ai (aJ E.gb) aK)))) (by dsimp only [lX]; exact ⟨FJ, by rw [List.length_cons]; omega, MC.ok⟩) (by rw [NT]; exact bO _)) NT))) (.inr rfl) (fun C s0 H0 f0 b' d hd => ?Cv) (Nat.le_of_lt (cu (by rw [List.length_map]; omega))) ?rest (by exact Nat.le_of_ble_eq_true rfl) (iK ⟨_, rfl⟩)
   case Cv =>
     obtain ⟨k, hkm, rfl⟩ := afC.mp hd
     obtain ⟨k0, k1⟩ := YW hkm
     have YT : ws.getD k.toNat w0 ∈ ws := by rw [afk, afc (by omega)]; exact agq _
     obtain ⟨al, Bf, DC, Ph⟩ := MC _ YT
     have ZN : Dl vs (ws.getD k.toNat w0) = (al.map ck).all (hD vs) := by unfold Dl; rw [Bf]
     refine ⟨jM (aV (c_ (al, vs, es.length) (pO E.Eh) (ku (by decide +kernel)) (ai (xO (bC (aR (ah (v_ (gw (i := 2) rfl (by decide +kernel)))) (ah (v_ (eG (i := 0) rfl (by decide +kernel)))) (iM (f := dJ) w0 k0 k1)) (ah aj) (dX (j := 2) rfl)) (congrArg L3.D.tup Bf)) (ai (ah (v_ (gw (i := 1) rfl (by decide +kernel)))) aK)) (by dsimp only [gf]; exact Ph) rfl) (t2 := .sh (.bl (Dl vs (ws.getD k.toNat w0)))) (congrArg (fun z => T.sh (.bl z)) ZN.symm)), fun _ => v_ (eG (i := 0) rfl (by decide +kernel))⟩
   case rest =>
   have efl : (((go.map L3.D.int).filter fun d => Dl vs (ws.getD d.wg.toNat w0)).map fun d => T.sh d) = ((go.filter fun k => Dl vs (ws.getD k.toNat w0)).map L3.D.int).map T.sh := by
     rw [List.filter_map]
     rfl
   rw [efl]
   have SD : (go.filter fun k => Dl vs (ws.getD k.toNat w0)).length <= 63 := afU (agg _ _) (by omega)
   generalize (go.filter fun k => Dl vs (ws.getD k.toNat w0)) = fl at SD ⊢
   cases fl with
   | nil =>
     refine c9 (lH (fH (q := false) (q8 E.u (vL E.qA.1) (b8 (ds := []) (dF dD (afG _))) (dO _) (dO [])).1 (fun hb => ?_))) (fun hp => by simp at hp) (fun _ => au (au (au ⟨_, _, _, rfl⟩)))
     have : Dh (.lst (([] : List Int).map L3.D.int)) (.lst []) = true := lJ (dO [])
     rw [this] at hb
     cases hb
   | cons k fl =>
     dsimp only
     refine c9 (lH (fH (q8 E.u (vL E.qA.1) (b8 (ds := []) (dF dD (afG _))) (dO _) (dO [])).1 (fun _ => i7 (yz (i := k) (aR (vL E.qA.1) (ah aj) (dX (j := 0) rfl)) (vL E.bw.1) rfl rfl).1))) (fun hp => ?_) (fun hp => au (au (au ?_)))
     . have e1 : Dh (.lst ((k :: fl).map L3.D.int)) (.lst []) = false := rfl
       rw [e1] at hp
       have hp : (!decide (k ∈ acc)) = true := hp
       have hn : ¬ k ∈ acc := by simpa using hp
       refine lg E.bw.1 rfl (cE (aR (vL E.qA.1) (ah aj) (dX (j := 0) rfl)) rfl) rfl (by simp; omega) (au (au (au ?_)))
       rw [aI, show u6 acc k = acc ++ [k] by unfold u6; rw [ae9 hn]]
       exact ⟨_, _, _, rfl⟩
     . have e1 : Dh (.lst ((k :: fl).map L3.D.int)) (.lst []) = false := rfl
       rw [e1] at hp
       have hp : (!decide (k ∈ acc)) = false := hp
       have hn : k ∈ acc := by simpa using hp
       rw [show u6 acc k = acc by unfold u6; rw [afa hn]]
       exact ⟨_, _, _, rfl⟩
 case fin =>
   rintro δ ⟨o6, o7, o8, rfl⟩
   rw [afj, aga]
   exact aY (vM E.bw.1) rfl
theorem bS : jO (ao kP) ([("lists", av), ("ways", .cell), ("opens", av), ("boxes", .cell), ("sign", av), ("found", av), ("leaf", av), ("chain", av), ("ready", av), ("_law_chain", aB), ("_law_goes", aB)]) = true := by decide +kernel
theorem sQ : aL ["lists", "ways", "opens", "boxes", "sign", "found", "leaf", "chain", "ready"] ["lists", "ways", "opens", "boxes", "sign"] (ao kP) := aW
noncomputable abbrev ud : Stmt := top 19
noncomputable abbrev zC : Type := Int
noncomputable def nB : zC -> List L3.D := fun i => [.int i]
noncomputable def nE : zC -> Prop := fun i => True
noncomputable def nF : zC -> T := fun i => (.sh (.bl true) : T)
structure Pj (X : Cx) (CL : Str -> Addr) : Prop extends cy X where
 bw : Ln X 0 "found"
 g9 : Gl X "isinstance"
 K6 : Gl X "int"
 g_bool : Gl X "bool"
 ia : X.mg "isinstance" = none
 K7 : X.mg "int" = none
 VX : X.mg "bool" = none
theorem Pk {X : Cx} {CL : Str -> Addr} {b : Bx} (E : Pj X CL) (i) (h : nE i) :
   aA X CL b ud ["found"] (nB i) (nF i) := by
 dsimp only [aA, nE, nB, nF] at h ⊢
 exact aY (UE (isI E.ia E.K7 E.g9 E.K6 (aJ E.bw)) (fun _ => UD (UG (isB E.ia E.VX E.g9 E.g_bool (aJ E.bw))))) rfl
theorem qB : jO (ao ud) ([("found", av), ("isinstance", aB), ("int", aB), ("bool", aB)]) = true := by decide +kernel
theorem CV : aL ["found"] ["found"] (ao ud) := aW
noncomputable abbrev s_same : Stmt := top 23
noncomputable abbrev Ej : Type := List Int × List Int
noncomputable def qC : Ej -> List L3.D := fun (xs, ys) => [.lst (xs.map .int), .lst (ys.map .int)]
noncomputable def qD : Ej -> Prop := fun (xs, ys) => ys.length <= 100
noncomputable def qE : Ej -> T := fun (xs, ys) => (.sh (.bl (decide (xs = ys))) : T)
structure VY (X : Cx) (CL : Str -> Addr) : Prop extends cy X where
 bw : Ln X 0 "found"
 qF : Ln X 1 "due"
 lu : Ln X 2 "k"
 g9 : Gl X "isinstance"
 dh : Gl X "list"
 cX : Gl X "len"
 cL : Gl X "range"
 zE : Gl X "_law_whole"
 ia : X.mg "isinstance" = none
 di : X.mg "list" = none
 cY : X.mg "len" = none
 cM : X.mg "range" = none
 Pn : Fc X CL "_law_whole" 1 1 nB nE nF
theorem VZ {X : Cx} {CL : Str -> Addr} {b : Bx} (E : VY X CL) (xs ys) (h : qD (xs, ys)) :
   aA X CL b s_same ["found", "due", "k"] (qC (xs, ys)) (qE (xs, ys)) := by
 dsimp only [aA, qD, qC, qE] at h ⊢
 have hlen : ∀ l : List Int, (l.map L3.D.int).length = l.length := fun l => by simp
 refine c9 (lH (BK (ko (jM (isL E.ia E.di E.g9 E.dh (aJ E.bw)))) (fun _ => yr (qX (ah (pM E.cY (aJ E.bw) E.cX)) (ah (pM E.cY (aJ E.qF) E.cX))).1))) (fun hp => ?_) (fun hp => ?_)
 . refine aY i6 ?_
   have oG : xs.length ≠ ys.length := by
     intro e
     simp [hlen, e] at hp
   show T.sh _ = T.sh (.bl (decide (xs = ys)))
   rw [afY (fun e => oG (by rw [e]))]
 . have he : xs.length = ys.length := by
     simp [hlen] at hp
     exact_mod_cast hp
   refine au ?_
   refine gQ E.g E.lu (fun j δ => (∃ o, δ = [some (.sh (.lst (xs.map .int))), some (.sh (.lst (ys.map .int))), o]) /\ xs.take j = ys.take j)
     (fj E.cM (ah (pM E.cY (aJ E.qF) E.cX)) (by rw [hlen]; omega) E.cL) ⟨⟨_, rfl⟩, rfl⟩ (fun j δ ⟨⟨o, e⟩, _⟩ => by subst e; exact afh rfl) ?_ ?_
   . rintro j d δ hj ⟨⟨o, rfl⟩, hp⟩
     obtain ⟨rfl, Dj⟩ := iL hj
     have Dj : j < ys.length := by simpa using Dj
     rw [agt]
     refine c9 (lH (BK (ko (jM (c_ (xs.getD ((j : Int)).toNat 0) E.Pn E.zE (ai (aR (aJ E.bw) (aJ E.lu) (eU (bs := xs) (k := (j : Int)) (by omega) (by omega))) aK) trivial rfl))) (fun _ => yr (qX (aR (aJ E.bw) (aJ E.lu) (eU (by omega) (by omega))) (aR (aJ E.qF) (aJ E.lu) (eU (by omega) (by omega)))).1))) (fun hq => ?_) (fun hq => ?_)
     . refine aY i6 ?_
       show T.sh _ = T.sh (.bl (decide (xs = ys)))
       rw [afY]
       intro e
       subst e
       simp at hq
     . refine au (au ⟨⟨_, rfl⟩, ?_⟩)
       rw [af8, af8, hp]
       congr 1
       simp at hq
       rw [afc (by omega), afc Dj] at hq ⊢
       simpa using hq
   . rintro δ ⟨⟨o, rfl⟩, hp⟩
     refine aY i6 ?_
     show T.sh _ = T.sh (.bl (decide (xs = ys)))
     have : xs = ys := by
       have e : (bM 0 (((ys.map L3.D.int).length : Int)).toNat).length = ys.length := by simp [bM]
       rw [e, aga] at hp
       rw [← hp, agO (by omega)]
     rw [agw this]
theorem jd : jO (ao s_same) ([("found", av), ("due", av), ("k", av), ("isinstance", aB), ("list", aB), ("len", aB), ("range", aB), ("_law_whole", aB)]) = true := by decide +kernel
theorem Gq : aL ["found", "due", "k"] ["found", "due"] (ao s_same) := aW
noncomputable abbrev gD : Stmt := top 16
noncomputable abbrev jv : Type := List L3.D × List L3.D × List Str × List Int × List Int × List L3.D × List L3.D × List L3.D × List Int
noncomputable def fC : jv -> List L3.D := fun (bs, nm, ks, es, ss, is, os, ws, ops) => [jm bs nm (lq ks es ss) is os ws, .lst (ops.map .int)]
noncomputable def ef : jv -> Prop := fun (bs, nm, ks, es, ss, is, os, ws, ops) => ops.length <= 1000 /\ ∀ x ∈ ops, 0 <= x /\ x < ks.length
noncomputable def fD : jv -> T := fun (bs, nm, ks, es, ss, is, os, ws, ops) => (.lst (((mO ks ops).map .int).map T.sh) : T)
structure wM (X : Cx) (CL : Str -> Addr) : Prop extends cy X where
 cj : Ln X 0 "chart"
 qG : X.env.kindOf "chart" = some .cell
 aM : Ln X 1 "opens"
 cO : wc X.K (CL "Chart")
 f6 : wc X.K (CL "Tree")
 f7 : bB X.K (CL "Tree") "kinds"
 d8 : bB X.K (CL "Chart") "tree"
theorem wN {X : Cx} {CL : Str -> Addr} {b : Bx} (E : wM X CL) (bs nm ks es ss is os ws ops) (h : ef (bs, nm, ks, es, ss, is, os, ws, ops)) :
   aA X CL b gD ["chart", "opens"] (fC (bs, nm, ks, es, ss, is, os, ws, ops)) (fD (bs, nm, ks, es, ss, is, os, ws, ops)) := by
 dsimp only [aA, ef, fC, fD] at h ⊢
 obtain ⟨hl, ho⟩ := h
 refine aY (yH (p := fun d => HY ks d.wg) (g := fun d => T.sh d) (cF (.cons E.cj.1 (.inl E.qG) .nil) (by decide +kernel)) E.g.calm (ji (v_ E.aM.1)) (.inr rfl) (fun C s0 H0 f0 b' d hd => ?Cv) (Nat.le_of_lt (cu (by simpa using hl)))) ?eq
 case Cv =>
   obtain ⟨x, hx, rfl⟩ := afC.mp hd
   obtain ⟨x0, x1⟩ := ho x hx
   exact ⟨(dY (aR (jl (by exact E.f6) (by exact E.f7) (jl (by exact E.cO) (by exact E.d8) (ah (v_ (gw (i := 1) rfl (by decide +kernel)))) oK) uS) (ah (v_ (eG (i := 0) rfl (by decide +kernel)))) (iM Str.empty x0 x1)) (ah aX)).1, fun _ => v_ (eG (i := 0) rfl (by decide +kernel))⟩
 case eq =>
   unfold mO
   rw [List.filter_map, afR, afR]
   rfl
theorem iT : jO (ao gD) ([("chart", .cell), ("opens", av)]) = true := by decide +kernel
theorem lZ : aL ["chart", "opens"] ["chart", "opens"] (ao gD) := aW
noncomputable abbrev uf : Stmt := top 7
noncomputable abbrev zF : Type := List Str × List Int × List Int × Int
noncomputable def nG : zF -> List L3.D := fun (ks, es, ss, m) => [lq ks es ss, .int m]
noncomputable def j7 : zF -> Prop := fun (ks, es, ss, m) => iO es /\ 0 <= m /\ m < es.length /\ es.length <= 1000
noncomputable def nI : zF -> T := fun (ks, es, ss, m) => (.lst (((fB es m).map .int).map T.sh) : T)
structure Pp (X : Cx) (CL : Str -> Addr) : Prop extends cy X where
 gO : Ln X 0 "tree"
 jo : Ln X 1 "mood"
 bw : Ln X 2 "found"
 gX : Ln X 3 "elder"
 f6 : wc X.K (CL "Tree")
 eF : bB X.K (CL "Tree") "elders"
theorem Pq {X : Cx} {CL : Str -> Addr} {b : Bx} (E : Pp X CL) (ks es ss m) (h : j7 (ks, es, ss, m)) :
   aA X CL b uf ["tree", "mood", "found", "elder"] (nG (ks, es, ss, m)) (nI (ks, es, ss, m)) := by
 dsimp only [aA, j7, nG, nI] at h ⊢
 obtain ⟨ht, h0, h1, hlen⟩ := h
 refine aP E.g E.bw (dF dD (afG _)) ?_
 refine aP E.g E.gX (cE (aR (jl E.f6 E.eF (aJ E.gO) lO) (aJ E.jo) (eU h0 h1)) rfl) ?_
 have hm := ht.at h0 h1
 refine FU E.g (fun n δ => ∃ (k : Int) (l : List Int), δ = [some (.sh (lq ks es ss)), some (.sh (.int m)), some (.lst ((l.map .int).map T.sh)), some (.sh (.int k))] /\ -1 <= k /\ k < n /\ k < es.length /\ l ++ qU n es k = fB es m /\ l.length + n <= es.length + 1) (es.length + 1)
   ⟨es.getD m.toNat 0, [], rfl, hm.1, by omega, by omega, rfl, by simp⟩ ?_
 rintro n δ ⟨k, l, rfl, k0, k1, k2, k3, k4⟩
 refine ⟨_, _, (qX (aJ E.gX) (ah (gK (ah aj)))).1, fun hp => ?_, fun hp => ?_⟩
 . have hk : ¬ k = -1 := by simpa using hp
   have ha := ht.at (k := k) (by omega) k2
   cases n with
   | zero => omega
   | succ n =>
     refine lg E.bw.1 rfl (v_ E.gX.1) rfl (by simp; omega) ?_
     refine aP E.g E.gX (cE (aR (jl E.f6 E.eF (aJ E.gO) lO) (aJ E.gX) (eU (by omega) k2)) rfl) ?_
     refine au ⟨n, Nat.lt_succ_self _, es.getD k.toNat 0, l ++ [k], ?_, ha.1, by omega, by omega, ?_, by simp; omega⟩
     . show [_, _, some (T.lst (((l.map D.int).map T.sh) ++ [T.sh (.int k)])), _] = _
       simp
     . rw [← k3, qU, ae9 hk, afi]
       rfl
 . have hk : k = -1 := by simpa using hp
   subst hk
   have e : l = fB es m := by
     rw [← k3]
     cases n with
     | zero => rw [qU, afQ]
     | succ n => rw [qU, afa rfl, afQ]
   subst e
   exact aY (vM E.bw.1) rfl
theorem qH : jO (ao uf) ([("tree", av), ("mood", av), ("found", av), ("elder", av)]) = true := by decide +kernel
theorem CW : aL ["tree", "mood", "found", "elder"] ["tree", "mood"] (ao uf) := aW
noncomputable abbrev zG : Stmt := top 14
noncomputable abbrev Ek : Type := List iS × List Int
noncomputable def qI : Ek -> List L3.D := fun (l, ops) => [.tup (l.map ck), .lst (ops.map .int)]
noncomputable def mh : Ek -> Prop := fun (l, ops) => ∀ a ∈ l, a.Ot
noncomputable def qJ : Ek -> T := fun (l, ops) => (.sh (.bl (gR ops (l.map ck))) : T)
structure V0 (X : Cx) (CL : Str -> Addr) : Prop extends cy X where
 gM : Ln X 0 "asks"
 aM : Ln X 1 "opens"
 cU : Ln X 2 "ask"
theorem V1 {X : Cx} {CL : Str -> Addr} {b : Bx} (E : V0 X CL) (l ops) (h : mh (l, ops)) :
   aA X CL b zG ["asks", "opens", "ask"] (qI (l, ops)) (qJ (l, ops)) := by
 dsimp only [aA, mh, qI, qJ] at h ⊢
 show eO X CL b _ _ { nx := _, rt := fun HB _ => HB = T.sh (.bl (gR ops (l.map ck))), bk := _, ct := _ }
 refine gQ E.g E.cU (fun j δ => ∃ o, (∀ d ∈ (l.map ck).take j, wI ops d = true) /\ δ = [some (.sh (.tup (l.map ck))), some (.sh (.lst (ops.map .int))), o])
   (uF (v_ E.gM.1)) ⟨_, fun x hx => by simp at hx, rfl⟩ (fun j δ ⟨_, _, e⟩ => by subst e; exact afh rfl) ?turn ?fin
 case turn =>
   rintro j d δ hj ⟨o, oG, rfl⟩
   have FZ : (l.map ck).take (j + 1) = (l.map ck).take j ++ [d] := by rw [af8, hj]; rfl
   have SM : d ∈ l.map ck := afM hj
   have no : wI ops d = false -> gR ops (l.map ck) = false := fun e => ag3.mpr ⟨d, SM, by rw [e]; decide⟩
   obtain ⟨a, ha, rfl⟩ := afC.mp SM
   have hk := h a ha
   have SN : wI ops (ck a) = true -> ∀ y ∈ (l.map ck).take (j + 1), wI ops y = true := fun e y hy => by
     rw [FZ] at hy
     rcases afm.mp hy with hy | hy
     . exact oG y hy
     . rw [afD.mp hy]; exact e
   cases a with
   | num mk b1 m1 b2 m2 =>
     obtain ⟨n1, n2⟩ := Ga hk
     refine c9 (lH (fH (q := false) (dY (bC (aJ E.cU) (ah aj) rfl) (ah aX)).1 (fun hb => absurd (afo hb) n1))) (fun hp => by simp at hp) (fun _ => au ?_)
     refine c9 (lH (fH (q := false) (dY (bC (aJ E.cU) (ah aj) rfl) (ah aX)).1 (fun hb => absurd (afo hb) n2))) (fun hp => by simp at hp) (fun _ => au (au ⟨_, SN rfl, rfl⟩))
   | n6 op m =>
     have hf := Cp ops op m
     refine c9 (lH (fH (dY (bC (aJ E.cU) (ah aj) rfl) (ah aX)).1 (fun _ => i7 (yz (bC (aJ E.cU) (ah aj) rfl) (aJ E.aM) rfl rfl).1))) (fun hp => ?_) (fun hp => au ?_)
     . have hp : (decide ((if op = true then ("open" : Str) else "shut") = "open") && !decide (m ∈ ops)) = true := hp
       refine aY i6 ?_
       rw [no]
       rw [hf]
       cases op with
       | false => exact absurd hp (by rw [show decide ((if false = true then ("open" : Str) else "shut") = "open") = false by decide +kernel]; simp)
       | true => rw [Bool.and_eq_true] at hp; simpa using hp.2
     have hp : (decide ((if op = true then ("open" : Str) else "shut") = "open") && !decide (m ∈ ops)) = false := hp
     refine c9 (lH (fH (dY (bC (aJ E.cU) (ah aj) rfl) (ah aX)).1 (fun _ => i7 (mK (bC (aJ E.cU) (ah aj) rfl) (aJ E.aM) rfl rfl).1))) (fun hq => ?_) (fun hq => au (au ⟨_, SN ?_, rfl⟩))
     . have hq : (decide ((if op = true then ("open" : Str) else "shut") = "shut") && decide (m ∈ ops)) = true := hq
       refine aY i6 ?_
       rw [no]
       rw [hf]
       cases op with
       | true => exact absurd hq (by rw [show decide ((if true = true then ("open" : Str) else "shut") = "shut") = false by decide +kernel]; simp)
       | false => rw [Bool.and_eq_true] at hq; simpa using hq.2
     . have hq : (decide ((if op = true then ("open" : Str) else "shut") = "shut") && decide (m ∈ ops)) = false := hq
       rw [hf]
       cases op with
       | true => rw [show decide ((if true = true then ("open" : Str) else "shut") = "open") = true by decide +kernel, Bool.true_and] at hp; simpa using hp
       | false => rw [show decide ((if false = true then ("open" : Str) else "shut") = "shut") = true by decide +kernel, Bool.true_and] at hq; simpa using hq
 case fin =>
   rintro δ ⟨o, oG, rfl⟩
   rw [aga] at oG
   refine aY i6 ?_
   rw [show gR ops (l.map ck) = true from af6.mpr oG]
theorem zH : jO (ao zG) ([("asks", av), ("opens", av), ("ask", av)]) = true := by decide +kernel
theorem Gr : aL ["asks", "opens", "ask"] ["asks", "opens"] (ao zG) := aW
noncomputable abbrev qK : Stmt := top 13
noncomputable abbrev vv : Type := List L3.D × List L3.D × List Str × List Int × List Int × List L3.D × List L3.D × List dZ × List Int × Int × Str
noncomputable def kQ : vv -> List L3.D := fun (bs, nm, ks, es, ss, is, os, ws, ops, leaf, sg) => [jm bs nm (lq ks es ss) is os (ws.map dJ), .lst (ops.map .int), .int leaf, .str sg]
noncomputable def iU : vv -> Prop := fun (bs, nm, ks, es, ss, is, os, ws, ops, leaf, sg) => iO es /\ es.length <= 900 /\ 0 <= leaf /\ leaf < es.length /\ ws.length <= 63 /\ DZ ws
noncomputable def iV : vv -> T := fun (bs, nm, ks, es, ss, is, os, ws, ops, leaf, sg) => (.lst (((DW ws ops sg (leaf :: fB es leaf)).map .int).map T.sh) : T)
structure Ld (X : Cx) (CL : Str -> Addr) : Prop extends cy X where
 cj : Ln X 0 "chart"
 qG : X.env.kindOf "chart" = some .cell
 aM : Ln X 1 "opens"
 ju : Ln X 2 "leaf"
 gb : Ln X 3 "sign"
 bw : Ln X 4 "found"
 gI : Ln X 5 "number"
 sR : Ln X 6 "way"
 El : Ln X 7 "line"
 V2 : X.env.kindOf "line" = some .cell
 zI : Gl X "above"
 CY : Gl X "enumerate"
 V3 : Gl X "SIGN"
 Le : Gl X "SOURCE"
 Em : Gl X "fits"
 En : Gl X "ASKS"
 vp : Gl X "sorted"
 Pr : Fc X CL "above" 1 2 nG j7 nI
 CZ : X.mg "enumerate" = none
 V4 : ∃ u, X.mg "SIGN" = some (.int 1 u)
 C1 : ∃ u, X.mg "SOURCE" = some (.int 0 u)
 V5 : Fc X CL "fits" 1 2 qI mh qJ
 Eo : ∃ u, X.mg "ASKS" = some (.int 2 u)
 vq : X.mg "sorted" = none
 cO : wc X.K (CL "Chart")
 dB : bB X.K (CL "Chart") "ways"
 d8 : bB X.K (CL "Chart") "tree"
 lam : Kg X CL "#goable.<locals>.<lambda>" "goable.<locals>.<lambda>"
 dp : X.A.depth < recursionLimit
 rm : eN 1 X.A
theorem Lf {X : Cx} {CL : Str -> Addr} {b : Bx} (E : Ld X CL) (bs nm ks es ss is os ws ops leaf sg) (h : iU (bs, nm, ks, es, ss, is, os, ws, ops, leaf, sg)) :
   aA X CL b qK ["chart", "opens", "leaf", "sign", "found", "number", "way", "line"] (kQ (bs, nm, ks, es, ss, is, os, ws, ops, leaf, sg)) (iV (bs, nm, ks, es, ss, is, os, ws, ops, leaf, sg)) := by
 dsimp only [aA, iU, kQ, iV] at h ⊢
 obtain ⟨ht, hl, f0, f1, FJ, MC⟩ := h
 have hcl : (fB es leaf).length <= es.length + 1 := pX _ _ _
 have er : ([L3.D.int leaf] ++ (fB es leaf).map L3.D.int) = (leaf :: fB es leaf).map L3.D.int := rfl
 refine aP E.g E.El (aV (tO (ds := [.int leaf]) (Hi := (fB es leaf).map .int) (b8 (ds := [.int leaf]) (dF (fz (v_ E.ju.1) dD) (aG rfl))) (b8 (c_ (ks, es, ss, leaf) E.Pr E.zI (ai (jl E.cO E.d8 (aJ E.cj) oK) (ai (aJ E.ju) aK)) (by dsimp only [j7]; exact ⟨ht, f0, f1, by omega⟩) (bO _))) rfl (cB _) (Nat.le_of_lt (cu (by simp; omega)))) (t2 := .lst (((leaf :: fB es leaf).map .int).map T.sh)) rfl) ?_
 generalize leaf :: fB es leaf = ln
 refine aP E.g E.bw (dF dD (afG _)) ?_
 have aI : ∀ (l : List Int) (x : Int), (l.map L3.D.int).map T.sh ++ [T.sh (.int x)] = ((l ++ [x]).map L3.D.int).map T.sh := by intros; simp
 refine U5 E.g (NP E.g.nd E.g.calm E.gI E.sR) (fun j δ => ∃ o5 o6, δ = [some (.sh (jm bs nm (lq ks es ss) is os (ws.map dJ))), some (.sh (.lst (ops.map .int))), some (.sh (.int leaf)), some (.sh (.str sg)), some (.lst ((((KH ws ops sg ln j).map fun (k : Nat) => (k : Int)).map .int).map T.sh)), o5, o6, some (.lst ((ln.map .int).map T.sh))])
   (J7 (f := dJ) (l := ws) w0 E.CZ (DK E.cO E.dB (v_ E.cj.1) kD) E.CY) ⟨_, _, rfl⟩ (fun j δ ⟨_, _, e⟩ => by subst e; intro i hi; simp only [afe, afK, or_false] at hi; rcases hi with rfl | rfl <;> exact afh rfl) ?turn ?fin
 case turn =>
   rintro j d δ hj ⟨o5, o6, rfl⟩
   obtain ⟨i, rfl, hi, him, W5, _, _⟩ := rB hj
   have ei : i = j := by
     rw [List.getElem?_range (by simpa using (List.getElem?_eq_some_iff.mp hi).1)] at hi
     exact (afv hi).symm
   subst ei
   have W5 : i < ws.length := af5.mp him
   refine ⟨_, rfl, ?_⟩
   obtain ⟨w, hw⟩ : ∃ w, ws.getD i w0 = w := ⟨_, rfl⟩
   have YT : w ∈ ws := by rw [← hw, afk, afc W5]; exact agq _
   obtain ⟨al, Bf, Ph⟩ := MC w YT
   show eO X CL b _ _ { nx := fun δ => ∃ o5 o6, δ = [_, _, _, _, some (.lst ((((KH ws ops sg ln (i + 1)).map fun (k : Nat) => (k : Int)).map .int).map T.sh)), o5, o6, _], rt := _, bk := _, ct := _ }
   rw [KJ, hw]
   have SD := yV ws ops sg ln i
   generalize KH ws ops sg ln i = fl at SD ⊢
   refine c9 (lH (fH (dY (bC (aJ E.sR) (ah (lK E.V4 E.V3)) (dX (j := 1) rfl)) (aJ E.gb)).1 (fun _ => fH (mK (bC (aJ E.sR) (ah (lK E.C1 E.Le)) (dX (j := 0) rfl)) (vL E.El.1) rfl rfl).1 (fun _ => i7 (jM (aV (c_ (al, ops) E.V5 E.Em (ai (xO (bC (aJ E.sR) (ah (lK E.Eo E.En)) (dX (j := 2) rfl)) (congrArg L3.D.tup Bf)) (ai (aJ E.aM) aK)) (by dsimp only [mh]; exact Ph) rfl) (t2 := .sh (.bl (gR ops w.asks))) (by rw [Bf]; rfl))))))) (fun hp => ?_) (fun hp => au (au ?_))
   . have hp : Ou ops sg ln w = true := hp
     refine lg E.bw.1 rfl (v_ E.gI.1) rfl (by simp; omega) (au (au ?_))
     rw [aI, afa hp, ag0]
     exact ⟨_, _, rfl⟩
   . have hp : Ou ops sg ln w = false := hp
     rw [ae9 (by rw [hp]; decide), afQ]
     exact ⟨_, _, rfl⟩
 case fin =>
   rintro δ ⟨o5, o6, rfl⟩
   rw [afj, agR]
   have SD := yV ws ops sg ln ws.length
   have Vd : ∀ {k : Nat}, k ∈ KH ws ops sg ln ws.length -> k < ws.length /\ (ws.getD k w0).src ∈ ln := fun hk => by
     obtain ⟨h1, h2⟩ := af4.mp hk
     simp only [Ou, afJ, agQ] at h2
     exact ⟨af5.mp h1, h2.2.1⟩
   refine aY (aV (uQ (y := "way") (g := fun d => ((rK ln (ws.getD d.wg.toNat w0).src : Nat) : Int)) E.lam E.g E.dp E.vq E.vp (cF (.cons E.cj.1 (.inl E.qG) (.cons E.El.1 (.inl E.V2) .nil)) (by decide +kernel)) (vL E.bw.1) (cB _) (by simp; omega) (fun f c s0 H0 b' d hd => ?key)) ?eq) rfl
   case key =>
     obtain ⟨x, hx, rfl⟩ := afC.mp hd
     obtain ⟨k, hk, rfl⟩ := afC.mp hx
     obtain ⟨k1, k2⟩ := Vd hk
     have DP : sZ (ws.map dJ) (k : Int) = some (dJ (ws.getD k w0)) := (iM (f := dJ) w0 (by omega) (by omega)).trans (by rw [afW])
     refine ah (aV (Kq (l := ln) (j := rK ln (ws.getD k w0).src) (xO (ah (v_ (Kn (i := 2) rfl (by decide +kernel)))) (eL _)) (bC (aR (jl (by exact E.cO) (by exact E.dB) (ah (v_ (Kn (i := 1) rfl (by decide +kernel)))) kD) (ah (v_ (Km (i := 0) rfl (by decide +kernel)))) DP) (ah (lK (by exact E.C1) (Vs (by decide +kernel)))) (dX (j := 0) rfl)) (yU k2) (fun i hi => Vz hi)) ?_)
     show T.sh (.int _) = T.sh (.int ((rK ln (ws.getD (k : Int).toNat w0).src : Nat) : Int))
     rw [afW]
   case eq =>
     rw [jR]
     rfl
theorem bT : jO (ao qK) ([("chart", .cell), ("opens", av), ("leaf", av), ("sign", av), ("found", av), ("number", av), ("way", av), ("line", .cell), ("above", aB), ("enumerate", aB), ("SIGN", aB), ("SOURCE", aB), ("fits", aB), ("ASKS", aB), ("sorted", aB)]) = true := by decide +kernel
theorem x6 : aL ["chart", "opens", "leaf", "sign", "found", "number", "way", "line"] ["chart", "opens", "leaf", "sign"] (ao qK) := aW
noncomputable abbrev ug : Stmt := top 9
noncomputable abbrev zJ : Type := Int × Int × List Int
noncomputable def nJ : zJ -> List L3.D := fun (bx, mo, bs) => [.tup [.int bx, .int mo], .lst (bs.map .int)]
noncomputable def nK : zJ -> Prop := fun (bx, mo, bs) => bx = -1 \/ (0 <= bx /\ bx < bs.length)
noncomputable def nL : zJ -> T := fun (bx, mo, bs) => (.sh (.int (bE bx mo bs)) : T)
structure Pu (X : Cx) (CL : Str -> Addr) : Prop extends cy X where
 oQ : Ln X 0 "term"
 aU : Ln X 1 "boxes"
 Lg : Ln X 2 "box"
 Ep : Ln X 3 "more"
theorem Pw {X : Cx} {CL : Str -> Addr} {b : Bx} (E : Pu X CL) (bx mo bs) (h : nK (bx, mo, bs)) :
   aA X CL b ug ["term", "boxes", "box", "more"] (nJ (bx, mo, bs)) (nL (bx, mo, bs)) := by
 dsimp only [aA, nK, nJ, nL] at h ⊢
 refine aP E.g E.Lg (cE (bC (aJ E.oQ) (ah aj) rfl) rfl) ?_
 refine aP E.g E.Ep (cE (bC (aJ E.oQ) (ah aj) rfl) rfl) ?_
 refine c9 (fh (aJ E.Lg) (ah (gK (ah aj)))).1 (fun hp => ?_) (fun hp => ?_)
 . refine aY (v_ E.Ep.1) ?_
   have e : bx = -1 := afo hp
   show T.sh _ = T.sh (.int (bE bx mo bs))
   rw [bE, afa e]
 . refine au ?_
   have e : ¬ bx = -1 := afp hp
   refine aY (dM (aR (aJ E.aU) (aJ E.Lg) (eU (by omega) (by omega))) (aJ E.Ep)) ?_
   show T.sh _ = T.sh (.int (bE bx mo bs))
   rw [bE, ae9 e]
theorem qL : jO (ao ug) ([("term", av), ("boxes", av), ("box", av), ("more", av)]) = true := by decide +kernel
theorem C2 : aL ["term", "boxes", "box", "more"] ["term", "boxes"] (ao ug) := aW
noncomputable abbrev uh : Stmt := top 10
noncomputable abbrev zK : Type := Str × Int × Int × Int × Int × List Int
noncomputable def nM : zK -> List L3.D := fun (mk, b1, m1, b2, m2, bs) => [.tup [.str mk, .tup [.int b1, .int m1], .tup [.int b2, .int m2]], .lst (bs.map .int)]
noncomputable def nO : zK -> Prop := fun (mk, b1, m1, b2, m2, bs) => (b1 = -1 \/ (0 <= b1 /\ b1 < bs.length)) /\ (b2 = -1 \/ (0 <= b2 /\ b2 < bs.length))
noncomputable def nP : zK -> T := fun (mk, b1, m1, b2, m2, bs) => (.sh (.bl (fJ mk (bE b1 m1 bs) (bE b2 m2 bs))) : T)
structure Px (X : Cx) (CL : Str -> Addr) : Prop extends cy X where
 cU : Ln X 0 "ask"
 aU : Ln X 1 "boxes"
 lR : Ln X 2 "mark"
 gS : Ln X 3 "one"
 d7 : Ln X 4 "other"
 um : Gl X "value"
 Gs : Fc X CL "value" 1 2 nJ nK nL
theorem Py {X : Cx} {CL : Str -> Addr} {b : Bx} (E : Px X CL) (mk b1 m1 b2 m2 bs) (h : nO (mk, b1, m1, b2, m2, bs)) :
   aA X CL b uh ["ask", "boxes", "mark", "one", "other"] (nM (mk, b1, m1, b2, m2, bs)) (nP (mk, b1, m1, b2, m2, bs)) := by
 dsimp only [aA, nO, nM, nP] at h ⊢
 refine aP E.g E.lR (cE (bC (aJ E.cU) (ah aj) rfl) rfl) ?_
 refine aP E.g E.gS (c_ (b1, m1, bs) E.Gs E.um (ai (bC (aJ E.cU) (ah aj) rfl) (ai (aJ E.aU) aK)) h.1 rfl) ?_
 refine aP E.g E.d7 (c_ (b2, m2, bs) E.Gs E.um (ai (bC (aJ E.cU) (ah aj) rfl) (ai (aJ E.aU) aK)) h.2 rfl) ?_
 refine c9 (dY (aJ E.lR) (ah aX)).1 (fun hp => ?_) (fun hp => au ?_)
 . refine aY (JF (aJ E.gS) (aJ E.d7)).2 ?_
   show T.sh _ = T.sh (.bl (fJ mk (bE b1 m1 bs) (bE b2 m2 bs)))
   rw [fJ, afa (afo hp)]
 refine c9 (dY (aJ E.lR) (ah aX)).1 (fun hq => ?_) (fun hq => au ?_)
 . refine aY (Sf (aJ E.gS) (aJ E.d7)).2 ?_
   show T.sh _ = T.sh (.bl (fJ mk (bE b1 m1 bs) (bE b2 m2 bs)))
   rw [fJ, ae9 (afp hp), afa (afo hq)]
 refine c9 (dY (aJ E.lR) (ah aX)).1 (fun hr => ?_) (fun hr => au ?_)
 . refine aY (fh (aJ E.gS) (aJ E.d7)).2 ?_
   show T.sh _ = T.sh (.bl (fJ mk (bE b1 m1 bs) (bE b2 m2 bs)))
   rw [fJ, ae9 (afp hp), ae9 (afp hq), afa (afo hr)]
 . refine aY (qX (aJ E.gS) (aJ E.d7)).2 ?_
   show T.sh _ = T.sh (.bl (fJ mk (bE b1 m1 bs) (bE b2 m2 bs)))
   rw [fJ, ae9 (afp hp), ae9 (afp hq), ae9 (afp hr)]
theorem j8 : jO (ao uh) ([("ask", av), ("boxes", av), ("mark", av), ("one", av), ("other", av), ("value", aB)]) = true := by decide +kernel
theorem C3 : aL ["ask", "boxes", "mark", "one", "other"] ["ask", "boxes"] (ao uh) := aW
noncomputable abbrev kR : Stmt := top 11
noncomputable abbrev oW : Type := Bool × List Ask × List Int
noncomputable def ic : oW -> List L3.D := fun (l, qs, bs) => [Ny l (qs.map Cq), .lst (bs.map .int)]
noncomputable def gj : oW -> Prop := fun (l, qs, bs) => ∀ q ∈ qs, okQ bs q
noncomputable def ig : oW -> T := fun (l, qs, bs) => (.sh (.bl (qs.all (hQ bs))) : T)
structure Er (X : Cx) (CL : Str -> Addr) : Prop extends cy X where
 gM : Ln X 0 "asks"
 aU : Ln X 1 "boxes"
 cU : Ln X 2 "ask"
 zL : Gl X "holds"
 Pz : Fc X CL "holds" 2 2 nM nO nP
theorem Es {X : Cx} {CL : Str -> Addr} {b : Bx} (E : Er X CL) (l qs bs) (h : gj (l, qs, bs)) :
   aA X CL b kR ["asks", "boxes", "ask"] (ic (l, qs, bs)) (ig (l, qs, bs)) := by
 dsimp only [aA, gj, ic, ig] at h ⊢
 have hti : ∀ (p p' : Pos) (o : Option T), JN X CL b (.Name "ask" p) (.Name "asks" p') [some (.sh (Ny l (qs.map Cq))), some (.sh (.lst (bs.map .int))), o] (qs.map Cq) [some (.sh (Ny l (qs.map Cq))), some (.sh (.lst (bs.map .int))), o] := by
   intro p p' o
   cases l
   . exact uF (v_ E.gM.1)
   . exact ji (v_ E.gM.1)
 refine gQ E.g E.cU (fun j δ => (∃ o, δ = [some (.sh (Ny l (qs.map Cq))), some (.sh (.lst (bs.map .int))), o]) /\ ∀ q ∈ qs.take j, hQ bs q = true) (hti _ _ none) ⟨⟨_, rfl⟩, by simp⟩ (fun j δ ⟨⟨o, e⟩, _⟩ => by subst e; exact afh rfl) ?_ ?_
 . rintro j d δ hj ⟨⟨o, rfl⟩, hp⟩
   rw [afH] at hj
   obtain ⟨q, hq, rfl⟩ := Option.map_eq_some_iff.mp hj
   have hm : q ∈ qs := afM hq
   refine c9 (ko (jM (c_ (q.1, q.2.1, q.2.2.1, q.2.2.2.1, q.2.2.2.2, bs) E.Pz E.zL (ai (aJ E.cU) (ai (aJ E.aU) aK)) (h q hm) rfl))) (fun hc => ?_) (fun hc => ?_)
   . refine aY i6 ?_
     show T.sh _ = T.sh (.bl (qs.all (hQ bs)))
     have hf : hQ bs q = false := by simpa [hQ] using hc
     rw [ag3.mpr ⟨q, hm, by simp [hf]⟩]
   . refine au (au ⟨⟨_, rfl⟩, ?_⟩)
     have hf : hQ bs q = true := by simpa [hQ] using hc
     intro q' R3
     rw [af8, hq] at R3
     rcases afm.mp R3 with h' | h'
     . exact hp q' h'
     . have : q' = q := by simpa using h'
       rw [this]; exact hf
 . rintro δ ⟨⟨o, rfl⟩, hp⟩
   refine aY i6 ?_
   show T.sh _ = T.sh (.bl (qs.all (hQ bs)))
   rw [afj, aga] at hp
   rw [af6.mpr hp]
theorem je : jO (ao kR) ([("asks", av), ("boxes", av), ("ask", av), ("holds", aB)]) = true := by decide +kernel
theorem sS : aL ["asks", "boxes", "ask"] ["asks", "boxes"] (ao kR) := aW
noncomputable abbrev gE : Stmt := top 15
noncomputable abbrev jw : Type := List L3.D × List L3.D × L3.D × List L3.D × List L3.D × List dZ × Nat × dZ
noncomputable def fE : jw -> List L3.D := fun (bs, nm, tr, is, os, ws, k, w) => [jm bs nm tr is os (ws.map dJ), .int k]
noncomputable def eu : jw -> Prop := fun (bs, nm, tr, is, os, ws, k, w) => ws[k]? = some w /\ w.asks.length <= 1000 /\ D.bN w.asks = true /\ ∀ d ∈ w.asks, ∃ x r, d = .tup (.str x :: r)
noncomputable def fF : jw -> T := fun (bs, nm, tr, is, os, ws, k, w) => (.sh (.tup (HW w.asks)) : T)
structure wO (X : Cx) (CL : Str -> Addr) : Prop extends cy X where
 cj : Ln X 0 "chart"
 sR : Ln X 1 "way"
 zl : Gl X "tuple"
 En : Gl X "ASKS"
 zm : X.mg "tuple" = none
 Eo : ∃ u, X.mg "ASKS" = some (.int 2 u)
 cO : wc X.K (CL "Chart")
 dB : bB X.K (CL "Chart") "ways"
theorem wQ {X : Cx} {CL : Str -> Addr} {b : Bx} (E : wO X CL) (bs nm tr is os ws k w) (h : eu (bs, nm, tr, is, os, ws, k, w)) :
   aA X CL b gE ["chart", "way"] (fE (bs, nm, tr, is, os, ws, k, w)) (fF (bs, nm, tr, is, os, ws, k, w)) := by
 dsimp only [aA, eu, fE, fF] at h ⊢
 obtain ⟨hk, hl, hi, ha⟩ := h
 have DP : sZ (ws.map dJ) (k : Int) = some (dJ w) := dX (by rw [afH, hk]; rfl)
 refine aY (xN E.zm (Nx (aV (yH (p := fun d => !decide (d.at1.toS ∈ (["open", "shut"] : List Str))) (g := fun d => T.sh d) (cF .nil (by decide +kernel)) E.g.calm (uF (UI (UJ (DK E.cO E.dB (v_ E.cj.1) kD) (aJ E.sR) DP) (ah (lK E.Eo E.En)) rfl)) (.inr rfl) (fun C s0 H0 f0 b' d hd => ?Cv) (af9 (cu hl))) (t2 := .lst ((HW w.asks).map T.sh)) rfl) rfl) (kB fun d hd => pP hi d (af4.mp hd).1) E.zl) rfl
 case Cv =>
   obtain ⟨x, r, rfl⟩ := ha d hd
   exact ⟨(yC (x := x) (l := ["open", "shut"]) (bC (ah (v_ (eG (i := 0) rfl (by decide +kernel)))) (ah aj) (dX (j := 0) rfl)) (ah (cz (aH aX (aH aX b9)) (aG rfl))) rfl rfl).1, fun _ => v_ (eG (i := 0) rfl (by decide +kernel))⟩
theorem gk : jO (ao gE) ([("chart", av), ("way", av), ("tuple", aB), ("ASKS", aB)]) = true := by decide +kernel
theorem mj : aL ["chart", "way"] ["chart", "way"] (ao gE) := aW
noncomputable abbrev uo : Stmt := top 17
noncomputable abbrev zM : Type := List L3.D × List L3.D × List Str × List Int × List Int × List L3.D × List L3.D × List dZ × List Int × List Int × Str
noncomputable def nQ : zM -> List L3.D := fun (bs, nm, ks, es, ss, is, os, ws, ops, vs, sg) => [jm bs nm (lq ks es ss) is os (ws.map dJ), .lst (ops.map .int), .lst (vs.map .int), .str sg]
noncomputable def gy : zM -> Prop := fun (bs, nm, ks, es, ss, is, os, ws, ops, vs, sg) => iO es /\ es.length <= 900 /\ ks.length = es.length /\ ws.length <= 63 /\ ops.length <= 1000 /\ (∀ x ∈ ops, 0 <= x /\ x < es.length) /\ kE es.length vs ws
noncomputable def nR : zM -> T := fun (bs, nm, ks, es, ss, is, os, ws, ops, vs, sg) => (.lst (((u9 ws ops vs sg es (mO ks ops)).map .int).map T.sh) : T)
structure PB (X : Cx) (CL : Str -> Addr) : Prop extends cy X where
 cj : Ln X 0 "chart"
 aM : Ln X 1 "opens"
 aU : Ln X 2 "boxes"
 gb : Ln X 3 "sign"
 bw : Ln X 4 "found"
 ju : Ln X 5 "leaf"
 gI : Ln X 6 "number"
 jx : Gl X "open_leaves"
 qM : Gl X "goable"
 oX : Gl X "all_hold"
 jy : Gl X "number_asks"
 dh : Gl X "list"
 wR : Fc X CL "open_leaves" 1 2 fC ef fD
 j9 : Fc X CL "goable" 2 4 kQ iU iV
 Et : Fc X CL "all_hold" 3 2 ic gj ig
 wU : Fc X CL "number_asks" 1 2 fE eu fF
 di : X.mg "list" = none
theorem PD {X : Cx} {CL : Str -> Addr} {b : Bx} (E : PB X CL) (bs nm ks es ss is os ws ops vs sg) (h : gy (bs, nm, ks, es, ss, is, os, ws, ops, vs, sg)) :
   aA X CL b uo ["chart", "opens", "boxes", "sign", "found", "leaf", "number"] (nQ (bs, nm, ks, es, ss, is, os, ws, ops, vs, sg)) (nR (bs, nm, ks, es, ss, is, os, ws, ops, vs, sg)) := by
 dsimp only [aA, gy, nQ, nR] at h ⊢
 obtain ⟨ht, hl, hk, FJ, MF, ho, MC⟩ := h
 refine aP E.g E.bw N4 ?_
 have hlv : ∀ x ∈ mO ks ops, 0 <= x /\ x < es.length := fun x hx => ho x (af4.mp hx).1
 have hll : (mO ks ops).length <= 1000 := afU (agg _ _) MF
 refine gQ E.g E.ju (fun j δ => ∃ o5 o6, δ = [some (.sh (jm bs nm (lq ks es ss) is os (ws.map dJ))), some (.sh (.lst (ops.map .int))), some (.sh (.lst (vs.map .int))), some (.sh (.str sg)), some (.jL (HX (u9 ws ops vs sg es ((mO ks ops).take j)))), o5, o6])
   (ji (pU (ds := (mO ks ops).map .int) (aV (c_ (bs, nm, ks, es, ss, is, os, ws.map dJ, ops) E.wR E.jx (ai (aJ E.cj) (ai (aJ E.aM) aK)) (by dsimp only [ef]; exact ⟨MF, fun x hx => by have := ho x hx; omega⟩) (bO _)) rfl))) ⟨_, _, rfl⟩ (fun j δ ⟨_, _, e⟩ => by subst e; exact Nat.le_of_ble_eq_true rfl) ?turn ?fin
 case turn =>
   rintro j d δ hj ⟨o5, o6, rfl⟩
   obtain ⟨x, rfl, _, hxm, Dj, _, FZ⟩ := rB hj
   obtain ⟨x0, x1⟩ := hlv x hxm
   show eO X CL b _ _ { nx := fun δ => ∃ o5 o6, δ = [_, _, _, _, some (.jL (HX (u9 ws ops vs sg es ((mO ks ops).take (j + 1))))), o5, o6], rt := _, bk := _, ct := _ }
   rw [FZ, Cr]
   have sy := tS ws ops vs sg es ((mO ks ops).take j)
   have YV : ((mO ks ops).take j).length <= 1000 := by rw [agU]; omega
   generalize u9 ws ops vs sg es ((mO ks ops).take j) = acc at sy ⊢
   have hkl : (HX acc).length <= 1000000 := by unfold HX; rw [afj]; omega
   have YW : ∀ {k : Int}, k ∈ DW ws ops sg (x :: fB es x) -> 0 <= k /\ k < ws.length := fun h => Gd h
   have hp1 : SJ ws ops vs sg es acc x = match (DW ws ops sg (x :: fB es x)).filter (fun k => Dl vs (ws.getD k.toNat w0)) with | [] => acc | k :: _ => u6 acc k := rfl
   rw [hp1]
   have NT : iV (bs, nm, ks, es, ss, is, os, ws, ops, x, sg) = T.lst (((DW ws ops sg (x :: fB es x)).map .int).map T.sh) := rfl
   generalize DW ws ops sg (x :: fB es x) = go at YW NT ⊢
   refine gQ E.g E.gI (fun i δ => ∃ o6, (∀ k ∈ go.take i, Dl vs (ws.getD k.toNat w0) = false) /\ δ = [some (.sh (jm bs nm (lq ks es ss) is os (ws.map dJ))), some (.sh (.lst (ops.map .int))), some (.sh (.lst (vs.map .int))), some (.sh (.str sg)), some (.jL (HX acc)), some (.sh (.int x)), o6])
     (ji (pU (ds := go.map .int) (aV (c_ (bs, nm, ks, es, ss, is, os, ws, ops, x, sg) E.j9 E.qM (ai (aJ E.cj) (ai (aJ E.aM) (ai (aJ E.ju) (ai (aJ E.gb) aK)))) (by dsimp only [iU]; exact ⟨ht, hl, x0, x1, FJ, MC.ok⟩) (by rw [NT]; exact bO _)) NT))) ⟨_, fun k hk => by simp at hk, rfl⟩ (fun j δ ⟨_, _, e⟩ => by subst e; exact Nat.le_of_ble_eq_true rfl) ?Lc ?fin2
   case Lc =>
     rintro i d δ hi ⟨o6, oG, rfl⟩
     obtain ⟨k, rfl, hki, hkm, _, _, abY⟩ := rB hi
     obtain ⟨k0, k1⟩ := YW hkm
     obtain ⟨w, hw⟩ : ∃ w, ws.getD k.toNat w0 = w := ⟨_, rfl⟩
     have hwi : ws[k.toNat]? = some w := by rw [← hw, afk, afc (by omega)]; rfl
     obtain ⟨al, Bf, DC, Ph⟩ := MC w (afM hwi)
     have hna : HW w.asks = (al.flatMap D0).map Cq := by rw [Bf]; exact Ow Ph
     have ZN : (al.flatMap D0).all (hQ vs) = Dl vs w := by unfold Dl; rw [Bf]; exact (VA Ph).symm
     have hcl : w.asks.length <= 2 := by rw [Bf, afj]; exact DC
     have hai : D.bN w.asks = true := by rw [Bf]; exact iN (fun a => qa a) _
     have YB : ∀ d ∈ w.asks, ∃ x r, d = .tup (.str x :: r) := fun d hd => by
       rw [Bf] at hd
       obtain ⟨q, _, rfl⟩ := afC.mp hd
       cases q <;> exact ⟨_, _, rfl⟩
     have ekn : ((k.toNat : Nat) : Int) = k := by omega
     refine c9 (jM (aV (c_ (false, al.flatMap D0, vs) E.Et E.oX (ai (ah (aV (c_ (bs, nm, lq ks es ss, is, os, ws, k.toNat, w) E.wU E.jy (ai (aJ E.cj) (ai (xO (aJ E.gI) (congrArg L3.D.int ekn.symm)) aK)) (by dsimp only [eu]; exact ⟨hwi, by omega, hai, YB⟩) (show T.clean (.sh (.tup (HW w.asks))) = true from (kB fun d hd => pP hai d (List.mem_filter.mp hd).1))) (t2 := .sh (.tup ((al.flatMap D0).map Cq))) (congrArg (fun z => T.sh (.tup z)) hna))) (ai (aJ E.aU) aK)) (by dsimp only [gj]; exact Ox Ph) rfl) (t2 := .sh (.bl (Dl vs w))) (congrArg (fun z => T.sh (.bl z)) ZN))) (fun hp => ?_) (fun hp => au (au ⟨_, ?_, rfl⟩))
     . refine Vk (.inl k) E.u E.bw.1 i6 (aJ E.gI) rfl hkl (NK (au ?_))
       rw [OB]
       obtain ⟨r, hr⟩ := HZ (p := fun k => Dl vs (ws.getD k.toNat w0)) hki (by rw [hw]; exact hp) oG
       rw [hr]
       exact ⟨_, _, rfl⟩
     . intro y hy
       rw [abY] at hy
       rcases afm.mp hy with hy | hy
       . exact oG y hy
       . rw [afD.mp hy, hw]; exact hp
   case fin2 =>
     rintro δ ⟨o6, oG, rfl⟩
     rw [afj, aga] at oG
     rw [List.filter_eq_nil_iff.mpr (fun y hy => by rw [oG y hy]; decide)]
     exact au ⟨_, _, rfl⟩
 case fin =>
   rintro δ ⟨o5, o6, rfl⟩
   rw [afj, aga]
   refine aY (J8 E.g E.di (vE E.bw.1 rfl (by rw [T.dH])) E.dh) ?_
   rw [KN]
theorem eB : jO (ao uo) ([("chart", av), ("opens", av), ("boxes", av), ("sign", av), ("found", av), ("leaf", av), ("number", av), ("open_leaves", aB), ("goable", aB), ("all_hold", aB), ("number_asks", aB), ("list", aB)]) = true := by decide +kernel
theorem C4 : aL ["chart", "opens", "boxes", "sign", "found", "leaf", "number"] ["chart", "opens", "boxes", "sign"] (ao uo) := aW
noncomputable abbrev qN : Stmt := top 38
noncomputable abbrev vz : Type := List L3.D × List L3.D × List Str × List Int × List Int × List Int × List L3.D × List L3.D × List L3.D
noncomputable def kT : vz -> List L3.D := fun (bs, nm, ks, es, ss, oo, is, os, ws) => [jm bs nm (lq ks es ss) is os ws, sN ks es ss oo, .lst ws]
noncomputable def iW : vz -> Prop := fun (bs, nm, ks, es, ss, oo, is, os, ws) => (∀ x ∈ ks, PyData.strOk x = true) /\ jk 60 (.lst ws)
noncomputable def kU : vz -> T := fun (bs, nm, ks, es, ss, oo, is, os, ws) => (.sh (.bl true) : T)
structure Lh (X : Cx) (CL : Str -> Addr) : Prop extends cy X where
 cj : Ln X 0 "chart"
 bL : Ln X 1 "lists"
 cN : Ln X 2 "ways"
 gO : Ln X 3 "tree"
 cO : wc X.K (CL "Chart")
 f6 : wc X.K (CL "Tree")
 d8 : bB X.K (CL "Chart") "tree"
 dB : bB X.K (CL "Chart") "ways"
 f7 : bB X.K (CL "Tree") "kinds"
 eF : bB X.K (CL "Tree") "elders"
 jt : bB X.K (CL "Tree") "starts"
theorem Li {X : Cx} {CL : Str -> Addr} {b : Bx} (E : Lh X CL) (bs nm ks es ss oo is os ws) (h : iW (bs, nm, ks, es, ss, oo, is, os, ws)) :
   aA X CL b qN ["chart", "lists", "ways", "tree"] (kT (bs, nm, ks, es, ss, oo, is, os, ws)) (kU (bs, nm, ks, es, ss, oo, is, os, ws)) := by
 dsimp only [aA, iW, kT, kU] at h ⊢
 obtain ⟨hk, hw⟩ := h
 refine aP E.g E.gO (DK E.cO E.d8 (v_ E.cj.1) oK) ?_
 have e1 : ∀ l : List Int, Dh (.lst (l.map L3.D.int)) (.lst (l.map L3.D.int)) = true := fun l => lJ (dO l)
 refine c9 (lH (BK (q8 E.u (jl E.f6 E.f7 (aJ E.gO) uS) (aR (aJ E.bL) (ah aj) rfl) (Vg 59 hk) (Vg 59 hk)).1 (fun hb => (BK (q8 E.u (jl E.f6 E.eF (aJ E.gO) lO) (aR (aJ E.bL) (ah aj) rfl) (dO _) (dO _)).1 (fun hb2 => (yr (q8 E.u (jl E.f6 E.jt (aJ E.gO) Ci) (aR (aJ E.bL) (ah aj) rfl) (dO _) (dO _)).1)))))) (fun hp => ?_) (fun _ => au ?_)
 . rw [lJ (Vg 59 hk), e1, e1] at hp
   cases hp
 . refine aY (UZ E.u (jl E.cO E.dB (aJ E.cj) kD) (aJ E.cN) hw hw).2 ?_
   rw [lJ hw]
theorem nS : jO (ao qN) ([("chart", av), ("lists", av), ("ways", av), ("tree", av)]) = true := by decide +kernel
theorem x8 : aL ["chart", "lists", "ways", "tree"] ["chart", "lists", "ways"] (ao qN) := aW
noncomputable abbrev Gu : Stmt := top 43
noncomputable abbrev Lj : Type := List Int
noncomputable def nT : Lj -> List L3.D := fun a => [.lst (a.map .int)]
noncomputable def nU : Lj -> Prop := fun a => a.length <= 63
noncomputable def nV : Lj -> T := fun a => (.sh (.bl true) : T)
structure YX (X : Cx) (CL : Str -> Addr) : Prop extends cy X where
 bH : Ln X 0 "script"
 bL : Ln X 1 "lists"
 aM : Ln X 2 "opens"
 aU : Ln X 3 "boxes"
 gB : Ln X 4 "three"
 cN : Ln X 5 "ways"
 cj : Ln X 6 "chart"
 vA : Ln X 7 "others"
 gb : Ln X 8 "sign"
 qF : Ln X 9 "due"
 mq : Ln X 10 "handed"
 uq : Ln X 11 "given"
 zN : Gl X "_law_lists"
 zO : Gl X "_law_opens"
 zP : Gl X "_law_boxes"
 zQ : Gl X "_law_signs"
 C5 : Gl X "_law_ways"
 cX : Gl X "len"
 zR : Gl X "_law_chart"
 Eu : Gl X "reversed"
 qO : Gl X "_law_picks"
 dh : Gl X "list"
 gJ : Gl X "_law_same"
 qP : Gl X "picks"
 wV : Gl X "_law_stayed"
 PF : Fc X CL "_law_lists" 3 1 mR mS mU
 PJ : Fc X CL "_law_opens" 1 1 mV jW mW
 PL : Fc X CL "_law_boxes" 2 1 mX mY mZ
 PN : Fc X CL "_law_signs" 2 1 m7 m8 m9
 rR : Fc X CL "_law_ways" 4 5 qu lS qv
 cY : X.mg "len" = none
 PR : Fc X CL "_law_chart" 3 3 nq j6 nu
 Ew : X.mg "reversed" = none
 vC : Fc X CL "_law_picks" 3 5 g7 gi g8
 di : X.mg "list" = none
 vD : Fc X CL "_law_same" 2 2 qC qD qE
 zS : Fc X CL "picks" 4 4 nQ gy nR
 Lk : Fc X CL "_law_stayed" 1 3 kT iW kU
theorem YY {X : Cx} {CL : Str -> Addr} {b : Bx} (E : YX X CL) (a) (h : nU a) :
   aA X CL b Gu ["script", "lists", "opens", "boxes", "three", "ways", "chart", "others", "sign", "due", "handed", "given"] (nT a) (nV a) := by
 dsimp only [aA, nU, nT, nV] at h ⊢
 have hs : a.length <= 1000 := by omega
 refine aP E.g E.bL (aV (c_ a E.PF E.zN (ai (aJ E.bH) aK) hs (by
   show T.clean (uY _ _ _ _) = true
   unfold uY
   rw [iB, T.c6, T.c6, T.c6, T.c6, T.c6, bP (jP _), bP (cB _), bP (cB _), bP (cB _)]
   rfl)) (t2 := uY (pZ a (iZ a) (iZ a).length) (iZ a) (uX a (iZ a) (iZ a).length) (rG a (iZ a) (iZ a).length)) rfl) ?_
 obtain ⟨n1, n2, tD⟩ := F6 a
 generalize iZ a = es at n1 n2 tD ⊢
 have hkl : ∀ x ∈ pZ a es es.length, PyData.strOk x = true := fun x hx => by
   obtain ⟨k, _, rfl⟩ := afC.mp hx
   exact Vv _ _ _
 have YZ : (rG a es es.length).length = es.length := by simp [rG]
 have Lp : (pZ a es es.length).length = es.length := by simp [pZ]
 generalize pZ a es es.length = ks at hkl Lp ⊢
 generalize uX a es es.length = ss
 generalize rG a es es.length = oo at YZ ⊢
 have W6 := Kx ks es ss oo
 refine aP E.g E.aM (aV (c_ (ks, es, ss, oo) E.PJ E.zO (ai (vE E.bL.1 rfl W6) aK) (by dsimp only [jW]; exact ⟨n1, by omega, YZ, tD.1⟩) (bO _)) (t2 := .lst (((xW es oo (es.length - 1)).map .int).map T.sh)) rfl) ?_
 have MF := (tR (es := es) (os := oo) (es.length - 1)).1
 have abZ := (tR (es := es) (os := oo) (es.length - 1)).2
 have HV : ∀ x ∈ xW es oo (es.length - 1), 0 <= x /\ x < es.length := fun x hx => by
   have := tQ _ hx
   omega
 generalize xW es oo (es.length - 1) = ops at MF abZ HV ⊢
 refine aP E.g E.aU (aV (c_ (a) E.PL E.zP (ai (aJ E.bH) aK) (hs) (bO _)) (t2 := .lst (((W2 a).map .int).map T.sh)) rfl) ?_
 have Z6 := Oi a
 generalize W2 a = bs at Z6 ⊢
 refine aP E.g E.gB (aV (c_ (a) E.PN E.zQ (ai (aJ E.bH) aK) (hs) (uT _)) (t2 := .lst (((Oj a).map .str).map T.sh)) rfl) ?_
 have h3 := Ol a
 have dw := Vw a
 generalize Oj a = th at h3 dw ⊢
 obtain ⟨wl, wo⟩ := KG (s := a) (bs := bs) n1 MF HV dw h3
 have W7 : qb es.length bs (u5 a ops es.length bs th) := ⟨by omega, wo⟩
 refine aP E.g E.cN (aV (c_ (a, ops, es.length, bs, th) E.rR E.C5 (ai (aJ E.bH) (ai (vL E.aM.1) (ai (ah (dz (List.length_map ..) E.cY (aR (vE E.bL.1 rfl W6) (ah aj) rfl) E.cX)) (ai (vL E.aU.1) (ai (vL E.gB.1) aK))))) (by dsimp only [lS]; exact ⟨h, n1, MF, by omega, h3, HV, dw⟩) (by exact bP W7.bN)) (t2 := .lst (((u5 a ops es.length bs th).map dJ).map T.sh)) rfl) ?_
 generalize u5 a ops es.length bs th = ws at W7 ⊢
 have iw := W7.bN
 refine aP E.g E.cj (aV (c_ (ks, es, ss, oo, bs, ws.map dJ) E.PR E.zR (ai (vE E.bL.1 rfl W6) (ai (vL E.aU.1) (ai (vL E.cN.1) aK))) (by dsimp only [j6]; exact ⟨by omega, by omega, iw⟩) (by
   show T.bf (iP _ _ _ _ _ _) = true
   exact zy (rP _) (jP _) (sL ks es ss) (j5 _) (j5 _) iw)) (t2 := .ins "Chart" (iP (qy bs.length) ((oR es.length).map .str) (.ins "Tree" (lP ks es ss)) (rO es.length) (rO es.length) (ws.map dJ))) rfl) ?_
 have hcf : T.dH (.ins "Chart" (iP (qy bs.length) ((oR es.length).map .str) (.ins "Tree" (lP ks es ss)) (rO es.length) (rO es.length) (ws.map dJ))) = jm (qy bs.length) ((oR es.length).map .str) (lq ks es ss) (rO es.length) (rO es.length) (ws.map dJ) := by
   rw [DU, HM]
 have ht := tD.1
 have FJ := W7.1
 have haB : kE es.length bs ws := fun w hw => (W7.2 w hw).asks
 have eot : (((bs.map L3.D.int).reverse.filter fun _ => true).map fun d => T.sh (.int (d.wg + 1))) = ((bs.reverse.map (· + 1)).map L3.D.int).map T.sh := by
   rw [gF, ← List.map_reverse, afR, afR, afR]
   rfl
 refine oH (p := fun _ => true) (gg := fun d => T.sh (.int (d.wg + 1))) E.g E.vA (cF .nil (by decide +kernel)) (U1 E.Ew (vFL E.aU.1 rfl) E.Eu) (.inr rfl) (fun C s0 H0 f0 b' d hd => ?Cv) (af9 (cu (by simp; omega))) ?rest (by exact afh rfl) (iK ⟨_, rfl⟩)
 case Cv =>
   obtain ⟨x, hx, rfl⟩ := afC.mp (List.mem_reverse.mp hd)
   exact ⟨rfl, fun _ => (dM (ah (v_ (eG (i := 0) rfl (by decide +kernel)))) (ah aj))⟩
 case rest =>
 rw [eot]
 have Y0 : (bs.reverse.map (· + 1)).length = bs.length := by simp
 have haO : kE es.length (bs.reverse.map (· + 1)) ws := fun w hw => by
   obtain ⟨l, e, e2, ho⟩ := haB w hw
   exact ⟨l, e, e2, fun q hq => (ho q hq).to Y0⟩
 generalize bs.reverse.map (· + 1) = ot at Y0 haO ⊢
 have hPB := fun sg => tS ws ops bs sg es (mO ks ops)
 have hPO := fun sg => tS ws ops ot sg es (mO ks ops)
 have hlv : (mO ks ops).length <= ops.length := agg _ _
 refine gQ E.g E.gb (fun i δ => ∃ o8 o9 o10 o11, δ = [some (.sh (.lst (a.map .int))), some (uY ks es ss oo), some (.lst ((ops.map .int).map T.sh)), some (.sh (.lst (bs.map .int))), some (.lst ((th.map .str).map T.sh)), some (.lst ((ws.map dJ).map T.sh)), some (.ins "Chart" (iP (qy bs.length) ((oR es.length).map .str) (.ins "Tree" (lP ks es ss)) (rO es.length) (rO es.length) (ws.map dJ))), some (.lst ((ot.map .int).map T.sh)), o8, o9, o10, o11])
   (ji (pU (ds := (th ++ [("strange0" : Str)]).map L3.D.str) (aV (tO (ds := th.map .str) (Hi := [.str "strange0"]) (vL E.gB.1) (b8 (ds := [.str "strange0"]) (dF (fz aX dD) (aG rfl))) (jP _) rfl (af9 (cu (by simp; omega)))) (by simp)))) ⟨_, _, _, _, rfl⟩ (fun j δ ⟨_, _, _, _, e⟩ => by subst e; exact afh rfl) ?turn ?fin
 case turn =>
   rintro i d δ hi ⟨o8, o9, o10, o11, rfl⟩
   obtain ⟨sg, rfl, _, _, _, _, _⟩ := rB hi
   clear hi
   have hPB := hPB sg
   have hPO := hPO sg
   have due : ∀ (vs : List Int) (hv : kE es.length vs ws), gi (ks, es, ss, oo, ws, ops, vs, sg) := fun vs hv => ⟨ht, by omega, Lp, FJ, by omega, HV, hv⟩
   refine aP E.g E.qF (aV (c_ (ks, es, ss, oo, ws, ops, bs, sg) E.vC E.qO (ai (vE E.bL.1 rfl W6) (ai (vL E.cN.1) (ai (vL E.aM.1) (ai (aJ E.aU) (ai (aJ E.gb) aK))))) (due bs haB) (bO _)) (t2 := .lst (((u9 ws ops bs sg es (mO ks ops)).map .int).map T.sh)) rfl) ?_
   refine aP E.g E.mq (cS E.di (vL E.aM.1) (cB _) E.dh bG) ?_
   refine aP E.g E.uq (cS E.di (aJ E.aU) (cB _) E.dh bG) ?_
   refine c9 (ko (jM (aV (c_ (u9 ws ops bs sg es (mO ks ops), u9 ws ops bs sg es (mO ks ops)) E.vD E.gJ (ai (b8 (aV (c_ (qy bs.length, (oR es.length).map .str, ks, es, ss, rO es.length, rO es.length, ws, ops, bs, sg) E.zS E.qP (ai (vE E.cj.1 rfl hcf) (ai (vL E.mq.1) (ai (vL E.uq.1) (ai (aJ E.gb) aK)))) (by dsimp only [gy]; exact ⟨ht, by omega, Lp, FJ, by omega, HV, haB⟩) (bO _)) rfl)) (ai (vL E.qF.1) aK)) (show (u9 ws ops bs sg es (mO ks ops)).length <= 100 by omega) rfl) (t2 := .sh (.bl true)) (congrArg (fun z => T.sh (.bl z)) (decide_eq_true rfl))))) (fun hp => absurd hp (by decide)) (fun _ => au ?_)
   refine c9 (ko (jM (aV (c_ (u9 ws ops ot sg es (mO ks ops), u9 ws ops ot sg es (mO ks ops)) E.vD E.gJ (ai (b8 (aV (c_ (qy bs.length, (oR es.length).map .str, ks, es, ss, rO es.length, rO es.length, ws, ops, ot, sg) E.zS E.qP (ai (vE E.cj.1 rfl hcf) (ai (vL E.mq.1) (ai (b8 (cS E.di (vL E.vA.1) (cB _) E.dh bG)) (ai (aJ E.gb) aK)))) (by dsimp only [gy]; exact ⟨ht, by omega, Lp, FJ, by omega, HV, haO⟩) (bO _)) rfl)) (ai (b8 (aV (c_ (ks, es, ss, oo, ws, ops, ot, sg) E.vC E.qO (ai (vE E.bL.1 rfl W6) (ai (vL E.cN.1) (ai (vL E.aM.1) (ai (vL E.vA.1) (ai (aJ E.gb) aK))))) (due ot haO) (bO _)) rfl)) aK)) (show (u9 ws ops ot sg es (mO ks ops)).length <= 100 by omega) rfl) (t2 := .sh (.bl true)) (congrArg (fun z => T.sh (.bl z)) (decide_eq_true rfl))))) (fun hp => absurd hp (by decide)) (fun _ => au ?_)
   refine c9 (ko (jM (aV (c_ (u9 ws ops bs sg es (mO ks ops), u9 ws ops bs sg es (mO ks ops)) E.vD E.gJ (ai (b8 (aV (c_ (qy bs.length, (oR es.length).map .str, ks, es, ss, rO es.length, rO es.length, ws, ops, bs, sg) E.zS E.qP (ai (vE E.cj.1 rfl hcf) (ai (vL E.mq.1) (ai (vL E.uq.1) (ai (aJ E.gb) aK)))) (by dsimp only [gy]; exact ⟨ht, by omega, Lp, FJ, by omega, HV, haB⟩) (bO _)) rfl)) (ai (vL E.qF.1) aK)) (show (u9 ws ops bs sg es (mO ks ops)).length <= 100 by omega) rfl) (t2 := .sh (.bl true)) (congrArg (fun z => T.sh (.bl z)) (decide_eq_true rfl))))) (fun hp => absurd hp (by decide)) (fun _ => au ?_)
   refine c9 (lH (BK (ko (jM (c_ ((ops, ops)) E.vD E.gJ (ai (vL E.mq.1) (ai (vL E.aM.1) aK)) ((show ops.length <= 100 by omega)) rfl))) (fun hb => (yr (ko (jM (c_ ((bs, bs)) E.vD E.gJ (ai (vL E.uq.1) (ai (aJ E.aU) aK)) ((show bs.length <= 100 by omega)) rfl))))))) (fun hp => ?_) (fun _ => au (au ⟨_, _, _, _, rfl⟩))
   have hp : (!decide (ops = ops) || !decide (bs = bs)) = true := hp
   exact absurd hp (by simp)
 case fin =>
   rintro δ ⟨o8, o9, o10, o11, rfl⟩
   exact aY (c_ (qy bs.length, (oR es.length).map .str, ks, es, ss, oo, rO es.length, rO es.length, ws.map dJ) E.Lk E.wV (ai (vE E.cj.1 rfl hcf) (ai (vE E.bL.1 rfl W6) (ai (vL E.cN.1) aK))) (by dsimp only [iW]; exact ⟨hkl, W7.dep 47⟩) rfl) rfl
theorem cG : jO (ao Gu) ([("script", av), ("lists", av), ("opens", av), ("boxes", av), ("three", av), ("ways", av), ("chart", av), ("others", av), ("sign", av), ("due", av), ("handed", av), ("given", av), ("_law_lists", aB), ("_law_opens", aB), ("_law_boxes", aB), ("_law_signs", aB), ("_law_ways", aB), ("len", aB), ("_law_chart", aB), ("reversed", aB), ("_law_picks", aB), ("list", aB), ("_law_same", aB), ("picks", aB), ("_law_stayed", aB)]) = true := by decide +kernel
theorem Lq : aL ["script", "lists", "opens", "boxes", "three", "ways", "chart", "others", "sign", "due", "handed", "given"] ["script"] (ao Gu) := aW
noncomputable def cl (ak aq aF ay : Addr) : Str -> Addr := fun c => if c = "Chart" then ak else if c = "Tree" then aq else if c = "#_law_ways.<locals>.<lambda>" then aF else if c = "#goable.<locals>.<lambda>" then ay else 0
theorem x9 {ak aq aF ay : Addr} : cl ak aq aF ay "#_law_ways.<locals>.<lambda>" = aF := by unfold cl; rw [ae9 (by decide +kernel)]; rw [ae9 (by decide +kernel)]; rw [afa rfl]
theorem sU {ak aq aF ay : Addr} : cl ak aq aF ay "#goable.<locals>.<lambda>" = ay := by unfold cl; rw [ae9 (by decide +kernel)]; rw [ae9 (by decide +kernel)]; rw [ae9 (by decide +kernel)]; rw [afa rfl]
theorem gn {ak aq aF ay : Addr} : cl ak aq aF ay "Chart" = ak := by unfold cl; rw [afa rfl]
theorem nW {ak aq aF ay : Addr} : cl ak aq aF ay "Tree" = aq := by unfold cl; rw [ae9 (by decide +kernel)]; rw [afa rfl]
theorem PV {ak aq aF ay : Addr} {x : Str} (h : BJ x = true) (h0 : cl ak aq aF ay x ≠ 0) : (cl ak aq aF ay x, DF x) ∈ ([(aF, "_law_ways.<locals>.<lambda>"), (ay, "goable.<locals>.<lambda>")] : List (Addr × Str)) := by
 unfold cl at h0 ⊢
 rw [ae9 (fun e => by rw [e] at h; exact absurd h (by decide +kernel))] at h0 ⊢
 rw [ae9 (fun e => by rw [e] at h; exact absurd h (by decide +kernel))] at h0 ⊢
 by_cases Ex : x = "#_law_ways.<locals>.<lambda>"
 . rw [afa Ex, Ex, show DF ("#_law_ways.<locals>.<lambda>" : Str) = "_law_ways.<locals>.<lambda>" by decide +kernel]; simp
 rw [ae9 Ex] at h0 ⊢
 by_cases vG : x = "#goable.<locals>.<lambda>"
 . rw [afa vG, vG, show DF ("#goable.<locals>.<lambda>" : Str) = "goable.<locals>.<lambda>" by decide +kernel]; simp
 rw [ae9 vG] at h0 ⊢
 exact absurd rfl h0
noncomputable def Y3 {α : Type} : Nat -> (List α -> Prop) -> Prop
 | 0, P => P []
 | n + 1, P => ∀ a, Y3 n fun r => P (a :: r)
theorem bF {α : Type} {n : Nat} {P : List α -> Prop} (h : Y3 n P) : ∀ us : List α, us.length = n -> P us := by
 intro us hl
 induction us generalizing n P with
 | nil => subst hl; exact h
 | cons a r ih => subst hl; exact ih (P := fun r => P (a :: r)) (h a) rfl
theorem all_mk {l : PySem.W.OpenLaw} {w : World} {K : PySem.W.Frag} {h : Heap} {mg : Str -> Option Value} {T0 : List Addr} {fa zT rS zU vH zV zW vI zX Ey zY zZ z0 Lr Ls Lv Ez jf iu z6 rT EA oY oZ z7 EB jz z8 EC vJ z9 Aa pe jA Ab vK SQ ak aq aF ay : Addr} (XX : K.In h) (G : h.Ns mainGlobals mg) (hfa : mg "law" = some (.ref fa))
   {PX Ij PY Lw PZ P0 Lx P1 V6 P4 P5 P6 Y4 Y5 Y6 Ly C6 Ac P7 Ik V7 ED EE P8 g_same jx zI Em qM um zL oX jy qP Lz SR : FuncData}
   (Ad : PySem.W.nsIn K mainGlobals "Chart" = some (some (.ref ak))) (vN : PySem.W.plainGet K ak Str.empty = true) (vO : PySem.W.hasDictIn K ak = true) (vP : PySem.W.plainOver K ak = true) (vQ : PySem.W.findIn K (.ref ak) "__setattr__" = some (some (.builtin "object.__setattr__"))) (vR : PySem.W.makesIn K ak = true) (vS : PySem.W.keepIn K (.ref ak) = true)
   (jB : PySem.W.findIn K (.ref ak) "boxes" = some none)
   (jC : PySem.W.findIn K (.ref ak) "names" = some none)
   (kW : PySem.W.findIn K (.ref ak) "tree" = some none)
   (mw : PySem.W.findIn K (.ref ak) "ins" = some none)
   (kX : PySem.W.findIn K (.ref ak) "outs" = some none)
   (kY : PySem.W.findIn K (.ref ak) "ways" = some none)
   (EF : PySem.W.nsIn K mainGlobals "Tree" = some (some (.ref aq))) (Ae : PySem.W.plainGet K aq Str.empty = true) (Af : PySem.W.hasDictIn K aq = true) (Ag : PySem.W.plainOver K aq = true) (Ah : PySem.W.findIn K (.ref aq) "__setattr__" = some (some (.builtin "object.__setattr__"))) (Ai : PySem.W.makesIn K aq = true) (Aj : PySem.W.keepIn K (.ref aq) = true)
   (kZ : PySem.W.findIn K (.ref aq) "kinds" = some none)
   (jD : PySem.W.findIn K (.ref aq) "elders" = some none)
   (jE : PySem.W.findIn K (.ref aq) "starts" = some none)
   (Ak : PySem.W.nsIn K mainGlobals "_law_mixed" = some (some (.ref zT))) (Al : iY K "_law_mixed" "_law_mixed" tT zT PX)
   (rV : PySem.W.nsIn K mainGlobals "_law_cell_at" = some (some (.ref rS))) (rW : iY K "_law_cell_at" "_law_cell_at" mP rS Ij)
   (Am : PySem.W.nsIn K mainGlobals "_law_chain" = some (some (.ref zU))) (An : iY K "_law_chain" "_law_chain" tU zU PY)
   (vU : PySem.W.nsIn K mainGlobals "_law_elders" = some (some (.ref vH))) (vV : iY K "_law_elders" "_law_elders" qd vH Lw)
   (Ao : PySem.W.nsIn K mainGlobals "_law_lists" = some (some (.ref zV))) (Aq : iY K "_law_lists" "_law_lists" tV zV PZ)
   (As : PySem.W.nsIn K mainGlobals "_law_opens" = some (some (.ref zW))) (Au : iY K "_law_opens" "_law_opens" tW zW P0)
   (vW : PySem.W.nsIn K mainGlobals "_law_number" = some (some (.ref vI))) (vX : iY K "_law_number" "_law_number" qe vI Lx)
   (Av : PySem.W.nsIn K mainGlobals "_law_boxes" = some (some (.ref zX))) (Aw : iY K "_law_boxes" "_law_boxes" tX zX P1)
   (EG : PySem.W.nsIn K mainGlobals "_law_name" = some (some (.ref Ey))) (EH : iY K "_law_name" "_law_name" zc Ey V6)
   (Ax : PySem.W.nsIn K mainGlobals "_law_signs" = some (some (.ref zY))) (Ay : iY K "_law_signs" "_law_signs" tY zY P4)
   (Az : PySem.W.nsIn K mainGlobals "_law_small" = some (some (.ref zZ))) (AA : iY K "_law_small" "_law_small" tZ zZ P5)
   (AF : PySem.W.nsIn K mainGlobals "_law_worth" = some (some (.ref z0))) (AG : iY K "_law_worth" "_law_worth" t6 z0 P6)
   (LC : PySem.W.nsIn K mainGlobals "_law_due" = some (some (.ref Lr))) (LD : iY K "_law_due" "_law_due" Gf Lr Y4)
   (LJ : PySem.W.nsIn K mainGlobals "_law_ask" = some (some (.ref Ls))) (LK : iY K "_law_ask" "_law_ask" Gg Ls Y5)
   (LN : PySem.W.nsIn K mainGlobals "_law_way" = some (some (.ref Lv))) (LQ : iY K "_law_way" "_law_way" Gj Lv Y6)
   (EI : PySem.W.nsIn K mainGlobals "_law_ways" = some (some (.ref Ez))) (EJ : iY K "_law_ways" "_law_ways" zo Ez Ly)
   {rR : Addr} {P9 : Option Addr} {Gv : Array Value} {Qa : Array (Option Value)} (AH : Ly.code = .ref rR) (Gw : K.lookup rR = some ⟨.type "code", P9, .fields Gv, Qa⟩) (Gy : Gv[11]? = some (.ref aF)) (ur : PySem.W.codeHdIn K rR aF = true) (AI : aF ≠ 0) (AJ : K.lookup aF = none) (AK : aF ∈ T0)
   (mz : PySem.W.findIn K (.ref aq) "__init__" = some (some (.ref jf))) (mC : PySem.W.isFn K (.ref jf) = true) (sV : iY K "__init__" "Tree.__init__" ja jf C6)
   (k6 : PySem.W.findIn K (.ref ak) "__init__" = some (some (.ref iu))) (k7 : PySem.W.isFn K (.ref iu) = true) (qQ : iY K "__init__" "Chart.__init__" gY iu Ac)
   (AO : PySem.W.nsIn K mainGlobals "_law_chart" = some (some (.ref z6))) (AQ : iY K "_law_chart" "_law_chart" uc z6 P7)
   (rX : PySem.W.nsIn K mainGlobals "_law_fits" = some (some (.ref rT))) (rY : iY K "_law_fits" "_law_fits" ny rT Ik)
   (EK : PySem.W.nsIn K mainGlobals "_law_goes" = some (some (.ref EA))) (EL : iY K "_law_goes" "_law_goes" zB EA V7)
   (pA : PySem.W.nsIn K mainGlobals "_law_holds" = some (some (.ref oY))) (pB : iY K "_law_holds" "_law_holds" kO oY ED)
   (pC : PySem.W.nsIn K mainGlobals "_law_picks" = some (some (.ref oZ))) (pD : iY K "_law_picks" "_law_picks" kP oZ EE)
   (AU : PySem.W.nsIn K mainGlobals "_law_whole" = some (some (.ref z7))) (AV : iY K "_law_whole" "_law_whole" ud z7 P8)
   (ER : PySem.W.nsIn K mainGlobals "_law_same" = some (some (.ref EB))) (EV : iY K "_law_same" "_law_same" s_same EB g_same)
   (jF : PySem.W.nsIn K mainGlobals "open_leaves" = some (some (.ref jz))) (jG : iY K "open_leaves" "open_leaves" gD jz jx)
   (AW : PySem.W.nsIn K mainGlobals "above" = some (some (.ref z8))) (AX : iY K "above" "above" uf z8 zI)
   (EW : PySem.W.nsIn K mainGlobals "fits" = some (some (.ref EC))) (EX : iY K "fits" "fits" zG EC Em)
   (vY : PySem.W.nsIn K mainGlobals "goable" = some (some (.ref vJ))) (vZ : iY K "goable" "goable" qK vJ qM)
   {j9 : Addr} {Il : Option Addr} {yb : Array Value} {Im : Array (Option Value)} (rZ : qM.code = .ref j9) (yc : K.lookup j9 = some ⟨.type "code", Il, .fields yb, Im⟩) (yd : yb[11]? = some (.ref ay)) (nX : PySem.W.codeHdIn K j9 ay = true) (r6 : ay ≠ 0) (r9 : K.lookup ay = none) (se : ay ∈ T0)
   (AY : PySem.W.nsIn K mainGlobals "value" = some (some (.ref z9))) (AZ : iY K "value" "value" ug z9 um)
   (A0 : PySem.W.nsIn K mainGlobals "holds" = some (some (.ref Aa))) (A1 : iY K "holds" "holds" uh Aa zL)
   (pF : PySem.W.nsIn K mainGlobals "all_hold" = some (some (.ref pe))) (pG : iY K "all_hold" "all_hold" kR pe oX)
   (jH : PySem.W.nsIn K mainGlobals "number_asks" = some (some (.ref jA))) (jI : iY K "number_asks" "number_asks" gE jA jy)
   (A2 : PySem.W.nsIn K mainGlobals "picks" = some (some (.ref Ab))) (A3 : iY K "picks" "picks" uo Ab qP)
   (v5 : PySem.W.nsIn K mainGlobals "_law_stayed" = some (some (.ref vK))) (v7 : iY K "_law_stayed" "_law_stayed" qN vK Lz)
   (Gz : PySem.W.nsIn K mainGlobals "law" = some (some (.ref SQ))) (LR : iY K "law" "law" Gu SQ SR)
   (LV : PySem.W.nsIn K mainGlobals "len" = some none)
   (A4 : PySem.W.nsIn K mainGlobals "range" = some none)
   (LW : PySem.W.nsIn K mainGlobals "int" = some none)
   (A5 : PySem.W.nsIn K mainGlobals "tuple" = some none)
   (v8 : PySem.W.nsIn K mainGlobals "sorted" = some none)
   (EY : PySem.W.nsIn K mainGlobals "list" = some none)
   (LX : PySem.W.nsIn K mainGlobals "str" = some none)
   (k8 : PySem.W.nsIn K mainGlobals "isinstance" = some none)
   (y_bool : PySem.W.nsIn K mainGlobals "bool" = some none)
   (mD : PySem.W.nsIn K mainGlobals "enumerate" = some none)
   {Qc : Tok} (EZ : PySem.W.nsIn K mainGlobals "SIGN" = some (some (.int 1 Qc)))
   {Io : Tok} (v9 : PySem.W.nsIn K mainGlobals "SOURCE" = some (some (.int 0 Io)))
   {Qd : Tok} (E1 : PySem.W.nsIn K mainGlobals "ASKS" = some (some (.int 2 Qd)))
   (pH : PySem.W.nsIn K mainGlobals "reversed" = some none)
   (iX : ay ≠ aF)
   : ∃ (fd : FuncData) (ts : List (Addr × Str)), (∀ p ∈ ts, p.1 ∈ T0 /\ ts.lookup p.1 = some p.2 /\ K.lookup p.1 = none /\ ∃ c, PySem.W.CodeHd h c p.1) /\ (∀ (s : Shared) (v : Value), BindsTo s fd ⟨[v], []⟩ [("script", v)]) /\ ∀ base : Heap, K.In base -> base.Ns mainGlobals mg -> uR mg base -> bV l.prog w K mg base gq 5 fa fd ["script"] (spT K ts 1 nT nU nV) := by
 have e := hfa.symm.trans (afq XX G Gz)
 cases e
 have Qe := afq XX G Ak
 have Qf := Al.binds (ps := ["cell", "salt"]) fun _ _ _ _ _ _ => by refine bF ?_; exact fun _ _ => rfl
 have Iq := afq XX G rV
 have Ir := rW.binds (ps := ["script", "k"]) fun _ _ _ _ _ _ => by refine bF ?_; exact fun _ _ => rfl
 have Qg := afq XX G Am
 have Qh := An.binds (ps := ["elders", "mood"]) fun _ _ _ _ _ _ => by refine bF ?_; exact fun _ _ => rfl
 have LY := afq XX G vU
 have LZ := vV.binds (ps := ["script"]) fun _ _ _ _ _ _ => by refine bF ?_; exact fun _ => rfl
 have Qi := afq XX G Ao
 have Qj := Aq.binds (ps := ["script"]) fun _ _ _ _ _ _ => by refine bF ?_; exact fun _ => rfl
 have Qk := afq XX G As
 have Ql := Au.binds (ps := ["lists"]) fun _ _ _ _ _ _ => by refine bF ?_; exact fun _ => rfl
 have L0 := afq XX G vW
 have L1 := vX.binds (ps := ["cell"]) fun _ _ _ _ _ _ => by refine bF ?_; exact fun _ => rfl
 have Qm := afq XX G Av
 have Qn := Aw.binds (ps := ["script"]) fun _ _ _ _ _ _ => by refine bF ?_; exact fun _ => rfl
 have V8 := afq XX G EG
 have V9 := EH.binds (ps := ["cell"]) fun _ _ _ _ _ _ => by refine bF ?_; exact fun _ => rfl
 have Qo := afq XX G Ax
 have Qp := Ay.binds (ps := ["script"]) fun _ _ _ _ _ _ => by refine bF ?_; exact fun _ => rfl
 have Qq := afq XX G Az
 have Qs := AA.binds (ps := ["cell"]) fun _ _ _ _ _ _ => by refine bF ?_; exact fun _ => rfl
 have Qt := afq XX G AF
 have Qu := AG.binds (ps := ["term", "boxes"]) fun _ _ _ _ _ _ => by refine bF ?_; exact fun _ _ => rfl
 have Y7 := afq XX G LC
 have Y8 := LD.binds (ps := ["mark", "one", "other"]) fun _ _ _ _ _ _ => by refine bF ?_; exact fun _ _ _ => rfl
 have Y9 := afq XX G LJ
 have Za := LK.binds (ps := ["cell", "opens", "many", "boxes"]) fun _ _ _ _ _ _ => by refine bF ?_; exact fun _ _ _ _ => rfl
 have Zb := afq XX G LN
 have Zc := LQ.binds (ps := ["cell", "opens", "many", "boxes", "three"]) fun _ _ _ _ _ _ => by refine bF ?_; exact fun _ _ _ _ _ => rfl
 have Wa := afq XX G EI
 have Wb := EJ.binds (ps := ["script", "opens", "many", "boxes", "three"]) fun _ _ _ _ _ _ => by refine bF ?_; exact fun _ _ _ _ _ => rfl
 have C7 := sV.binds (ps := ["self", "kinds", "elders", "starts"]) fun _ _ _ _ _ _ => by refine bF ?_; exact fun _ _ _ _ => rfl
 have A6 := qQ.binds (ps := ["self", "boxes", "names", "tree", "ins", "outs", "ways"]) fun _ _ _ _ _ _ => by refine bF ?_; exact fun _ _ _ _ _ _ _ => rfl
 have Qv := afq XX G AO
 have Qw := AQ.binds (ps := ["lists", "boxes", "ways"]) fun _ _ _ _ _ _ => by refine bF ?_; exact fun _ _ _ => rfl
 have Iu := afq XX G rX
 have Iv := rY.binds (ps := ["asks", "opens"]) fun _ _ _ _ _ _ => by refine bF ?_; exact fun _ _ => rfl
 have Wc := afq XX G EK
 have Wd := EL.binds (ps := ["ways", "opens", "chain", "sign"]) fun _ _ _ _ _ _ => by refine bF ?_; exact fun _ _ _ _ => rfl
 have E2 := afq XX G pA
 have E3 := pB.binds (ps := ["asks", "boxes"]) fun _ _ _ _ _ _ => by refine bF ?_; exact fun _ _ => rfl
 have E4 := afq XX G pC
 have E5 := pD.binds (ps := ["lists", "ways", "opens", "boxes", "sign"]) fun _ _ _ _ _ _ => by refine bF ?_; exact fun _ _ _ _ _ => rfl
 have Qx := afq XX G AU
 have Qy := AV.binds (ps := ["found"]) fun _ _ _ _ _ _ => by refine bF ?_; exact fun _ => rfl
 have Wf := afq XX G ER
 have Wg := EV.binds (ps := ["found", "due"]) fun _ _ _ _ _ _ => by refine bF ?_; exact fun _ _ => rfl
 have wW := afq XX G jF
 have wX := jG.binds (ps := ["chart", "opens"]) fun _ _ _ _ _ _ => by refine bF ?_; exact fun _ _ => rfl
 have Qz := afq XX G AW
 have QB := AX.binds (ps := ["tree", "mood"]) fun _ _ _ _ _ _ => by refine bF ?_; exact fun _ _ => rfl
 have Wh := afq XX G EW
 have Wi := EX.binds (ps := ["asks", "opens"]) fun _ _ _ _ _ _ => by refine bF ?_; exact fun _ _ => rfl
 have L4 := afq XX G vY
 have L5 := vZ.binds (ps := ["chart", "opens", "leaf", "sign"]) fun _ _ _ _ _ _ => by refine bF ?_; exact fun _ _ _ _ => rfl
 have QC := afq XX G AY
 have QD := AZ.binds (ps := ["term", "boxes"]) fun _ _ _ _ _ _ => by refine bF ?_; exact fun _ _ => rfl
 have QF := afq XX G A0
 have QG := A1.binds (ps := ["ask", "boxes"]) fun _ _ _ _ _ _ => by refine bF ?_; exact fun _ _ => rfl
 have E6 := afq XX G pF
 have E7 := pG.binds (ps := ["asks", "boxes"]) fun _ _ _ _ _ _ => by refine bF ?_; exact fun _ _ => rfl
 have wY := afq XX G jH
 have wZ := jI.binds (ps := ["chart", "way"]) fun _ _ _ _ _ _ => by refine bF ?_; exact fun _ _ => rfl
 have QH := afq XX G A2
 have QI := A3.binds (ps := ["chart", "opens", "boxes", "sign"]) fun _ _ _ _ _ _ => by refine bF ?_; exact fun _ _ _ _ => rfl
 have L6 := afq XX G v5
 have L7 := v7.binds (ps := ["chart", "lists", "ways"]) fun _ _ _ _ _ _ => by refine bF ?_; exact fun _ _ _ => rfl
 have ac0 := afq XX G Gz
 have ac1 := LR.binds (ps := ["script"]) fun _ _ _ _ _ _ => by refine bF ?_; exact fun _ => rfl
 have QJ := afq XX G Ad
 have cO : wc K ak := ⟨vN, vO, vP, vQ⟩
 have qR : wc K ((cl ak aq aF ay) "Chart") := by rw [gn]; exact cO
 have w4 : bB K ((cl ak aq aF ay) "Chart") "boxes" := by rw [gn]; exact jB
 have w9 : bB K ((cl ak aq aF ay) "Chart") "names" := by rw [gn]; exact jC
 have iy : bB K ((cl ak aq aF ay) "Chart") "tree" := by rw [gn]; exact kW
 have C8 : bB K ((cl ak aq aF ay) "Chart") "ins" := by rw [gn]; exact mw
 have A7 : bB K ((cl ak aq aF ay) "Chart") "outs" := by rw [gn]; exact kX
 have iz : bB K ((cl ak aq aF ay) "Chart") "ways" := by rw [gn]; exact kY
 have Wj := afq XX G EF
 have f6 : wc K aq := ⟨Ae, Af, Ag, Ah⟩
 have A8 : wc K ((cl ak aq aF ay) "Tree") := by rw [nW]; exact f6
 have k9 : bB K ((cl ak aq aF ay) "Tree") "kinds" := by rw [nW]; exact kZ
 have jJ : bB K ((cl ak aq aF ay) "Tree") "elders" := by rw [nW]; exact jD
 have ow : bB K ((cl ak aq aF ay) "Tree") "starts" := by rw [nW]; exact jE
 have oz := af3 XX G LV
 have iA := af3 XX G A4
 have SV := af3 XX G LW
 have GA := af3 XX G A5
 have C9 := af3 XX G v8
 have sf := af3 XX G EY
 have Zd := af3 XX G LX
 have qS := af3 XX G k8
 have Wk := af3 XX G y_bool
 have Dc := af3 XX G mD
 have Wm : ∃ u, mg "SIGN" = some (.int 1 u) := ⟨_, afq XX G EZ⟩
 have L8 : ∃ u, mg "SOURCE" = some (.int 0 u) := ⟨_, afq XX G v9⟩
 have Ma : ∃ u, mg "ASKS" = some (.int 2 u) := ⟨_, afq XX G E1⟩
 have E8 := af3 XX G pH
 refine ⟨SR, [(aF, "_law_ways.<locals>.<lambda>"), (ay, "goable.<locals>.<lambda>")], ?tabs, ?bind, fun base kb _ bl => ?_⟩
 case tabs =>
   intro p hp
   simp only [afe, afK, or_false] at hp
   rcases hp with rfl | rfl
   . exact ⟨AK, by simp only [afL, agz], AJ, rR, PySem.W.codeHd_of_K XX ur⟩
   . exact ⟨se, by simp only [afL, agz, beq_false_of_ne iX], r9, j9, PySem.W.codeHd_of_K XX nX⟩
 case bind =>
   obtain ⟨oc, od, kV, doc, pm, an, dI, ct, IQ, rfl, lk, iD⟩ := LR.ex
   exact fun s v => .of_eq rfl
 have QK : bV l.prog w K mg base gq 1 zT _ ["cell", "salt"] (kg K (cl ak aq aF ay) 2 fM fN fO) := bu Al Ct fun dI Ar outer s H E b a hr hp => by
   obtain ⟨p0, p1⟩ := a; refine OI ?_ p0 p1 hp
   exact ⟨⟨⟨Ct.nd, rfl, rfl⟩, hr.units⟩, bA vd 0, bA vd 1, bA vd 2⟩
 have qT := cI QK Qe Al.kp Qf
 have Iw : bV l.prog w K mg base gq 1 rS _ ["script", "k"] (kg K (cl ak aq aF ay) 2 eV eW eX) := bu rW ve fun dI Ar outer s H E b a hr hp => by
   obtain ⟨p0, p1⟩ := a; refine Ie ?_ p0 p1 hp
   exact ⟨⟨⟨ve.nd, rfl, rfl⟩, hr.units⟩, bA oN 0, bA oN 1, dS oN 2, oz⟩
 have nY := cI Iw Iq rW.kp Ir
 have QL : bV l.prog w K mg base gq 1 zU _ ["elders", "mood"] (kg K (cl ak aq aF ay) 2 jT iC jU) := bu An Cu fun dI Ar outer s H E b a hr hp => by
   obtain ⟨p0, p1⟩ := a; refine OL ?_ p0 p1 hp
   exact ⟨⟨⟨Cu.nd, rfl, rfl⟩, hr.units⟩, bA qc 0, bA qc 1, bA qc 2, bA qc 3⟩
 have GB := cI QL Qg An.kp Qh
 have Mb : bV l.prog w K mg base gq 2 vH _ ["script"] (kg K (cl ak aq aF ay) 1 kF kG kH) := bu vV xX fun dI Ar outer s H E b a hr hp => by
   refine KS ?_ a hp
   exact ⟨⟨⟨xX.nd, rfl, rfl⟩, hr.units⟩, bA dP 0, bA dP 1, bA dP 2, bA dP 3, bA dP 4, bA dP 5, dS dP 6, dS dP 7, dS dP 8, dS dP 9, dS dP 10, dG qT hr, dG nY hr, iA, dG GB hr, oz⟩
 have Mf := cI Mb LY vV.kp LZ
 have QM : bV l.prog w K mg base gq 3 zV _ ["script"] (kg K (cl ak aq aF ay) 1 mR mS mU) := bu Aq Cw fun dI Ar outer s H E b a hr hp => by
   refine OQ ?_ a hp
   exact ⟨⟨⟨Cw.nd, rfl, rfl⟩, hr.units⟩, bA cT 0, DQ cT 1, cV cT 1 rfl, bA cT 2, bA cT 3, bA cT 4, DQ cT 5, cV cT 5 rfl, bA cT 6, bA cT 7, dS cT 8, dS cT 9, dS cT 10, dS cT 11, dS cT 12, dG Mf hr, iA, oz, dG qT hr, dG nY hr⟩
 have QN := cI QM Qi Aq.kp Qj
 have QO : bV l.prog w K mg base gq 1 zW _ ["lists"] (kg K (cl ak aq aF ay) 1 mV jW mW) := bu Au Cy fun dI Ar outer s H E b a hr hp => by
   obtain ⟨p0, p1, p2, p3⟩ := a; refine OU ?_ p0 p1 p2 p3 hp
   exact ⟨⟨⟨Cy.nd, rfl, rfl⟩, hr.units⟩, bA jX 0, bA jX 1, bA jX 2, bA jX 3, dS jX 4, dS jX 5, iA, oz⟩
 have QS := cI QO Qk Au.kp Ql
 have Mg : bV l.prog w K mg base gq 1 vI _ ["cell"] (kg K (cl ak aq aF ay) 1 kK kL kM) := bu vX xZ fun dI Ar outer s H E b a hr hp => by
   refine KZ ?_ a hp
   exact ⟨⟨⟨xZ.nd, rfl, rfl⟩, hr.units⟩, bA xY 0, bA xY 1⟩
 have Mh := cI Mg L0 vX.kp L1
 have QT : bV l.prog w K mg base gq 2 zX _ ["script"] (kg K (cl ak aq aF ay) 1 mX mY mZ) := bu Aw Cz fun dI Ar outer s H E b a hr hp => by
   refine OW ?_ a hp
   exact ⟨⟨⟨Cz.nd, rfl, rfl⟩, hr.units⟩, DQ jY 0, cV jY 0 rfl, bA jY 1, dS jY 2, dS jY 3, dS jY 4, dG qT hr, dG nY hr, iA, dG Mh hr⟩
 have QV := cI QT Qm Aw.kp Qn
 have Wn : bV l.prog w K mg base gq 1 Ey _ ["cell"] (kg K (cl ak aq aF ay) 1 qf qg qh) := bu EH Ge fun dI Ar outer s H E b a hr hp => by
   refine VD ?_ a hp
   exact ⟨⟨⟨Ge.nd, rfl, rfl⟩, hr.units⟩, bA m5 0, bA m5 1, bA m5 2, bA m5 3, bA m5 4, dS m5 5, iA⟩
 have Wo := cI Wn V8 EH.kp V9
 have QW : bV l.prog w K mg base gq 2 zY _ ["script"] (kg K (cl ak aq aF ay) 1 m7 m8 m9) := bu Ay CB fun dI Ar outer s H E b a hr hp => by
   refine OY ?_ a hp
   exact ⟨⟨⟨CB.nd, rfl, rfl⟩, hr.units⟩, bA qi 0, bA qi 1, dS qi 2, dS qi 3, dG Wo hr, dG nY hr⟩
 have QX := cI QW Qo Ay.kp Qp
 have QY : bV l.prog w K mg base gq 1 zZ _ ["cell"] (kg K (cl ak aq aF ay) 1 ng nh ni) := bu AA CF fun dI Ar outer s H E b a hr hp => by
   refine O1 ?_ a hp
   exact ⟨⟨⟨CF.nd, rfl, rfl⟩, hr.units⟩, bA CD 0, bA CD 1⟩
 have QZ := cI QY Qq AA.kp Qs
 have Q0 : bV l.prog w K mg base gq 1 z0 _ ["term", "boxes"] (kg K (cl ak aq aF ay) 2 jZ j3 j4) := bu AG CH fun dI Ar outer s H E b a hr hp => by
   obtain ⟨p0, p1, p2⟩ := a; refine O4 ?_ p0 p1 p2 hp
   exact ⟨⟨⟨CH.nd, rfl, rfl⟩, hr.units⟩, bA CG 0, bA CG 1⟩
 have GC := cI Q0 Qt AG.kp Qu
 have Ze : bV l.prog w K mg base gq 1 Lr _ ["mark", "one", "other"] (kg K (cl ak aq aF ay) 3 qj qk ql) := bu LD K3 fun dI Ar outer s H E b a hr hp => by
   obtain ⟨p0, p1, p2⟩ := a; refine YH ?_ p0 p1 p2 hp
   exact ⟨⟨⟨K3.nd, rfl, rfl⟩, hr.units⟩, bA D5 0, bA D5 1, bA D5 2⟩
 have SW := cI Ze Y7 LD.kp Y8
 have Zf : bV l.prog w K mg base gq 2 Ls _ ["cell", "opens", "many", "boxes"] (kg K (cl ak aq aF ay) 4 t7 qm t8) := bu LK K9 fun dI Ar outer s H E b a hr hp => by
   obtain ⟨p0, p1, p2, p3⟩ := a; refine YK ?_ p0 p1 p2 p3 hp
   exact ⟨⟨⟨K9.nd, rfl, rfl⟩, hr.units⟩, bA dQ 0, bA dQ 1, bA dQ 2, bA dQ 3, bA dQ 4, DQ dQ 5, cV dQ 5 rfl, bA dQ 6, bA dQ 7, bA dQ 8, DQ dQ 9, cV dQ 9 rfl, DQ dQ 10, cV dQ 10 rfl, bA dQ 11, dS dQ 12, dS dQ 13, dS dQ 14, dS dQ 15, dS dQ 16, dG qT hr, SV, oz, dG QZ hr, dG GC hr, dG SW hr⟩
 have Zg := cI Zf Y9 LK.kp Za
 have Zh : bV l.prog w K mg base gq 3 Lv _ ["cell", "opens", "many", "boxes", "three"] (kg K (cl ak aq aF ay) 5 t9 qq ua) := bu LQ Lb fun dI Ar outer s H E b a hr hp => by
   obtain ⟨p0, p1, p2, p3, p4⟩ := a; refine YN ?_ p0 p1 p2 p3 p4 hp
   exact ⟨⟨⟨Lb.nd, rfl, rfl⟩, hr.units⟩, bA eY 0, bA eY 1, bA eY 2, bA eY 3, bA eY 4, bA eY 5, bA eY 6, bA eY 7, bA eY 8, bA eY 9, bA eY 10, bA eY 11, dS eY 12, dS eY 13, dS eY 14, dS eY 15, dS eY 16, dG qT hr, oz, iA, dG Zg hr, GA⟩
 have Zi := cI Zh Zb LQ.kp Zc
 have Wq : bV l.prog w K mg base gq 4 Ez _ ["script", "opens", "many", "boxes", "three"] (kg K (cl ak aq aF ay) 5 qu lS qv) := Cg EJ Gm fun dI Ar outer s H E b a iD hr hp => by
   obtain ⟨p0, p1, p2, p3, p4⟩ := a; refine VL ?_ p0 p1 p2 p3 p4 hp
   exact ⟨⟨⟨Gm.nd, rfl, rfl⟩, hr.units⟩, bA fZ 0, DQ fZ 1, cV fZ 1 rfl, DQ fZ 2, cV fZ 2 rfl, DQ fZ 3, cV fZ 3 rfl, DQ fZ 4, cV fZ 4 rfl, bA fZ 5, dS fZ 6, C9, dG Zi hr, Yu bl kb iD AH (by rw [x9]; exact ur) (by rw [x9]; exact AI), F3 hr, hr⟩
 have Wr := cI Wq Wa EJ.kp Wb
 have Dd : bV l.prog w K mg base gq 1 jf _ ["self", "kinds", "elders", "starts"] (Yb K (cl ak aq aF ay) "Tree" 4 oj om oq) := FT sV qx fun dI Ar outer s H E b a y hr hp => by
   obtain ⟨p0, p1, p2⟩ := a; refine CK ?_ p0 p1 p2 y hp
   exact ⟨⟨⟨qx.nd, rfl, rfl⟩, hr.units⟩, bA f9 0, bA f9 1, bA f9 2, bA f9 3, dS f9 4, sf, A8, k9, jJ, ow⟩
 have A9 : bV l.prog w K mg base gq 1 iu _ ["self", "boxes", "names", "tree", "ins", "outs", "ways"] (Yb K (cl ak aq aF ay) "Chart" 7 lU lV lW) := FT qQ ou fun dI Ar outer s H E b a y hr hp => by
   obtain ⟨p0, p1, p2, p3, p4, p5⟩ := a; refine zx ?_ p0 p1 p2 p3 p4 p5 y hp
   exact ⟨⟨⟨ou.nd, rfl, rfl⟩, hr.units⟩, bA cR 0, bA cR 1, bA cR 2, bA cR 3, bA cR 4, bA cR 5, bA cR 6, dS cR 7, sf, qR, w4, w9, iy, C8, A7, iz⟩
 have Q5 : bV l.prog w K mg base gq 3 z6 _ ["lists", "boxes", "ways"] (kg K (cl ak aq aF ay) 3 nq j6 nu) := bu AQ CP fun dI Ar outer s H E b a hr hp => by
   obtain ⟨p0, p1, p2, p3, p4, p5⟩ := a; refine Pg ?_ p0 p1 p2 p3 p4 p5 hp
   exact ⟨⟨⟨CP.nd, rfl, rfl⟩, hr.units⟩, bA eZ 0, bA eZ 1, bA eZ 2, bA eZ 3, bA eZ 4, bA eZ 5, dS eZ 6, dS eZ 7, dS eZ 8, dS eZ 9, dS eZ 10, iA, oz, ⟨⟨_, _, _, by rw [nW]; exact ⟨Ai, mz, mC, Aj⟩, Dd, by rw [nW]; exact Wj, C7⟩, hr.mono (by decide)⟩, sf, ⟨⟨_, _, _, by rw [gn]; exact ⟨vR, k6, k7, vS⟩, A9, by rw [gn]; exact QJ, A6⟩, hr.mono (by decide)⟩, Zd⟩
 have Q6 := cI Q5 Qv AQ.kp Qw
 have Iz : bV l.prog w K mg base gq 1 rT _ ["asks", "opens"] (kg K (cl ak aq aF ay) 2 jb gG jc) := bu rY vt fun dI Ar outer s H E b a hr hp => by
   obtain ⟨p0, p1⟩ := a; refine Ih ?_ p0 p1 hp
   exact ⟨⟨⟨vt.nd, rfl, rfl⟩, hr.units⟩, bA oS 0, bA oS 1, bA oS 2⟩
 have IA := cI Iz Iu rY.kp Iv
 have Ws : bV l.prog w K mg base gq 2 EA _ ["ways", "opens", "chain", "sign"] (kg K (cl ak aq aF ay) 4 qz lX lY) := bu EL Gp fun dI Ar outer s H E b a hr hp => by
   obtain ⟨p0, p1, p2, p3⟩ := a; refine VR ?_ p0 p1 p2 p3 hp
   exact ⟨⟨⟨Gp.nd, rfl, rfl⟩, hr.units⟩, bA gC 0, bA gC 1, bA gC 2, bA gC 3, bA gC 4, bA gC 5, bA gC 6, dS gC 7, dS gC 8, dS gC 9, iA, oz, dG IA hr⟩
 have Wt := cI Ws Wc EL.kp Wd
 have E9 : bV l.prog w K mg base gq 2 oY _ ["asks", "boxes"] (kg K (cl ak aq aF ay) 2 gZ gf g6) := bu pB sP fun dI Ar outer s H E b a hr hp => by
   obtain ⟨p0, p1, p2⟩ := a; refine Ed ?_ p0 p1 p2 hp
   exact ⟨⟨⟨sP.nd, rfl, rfl⟩, hr.units⟩, bA gH 0, bA gH 1, bA gH 2, dS gH 3, dS gH 4, dG SW hr, dG GC hr⟩
 have Fb := cI E9 E2 pB.kp E3
 have Fd : bV l.prog w K mg base gq 3 oZ _ ["lists", "ways", "opens", "boxes", "sign"] (kg K (cl ak aq aF ay) 5 g7 gi g8) := bu pD sQ fun dI Ar outer s H E b a hr hp => by
   obtain ⟨p0, p1, p2, p3, p4, p5, p6, p7⟩ := a; refine Ei ?_ p0 p1 p2 p3 p4 p5 p6 p7 hp
   exact ⟨⟨⟨sQ.nd, rfl, rfl⟩, hr.units⟩, bA bS 0, DQ bS 1, cV bS 1 rfl, bA bS 2, DQ bS 3, cV bS 3 rfl, bA bS 4, bA bS 5, bA bS 6, bA bS 7, bA bS 8, dS bS 9, dS bS 10, dG GB hr, dG Wt hr, dG Fb hr⟩
 have Fe := cI Fd E4 pD.kp E5
 have Q7 : bV l.prog w K mg base gq 1 z7 _ ["found"] (kg K (cl ak aq aF ay) 1 nB nE nF) := bu AV CV fun dI Ar outer s H E b a hr hp => by
   refine Pk ?_ a hp
   exact ⟨⟨⟨CV.nd, rfl, rfl⟩, hr.units⟩, bA qB 0, dS qB 1, dS qB 2, dS qB 3, qS, SV, Wk⟩
 have Q8 := cI Q7 Qx AV.kp Qy
 have Wu : bV l.prog w K mg base gq 2 EB _ ["found", "due"] (kg K (cl ak aq aF ay) 2 qC qD qE) := bu EV Gq fun dI Ar outer s H E b a hr hp => by
   obtain ⟨p0, p1⟩ := a; refine VZ ?_ p0 p1 hp
   exact ⟨⟨⟨Gq.nd, rfl, rfl⟩, hr.units⟩, bA jd 0, bA jd 1, bA jd 2, dS jd 3, dS jd 4, dS jd 5, dS jd 6, dS jd 7, qS, sf, oz, iA, dG Q8 hr⟩
 have Wv := cI Wu Wf EV.kp Wg
 have xg : bV l.prog w K mg base gq 1 jz _ ["chart", "opens"] (kg K (cl ak aq aF ay) 2 fC ef fD) := bu jG lZ fun dI Ar outer s H E b a hr hp => by
   obtain ⟨p0, p1, p2, p3, p4, p5, p6, p7, p8⟩ := a; refine wN ?_ p0 p1 p2 p3 p4 p5 p6 p7 p8 hp
   exact ⟨⟨⟨lZ.nd, rfl, rfl⟩, hr.units⟩, DQ iT 0, cV iT 0 rfl, bA iT 1, qR, A8, k9, iy⟩
 have xh := cI xg wW jG.kp wX
 have Q9 : bV l.prog w K mg base gq 1 z8 _ ["tree", "mood"] (kg K (cl ak aq aF ay) 2 nG j7 nI) := bu AX CW fun dI Ar outer s H E b a hr hp => by
   obtain ⟨p0, p1, p2, p3⟩ := a; refine Pq ?_ p0 p1 p2 p3 hp
   exact ⟨⟨⟨CW.nd, rfl, rfl⟩, hr.units⟩, bA qH 0, bA qH 1, bA qH 2, bA qH 3, A8, jJ⟩
 have Ra := cI Q9 Qz AX.kp QB
 have Ww : bV l.prog w K mg base gq 1 EC _ ["asks", "opens"] (kg K (cl ak aq aF ay) 2 qI mh qJ) := bu EX Gr fun dI Ar outer s H E b a hr hp => by
   obtain ⟨p0, p1⟩ := a; refine V1 ?_ p0 p1 hp
   exact ⟨⟨⟨Gr.nd, rfl, rfl⟩, hr.units⟩, bA zH 0, bA zH 1, bA zH 2⟩
 have Wx := cI Ww Wh EX.kp Wi
 have Mi : bV l.prog w K mg base gq 2 vJ _ ["chart", "opens", "leaf", "sign"] (kg K (cl ak aq aF ay) 4 kQ iU iV) := Cg vZ x6 fun dI Ar outer s H E b a iD hr hp => by
   obtain ⟨p0, p1, p2, p3, p4, p5, p6, p7, p8, p9, p10⟩ := a; refine Lf ?_ p0 p1 p2 p3 p4 p5 p6 p7 p8 p9 p10 hp
   exact ⟨⟨⟨x6.nd, rfl, rfl⟩, hr.units⟩, DQ bT 0, cV bT 0 rfl, bA bT 1, bA bT 2, bA bT 3, bA bT 4, bA bT 5, bA bT 6, DQ bT 7, cV bT 7 rfl, dS bT 8, dS bT 9, dS bT 10, dS bT 11, dS bT 12, dS bT 13, dS bT 14, dG Ra hr, Dc, Wm, L8, dG Wx hr, Ma, C9, qR, iz, iy, Yu bl kb iD rZ (by rw [sU]; exact nX) (by rw [sU]; exact r6), F3 hr, hr⟩
 have Mj := cI Mi L4 vZ.kp L5
 have Rb : bV l.prog w K mg base gq 1 z9 _ ["term", "boxes"] (kg K (cl ak aq aF ay) 2 nJ nK nL) := bu AZ C2 fun dI Ar outer s H E b a hr hp => by
   obtain ⟨p0, p1, p2⟩ := a; refine Pw ?_ p0 p1 p2 hp
   exact ⟨⟨⟨C2.nd, rfl, rfl⟩, hr.units⟩, bA qL 0, bA qL 1, bA qL 2, bA qL 3⟩
 have Rc := cI Rb QC AZ.kp QD
 have Rf : bV l.prog w K mg base gq 2 Aa _ ["ask", "boxes"] (kg K (cl ak aq aF ay) 2 nM nO nP) := bu A1 C3 fun dI Ar outer s H E b a hr hp => by
   obtain ⟨p0, p1, p2, p3, p4, p5⟩ := a; refine Py ?_ p0 p1 p2 p3 p4 p5 hp
   exact ⟨⟨⟨C3.nd, rfl, rfl⟩, hr.units⟩, bA j8 0, bA j8 1, bA j8 2, bA j8 3, bA j8 4, dS j8 5, dG Rc hr⟩
 have Rg := cI Rf QF A1.kp QG
 have Ff : bV l.prog w K mg base gq 3 pe _ ["asks", "boxes"] (kg K (cl ak aq aF ay) 2 ic gj ig) := bu pG sS fun dI Ar outer s H E b a hr hp => by
   obtain ⟨p0, p1, p2⟩ := a; refine Es ?_ p0 p1 p2 hp
   exact ⟨⟨⟨sS.nd, rfl, rfl⟩, hr.units⟩, bA je 0, bA je 1, bA je 2, dS je 3, dG Rg hr⟩
 have Fg := cI Ff E6 pG.kp E7
 have xj : bV l.prog w K mg base gq 1 jA _ ["chart", "way"] (kg K (cl ak aq aF ay) 2 fE eu fF) := bu jI mj fun dI Ar outer s H E b a hr hp => by
   obtain ⟨p0, p1, p2, p3, p4, p5, p6, p7⟩ := a; refine wQ ?_ p0 p1 p2 p3 p4 p5 p6 p7 hp
   exact ⟨⟨⟨mj.nd, rfl, rfl⟩, hr.units⟩, bA gk 0, bA gk 1, dS gk 2, dS gk 3, GA, Ma, qR, iz⟩
 have xm := cI xj wY jI.kp wZ
 have Rh : bV l.prog w K mg base gq 4 Ab _ ["chart", "opens", "boxes", "sign"] (kg K (cl ak aq aF ay) 4 nQ gy nR) := bu A3 C4 fun dI Ar outer s H E b a hr hp => by
   obtain ⟨p0, p1, p2, p3, p4, p5, p6, p7, p8, p9, p10⟩ := a; refine PD ?_ p0 p1 p2 p3 p4 p5 p6 p7 p8 p9 p10 hp
   exact ⟨⟨⟨C4.nd, rfl, rfl⟩, hr.units⟩, bA eB 0, bA eB 1, bA eB 2, bA eB 3, bA eB 4, bA eB 5, bA eB 6, dS eB 7, dS eB 8, dS eB 9, dS eB 10, dS eB 11, dG xh hr, dG Mj hr, dG Fg hr, dG xm hr, sf⟩
 have Ri := cI Rh QH A3.kp QI
 have Ml : bV l.prog w K mg base gq 1 vK _ ["chart", "lists", "ways"] (kg K (cl ak aq aF ay) 3 kT iW kU) := bu v7 x8 fun dI Ar outer s H E b a hr hp => by
   obtain ⟨p0, p1, p2, p3, p4, p5, p6, p7, p8⟩ := a; refine Li ?_ p0 p1 p2 p3 p4 p5 p6 p7 p8 hp
   exact ⟨⟨⟨x8.nd, rfl, rfl⟩, hr.units⟩, bA nS 0, bA nS 1, bA nS 2, bA nS 3, qR, A8, iy, iz, k9, jJ, ow⟩
 have Mm := cI Ml L6 v7.kp L7
 have Zj : bV l.prog w K mg base gq 5 _ _ ["script"] (kg K (cl ak aq aF ay) 1 nT nU nV) := bu LR Lq fun dI Ar outer s H E b a hr hp => by
   refine YY ?_ a hp
   exact ⟨⟨⟨Lq.nd, rfl, rfl⟩, hr.units⟩, bA cG 0, bA cG 1, bA cG 2, bA cG 3, bA cG 4, bA cG 5, bA cG 6, bA cG 7, bA cG 8, bA cG 9, bA cG 10, bA cG 11, dS cG 12, dS cG 13, dS cG 14, dS cG 15, dS cG 16, dS cG 17, dS cG 18, dS cG 19, dS cG 20, dS cG 21, dS cG 22, dS cG 23, dS cG 24, dG QN hr, dG QS hr, dG QV hr, dG QX hr, dG Wr hr, oz, dG Q6 hr, E8, dG Fe hr, sf, dG Wv hr, dG Ri hr, dG Mm hr⟩
 exact Zj.imp (Oa (fun _ => rfl) (fun _ => rfl) fun x hx h0 => PV hx h0)
theorem walk {l : PySem.W.OpenLaw} {q : Program} {loose : List Str} {XP : (Str -> Option Value) -> Heap -> Prop} {YP : World -> Heap -> Prop} {d : DefRec} {K : Params -> PySem.W.Frag} {T0 : List Addr} (hn : l.most = some 63) (XJ : d.params.defaults = [])
   (hY : ∀ (w : World) (h : Heap), YP w h -> (K w.params).In h) (hT : ∀ (w : World) (h : Heap), YP w h -> ∀ P ∈ T0, h.get? P = some (PySem.W.tabObj #[]))
   (F : ∀ (w : World) (mg : Str -> Option Value) (fa : Addr) (h : Heap), (K w.params).In h -> h.Ns mainGlobals mg -> mg d.name = some (.ref fa) →
     ∃ (fd : FuncData) (ts : List (Addr × Str)), (∀ p ∈ ts, p.1 ∈ T0 /\ ts.lookup p.1 = some p.2 /\ (K w.params).lookup p.1 = none /\ ∃ c, PySem.W.CodeHd h c p.1) /\ (∀ (s : Shared) (u : Value), BindsTo s fd ⟨[u], []⟩ [("script", u)]) /\ ∀ base : Heap, (K w.params).In base -> base.Ns mainGlobals mg -> uR mg base -> bV l.prog w (K w.params) mg base gq 5 fa fd ["script"] (spT (K w.params) ts 1 nT nU nV)) :
   PySem.W.WalkO q loose XP YP l.row.toRowW d [] (fun f vs => PySem.call f vs) :=
 Ko (n := 63) (k := 5) (x := "script") (sp := fun w ts => spT (K w.params) ts 1 nT nU nV) hn (by decide) XJ ⟨rfl, by decide, by decide⟩ hY hT F (fun _ _ _ a ns hl hS ht => Ob rfl hl rfl hS ht)
end Law
open PySem PySem.W PyProof.Rows
set_option maxRecDepth 100000 in
set_option maxHeartbeats 0 in
theorem PySem.Challenge.cw_moodtree_k33_what_is_picked_holds : PySem.Challenge.rw_moodtree_k33_what_is_picked.Holds := by
 w_on; o_law; k_head; (case hw => w_witness2)
 k_fill
 refine Law.walk (l := PySem.Challenge.rw_moodtree_k33_what_is_picked) rfl rfl (fun w h Y => PySem.W.km_in_of Y) (fun w h Y => PySem.W.km_tabs_of Y) ?F
 case F =>
   intro w mg fa h KX G XM
   refine' Law.all_mk KX G XM ?Ad ?vN ?vO ?vP ?vQ ?vR ?vS ?jB ?jC ?kW ?mw ?kX ?kY ?EF ?Ae ?Af ?Ag ?Ah ?Ai ?Aj ?kZ ?jD ?jE ?Ak (L2.bD ?aO ?Rj ?Rk) ?rV (L2.bD ?IB ?IC ?IE) ?Am (L2.bD ?nA ?Rl ?Rm) ?vU (L2.bD ?cC ?Mp ?vg) ?Ao (L2.bD ?bL ?Rn ?Ro) ?As (L2.bD ?aM ?Rp ?zq) ?vW (L2.bD ?gI ?Mq ?Mr) ?Av (L2.bD ?aU ?Rq ?qw) ?EG (L2.bD ?jq ?Wy ?Wz) ?Ax (L2.bD ?Rr ?Rt ?Ru) ?Az (L2.bD ?Rw ?Rx ?Ry) ?AF (L2.bD ?Rz ?RA ?RB) ?LC (L2.bD ?qF ?Zk ?Zm) ?LJ (L2.bD ?cU ?Zn ?Zo) ?LN (L2.bD ?sR ?Zq ?Zr) ?EI (L2.bD ?cN ?WB ?Eg) ?AH ?Gw ?Gy ?ur ?AI ?AJ ?AK ?mz ?mC (L2.bD ?De ?Df ?Dg) ?k6 ?k7 (L2.bD ?Ba ?Bb ?Bc) ?AO (L2.bD ?cj ?RC ?qG) ?rX (L2.bD ?IG ?II ?IJ) ?EK (L2.bD ?WC ?WD ?WG) ?pA (L2.bD ?Fi ?Fj ?Fl) ?pC (L2.bD ?Fo ?Fp ?Fq) ?AU (L2.bD ?RD ?RG ?k_whole) ?ER (L2.bD ?WH ?WK ?k_same) ?jF (L2.bD ?xo ?xq ?xr) ?AW (L2.bD ?RH ?RJ ?RK) ?EW (L2.bD ?WL ?WM ?WN) ?vY (L2.bD ?Ms ?Mt ?Mu) ?rZ ?yc ?yd ?nX ?r6 ?r9 ?se ?AY (L2.bD ?RL ?RM ?RN) ?A0 (L2.bD ?RP ?RQ ?RT) ?pF (L2.bD ?Ft ?Fv ?Fw) ?jH (L2.bD ?xu ?xx ?xA) ?A2 (L2.bD ?RV ?RW ?RX) ?v5 (L2.bD ?Mv ?Mw ?Mx) ?Gz (L2.bD ?Zt ?Zu ?Zv) ?LV ?A4 ?LW ?A5 ?v8 ?EY ?LX ?k8 ?y_bool ?mD ?EZ ?v9 ?E1 ?pH ?iX
   case Ad | vN | vO | vP | vQ | vR | vS | jB | jC | kW | mw | kX | kY | EF | Ae | Af | Ag | Ah | Ai | Aj | kZ | jD | jE | Ak | aO | Rj | Rk | rV | IB | IC | IE | Am | nA | Rl | Rm | vU | cC | Mp | vg | Ao | bL | Rn | Ro | As | aM | Rp | zq | vW | gI | Mq | Mr | Av | aU | Rq | qw | EG | jq | Wy | Wz | Ax | Rr | Rt | Ru | Az | Rw | Rx | Ry | AF | Rz | RA | RB | LC | qF | Zk | Zm | LJ | cU | Zn | Zo | LN | sR | Zq | Zr | EI | cN | WB | Eg => k_is
   case AH => exact rfl
   case Gw => k_is
   case Gy => exact rfl
   case ur => kernel_rfl
   case AI => decide
   case AJ => kernel_rfl
   case AK => decide
   case mz | mC | De | Df | Dg | k6 | k7 | Ba | Bb | Bc | AO | cj | RC | qG | rX | IG | II | IJ | EK | WC | WD | WG | pA | Fi | Fj | Fl | pC | Fo | Fp | Fq | AU | RD | RG | k_whole | ER | WH | WK | k_same | jF | xo | xq | xr | AW | RH | RJ | RK | EW | WL | WM | WN | vY | Ms | Mt | Mu => k_is
   case rZ => exact rfl
   case yc => k_is
   case yd => exact rfl
   case nX => kernel_rfl
   case r6 => decide
   case r9 => kernel_rfl
   case se => decide
   case AY | RL | RM | RN | A0 | RP | RQ | RT | pF | Ft | Fv | Fw | jH | xu | xx | xA | A2 | RV | RW | RX | v5 | Mv | Mw | Mx | Gz | Zt | Zu | Zv | LV | A4 | LW | A5 | v8 | EY | LX | k8 | y_bool | mD | EZ | v9 | E1 | pH => k_is
   case iX => decide
