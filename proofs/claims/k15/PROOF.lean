import PyProof.Rows.All
import Wide.All
import OpenK.AllK
import Wide.FinOn
import Lean
import PyProof.EqAt
import PyProof.EqKinds
import PyProof.TupleCall
import PySem.Challenge.RW_moodtree_k15_whole_charts_are_let
set_option Elab.async false
set_option linter.all false
set_option maxRecDepth 100000
set_option maxHeartbeats 4000000
namespace L2
open PySem PySem.Spec PyProof.Rows
noncomputable abbrev aea := @List.length_map
noncomputable abbrev aeb := @List.mem_append_right
noncomputable abbrev aec := @Nat.le_of_ble_eq_true
noncomputable abbrev aed := @List.append_assoc
noncomputable abbrev aee := @PySem.W.mg_of
noncomputable abbrev aef := @List.mem_cons_self
noncomputable abbrev aeg := @List.getD_eq_getElem?_getD
noncomputable abbrev aeh := @List.mem_cons_of_mem
noncomputable abbrev aei := @List.mem_append_left
noncomputable abbrev aej := @decide_eq_true
noncomputable abbrev aek := @List.mem_cons
noncomputable abbrev ael := @Nat.le_refl
noncomputable abbrev aem := @Heap.get?_push_of_some
noncomputable abbrev aen := @List.mem_append
noncomputable abbrev aeo := @List.getElem?_eq_getElem
noncomputable abbrev aep := @Bool.false_ne_true
noncomputable abbrev aeq := @if_neg
noncomputable abbrev aer := @if_pos
noncomputable abbrev aes := @Heap.lt_size
noncomputable abbrev aeu := @List.mem_map
noncomputable abbrev aev := @Bool.and_eq_true
noncomputable abbrev aew := @List.map_cons
noncomputable abbrev aex := @List.length_append
noncomputable abbrev aey := @Nat.zero_le
noncomputable abbrev aez := @of_decide_eq_true
noncomputable abbrev aeA := @decide_eq_false
noncomputable abbrev aeB := @List.cons_append
noncomputable abbrev aeC := @wpAny_bind
noncomputable abbrev aeD := @List.getElem?_eq_some_iff
noncomputable abbrev aeE := @List.size_toArray
noncomputable abbrev aeF := @List.not_mem_nil
noncomputable abbrev aeG := @List.Sublist.refl
noncomputable abbrev aeH := @Option.some.inj
noncomputable abbrev aeI := @Nat.lt_of_lt_of_le
noncomputable abbrev aeJ := @Int.emod_lt_of_pos
noncomputable abbrev aeK := @Heap.get?_push_size
noncomputable abbrev aeL := @List.Sublist.append
noncomputable abbrev aeM := @Nat.ne_of_lt
noncomputable abbrev aeN := @List.map_map
noncomputable abbrev aeO := @List.lookup_cons
noncomputable abbrev aeP := @List.perm_append_comm
noncomputable abbrev aeQ := @List.mem_of_getElem?
noncomputable abbrev aeR := @List.mem_range
noncomputable abbrev aeS := @List.getElem?_map
noncomputable abbrev aeT := @List.Perm.append_left
noncomputable abbrev aeU := @Int.emod_nonneg
noncomputable abbrev aeV := @List.length_cons
noncomputable abbrev aeW := @List.length_range
noncomputable abbrev aeX := @wpAny_pure
noncomputable abbrev aeY := @List.append_nil
noncomputable abbrev aeZ := @Nat.le_trans
noncomputable abbrev ae0 := @List.nodup_append
noncomputable abbrev ae1 := @Int.toNat_natCast
noncomputable abbrev ae2 := @Nat.le_of_lt
noncomputable abbrev ae3 := @of_decide_eq_false
noncomputable abbrev ae4 := @PySem.W.mg_none_of
noncomputable abbrev ae5 := @List.sublist_append_right
noncomputable abbrev ae6 := @List.all_eq_true
noncomputable abbrev ae7 := @List.any_cons
noncomputable abbrev ae8 := @wpAny_truthy_bool
noncomputable abbrev ae9 := @List.nodup_cons
noncomputable abbrev afa := @PySem.mem_of_lookup
noncomputable abbrev afb := @Int.zero_add
noncomputable abbrev afc := @List.all_cons
noncomputable abbrev afd := @List.getElem?_append_right
noncomputable abbrev afe := @List.getElem_mem
noncomputable abbrev afg := @List.length_replicate
noncomputable abbrev afh := @sizeLine_eq
noncomputable abbrev afi := @List.filterMap_cons
noncomputable abbrev afj := @List.getElem?_range
noncomputable abbrev afk := @List.perm_middle
noncomputable abbrev afl := @PyProof.Rows.callWith_type1
noncomputable abbrev afm := @List.pairwise_cons
noncomputable abbrev afn := @wpAny_passesOwn
noncomputable abbrev afo := @List.find?_cons
noncomputable abbrev afp := @List.range_succ
noncomputable abbrev afq := @List.reverse_cons
noncomputable abbrev afr := @wpAny_mono
noncomputable abbrev afs := @List.drop_eq_getElem_cons
noncomputable abbrev aft := @List.length_take
noncomputable abbrev afu := @F.called_set
noncomputable abbrev afv := @beq_eq_false_iff_ne
noncomputable abbrev afw := @List.map_congr_left
noncomputable abbrev afx := @wpAny_getItem_str_slice
noncomputable abbrev afy := @List.mem_filter
noncomputable abbrev afz := @Bool.eq_iff_iff
noncomputable abbrev afA := @wpAny_Call_Name_kw
noncomputable abbrev afB := @PySem.W.kia_one
noncomputable abbrev afC := @List.map_append
noncomputable abbrev afD := @List.all_append
noncomputable abbrev afE := @Option.map_eq_some_iff
noncomputable abbrev afF := @decide_eq_true_eq
noncomputable abbrev afG := @Ne.symm
noncomputable abbrev afH := @Txt.slice_le
noncomputable abbrev afI := @Nat.lt_succ_self
noncomputable abbrev afJ := @Nat.lt_irrefl
noncomputable abbrev afK := @List.getElem?_append_left
noncomputable abbrev afL := @codeAny_mono
noncomputable abbrev afM := @List.Pairwise.imp_of_mem
noncomputable abbrev afN := @List.Perm.refl
noncomputable abbrev afO := @List.nodup_nil
noncomputable abbrev afP := @F.plain_set_update_loop
noncomputable abbrev afQ := @List.take_add_one
noncomputable abbrev afR := @wpAny_holding
noncomputable abbrev Key := Sum Int Str
noncomputable def zU : Key -> Value -> Bool
 | .inl k, v => Value.isInt k v
 | .inr x, v => Value.isStrOf x v
noncomputable def Zh (w : World) : Key -> Int
 | .inl k => hashInt k
 | .inr x => hashStr w x
theorem dw : ∀ {k : Key} {v : Value}, zU k v = true -> (∃ i t, k = Sum.inl i /\ v = Value.int i t) \/ (∃ x t, k = Sum.inr x /\ v = Value.str x t)
 | .inl i, v, h => by
   obtain ⟨t, e⟩ := Value.isInt_shape (k := i) (v := v) h
   exact .inl ⟨i, t, rfl, e⟩
 | .inr x, v, h => by
   obtain ⟨t, e⟩ := Value.isStrOf_shape (x := x) (v := v) h
   exact .inr ⟨x, t, rfl, e⟩
theorem Ir (i : Int) (t : Tok) : zU (.inl i) (.int i t) = true := by simp [zU, Value.isInt]
theorem Iu (x : Str) (t : Tok) : zU (.inr x) (.str x t) = true := by simp [zU, Value.isStrOf]
theorem Sn (a b : Int) : decide ((Sum.inl a : Key) = Sum.inl b) = (a == b) := by
 by_cases e : a = b
 . subst e; simp
 . have h : ¬ (Sum.inl a : Key) = Sum.inl b := fun q => e (Sum.inl.inj q)
   rw [aeA h]
   exact (afv.mpr e).symm
theorem Sq (a b : Str) : decide ((Sum.inr a : Key) = Sum.inr b) = decide (a = b) := by
 by_cases e : a = b
 . subst e; simp
 . have h : ¬ (Sum.inr a : Key) = Sum.inr b := fun q => e (Sum.inr.inj q)
   rw [aeA h, aeA e]
theorem Ss (a : Int) (b : Str) : decide ((Sum.inl a : Key) = Sum.inr b) = false := aeA (fun q => nomatch q)
theorem Sv (a : Str) (b : Int) : decide ((Sum.inr a : Key) = Sum.inl b) = false := aeA (fun q => nomatch q)
noncomputable def gj (prog : Program) (w : World) : PySem.KeyKind prog w Key where
 is := zU
 hash := Zh w
 inj := fun v a b ha hb => by
   rcases dw ha with ⟨i, t, rfl, rfl⟩ | ⟨x, t, rfl, rfl⟩
   . rcases dw hb with ⟨j, u, rfl, e⟩ | ⟨y, u, rfl, e⟩
     . injection e with e1 _; rw [e1]
     . exact nomatch e
   . rcases dw hb with ⟨j, u, rfl, e⟩ | ⟨y, u, rfl, e⟩
     . exact nomatch e
     . injection e with e1 _; rw [e1]
 byValue := fun k v h => by
   rcases dw h with ⟨i, t, rfl, rfl⟩ | ⟨x, t, rfl, rfl⟩ <;> rfl
 pyHash := fun hv h => by
   rcases dw hv with ⟨i, t, rfl, rfl⟩ | ⟨x, t, rfl, rfl⟩
   . exact wpAny_pyHash_int h
   . exact wpAny_pyHash_str h
 eqBool := fun hu hv h => by
   rcases dw hu with ⟨i, t, rfl, rfl⟩ | ⟨x, t, rfl, rfl⟩
   . rcases dw hv with ⟨j, u, rfl, rfl⟩ | ⟨y, u, rfl, rfl⟩
     . rw [Sn] at h; exact wpAny_eqBool_int h
     . rw [Ss] at h; exact SeqAt.EqAt.int_str i t y u _ _ _ _ h
   . rcases dw hv with ⟨j, u, rfl, rfl⟩ | ⟨y, u, rfl, rfl⟩
     . rw [Sv] at h; exact SeqAt.EqAt.str_int x t j u _ _ _ _ h
     . rw [Sq] at h; exact wpAny_eqBool_str h
 «strs» := fun k x t v h => by
   rcases dw h with ⟨i, u, rfl, e⟩ | ⟨y, u, rfl, e⟩
   . exact nomatch e
   . injection e with e1 _
     subst e1
     cases v <;> rfl
theorem CV (prog : Program) (w : World) (i : Int) (t : Tok) : (gj prog w).is (.inl i) (.int i t) = true := Ir i t
theorem CW (prog : Program) (w : World) (x : Str) (t : Tok) : (gj prog w).is (.inr x) (.str x t) = true := Iu x t
inductive V where
 | non | bl (b : Bool) | int (i : Int) | str (x : Str) | Iv (b : Array UInt8) | Wg (b : UInt64) | ref (a : Addr) | ty (n : String)
 deriving DecidableEq
noncomputable def RelV : V -> Value -> Prop
 | .non, u => u = Value.none
 | .bl b, u => u = Value.bool b
 | .int i, u => ∃ t, u = Value.int i t
 | .str x, u => ∃ t, u = Value.str x t
 | .Iv b, u => ∃ t, u = Value.bytes b t
 | .Wg b, u => ∃ t, u = Value.float b t
 | .ref a, u => u = Value.ref a
 | .ty n, u => u = Value.type n
noncomputable abbrev Vals : List V -> List Value -> Prop := Paired RelV
theorem Vals.length {xs : List V} {us : List Value} (r : Vals xs us) : xs.length = us.length := Paired.length r
theorem Vals.get : ∀ {xs : List V} {us : List Value} {i : Nat} {x : V}, Vals xs us -> xs[i]? = some x -> ∃ u, us[i]? = some u /\ RelV x u
 | _, _, _, _, .nil, e => by simp at e
 | _, _, 0, _, .cons r _, e => by simp at e; subst e; exact ⟨_, rfl, r⟩
 | _, _, i + 1, x, .cons _ t, e => by
   obtain ⟨u, h1, h2⟩ := Vals.get (i := i) (x := x) t (by simpa using e)
   exact ⟨u, by simpa using h1, h2⟩
theorem Vals.set {x : V} {u : Value} (r : RelV x u) : ∀ {xs : List V} {us : List Value} (i : Nat), Vals xs us -> Vals (xs.set i x) (us.set i u)
 | _, _, _, .nil => .nil
 | _, _, 0, .cons _ t => .cons r t
 | _, _, i + 1, .cons q t => .cons q (Vals.set r i t)
theorem Vals.append : ∀ {xs ys : List V} {us ws : List Value}, Vals xs us -> Vals ys ws -> Vals (xs ++ ys) (us ++ ws)
 | _, _, _, _, .nil, s => s
 | _, _, _, _, .cons r t, s => .cons r (Vals.append t s)
theorem Vals.take : ∀ {xs : List V} {us : List Value} (n : Nat), Vals xs us -> Vals (xs.take n) (us.take n)
 | _, _, 0, _ => .nil
 | _, _, _ + 1, .nil => .nil
 | _, _, n + 1, .cons r t => .cons r (Vals.take n t)
theorem Vals.drop : ∀ {xs : List V} {us : List Value} (n : Nat), Vals xs us -> Vals (xs.drop n) (us.drop n)
 | _, _, 0, r => r
 | _, _, _ + 1, .nil => .nil
 | _, _, n + 1, .cons _ t => Vals.drop n t
noncomputable def xJ : Option V -> Option Value -> Prop
 | some v, some u => RelV v u
 | none, none => True
 | _, _ => False
noncomputable def KV {κ : Type} : List (κ × V) -> List (κ × Value) -> Prop := Paired fun (p : κ × V) (q : κ × Value) => p.1 = q.1 /\ RelV p.2 q.2
noncomputable def kV : Key -> V
 | .inl i => .int i
 | .inr x => .str x
inductive HO where
 | lst (xs : List V)
 | tup (xs : List V)
 | dK (aU : List (Key × V)) | dT (aU : List (List Key × V))
 | set (S : Int -> Bool) (n : Nat)
 | ins (C dx : Addr) (fs : List (Str × V))
 | own (x : Addr)
 | xd (fs : List (Str × V))
 | met (f x : Addr)
 | Zi (lo hi : Int)
 | fh (o : Obj) (u : HO)
 | Sw (ps : Array Value)
 | tabs (q : Str)
 | Sx (q : Str)
 | ext (φ : Heap -> Prop)
noncomputable abbrev Hp := Addr -> Option HO
noncomputable def upd (H : Hp) (a : Addr) (o : HO) : Hp := fun b => if b = a then some o else H b
theorem aQ {H : Hp} {a : Addr} {o : HO} : upd H a o a = some o := by unfold upd; rw [aer rfl]
theorem aB {H : Hp} {a b : Addr} {o : HO} (h : b ≠ a) : upd H a o b = H b := by unfold upd; rw [aeq h]
theorem Wh {H : Hp} {a b : Addr} {o u : HO} (h : H a = some o) (h' : H b = some u) (d : o ≠ u) : a ≠ b := by
 intro e; subst e; rw [h] at h'; exact d (aeH h')
theorem bx {H : Hp} {a b : Addr} {o : HO} (h : H a = some o) (h' : H b = none) : a ≠ b := by
 intro e; subst e; rw [h] at h'; cases h'
section
variable (P : Program) (w : World)
noncomputable def fO (H : Hp) (h : Heap) (a : Addr) : HO -> Prop
 | .lst xs => xs.length <= sizeLine /\ ∃ (its : List Value) (n : Nat), Vals xs its /\ h.get? a = some { cls := .type "list", data := .seq its.toArray n }
 | .tup xs => xs.length <= sizeLine /\ ∃ its : List Value, Vals xs its /\ IsTup h a its.toArray
 | .dK aU => aU.length <= sizeLine /\ (a == sysModules) = false /\ ∃ vs, KV aU vs /\ h.DictOf (gj P w) a vs
 | .dT aU => aU.length <= sizeLine /\ (a == sysModules) = false /\ ∃ xs : List (List Key × Addr × Value),
     Paired (fun (p : List Key × V) (q : List Key × Addr × Value) => p.1 = q.1 /\ H q.2.1 = some (.tup (p.1.map kV)) /\ RelV p.2 q.2.2) aU xs ∧
     ∃ o es ep, h.get? a = some o /\ o.ExactDict /\ o.data = .dict es ep /\ es.toList = xs.map (entryOfKey (tupleKind (gj P w))) /\ (xs.map (·.1)).Nodup
 | .set S n => h.SetOf (intKind P w) a S n
 | .ins C dx fs => H dx = some (.own a) /\ fs.length <= 1000 /\ dx ≠ a /\ h.get? a = some (PySem.W.instObj C dx) ∧
     ∃ mA, h.Ns1 dx mA /\ (∀ f, xJ (fs.lookup f) (mA f)) /\ PySem.Within mA (fs.map (·.1))
 | .own _ => ∃ o, h.get? a = some o
 | .xd fs => ∃ mA, h.Ns1 a mA /\ ∀ f, xJ (fs.lookup f) (mA f)
 | .Zi lo hi => ∃ t u v, h.get? a = some { cls := .type "range", data := .fields #[.int lo t, .int hi u, .int 1 v] }
 | .fh o u => h.get? a = some o /\ fO H h a u
 | .Sw ps => h.get? a = some { cls := .none, data := .fields ps }
 | .tabs q => ∃ ps : Array Value, h.get? a = some { cls := .none, data := .fields ps } /\ TriplesOk ps.toList /\ ∀ pos cv, codeAmong pos ps.toList = some cv -> ∃ c, cv = .ref c /\ H c = some (.Sx q)
 | .Sx q => ∃ o vs t, h.get? a = some o /\ o.data = .fields vs /\ vs[1]? = some (.str q t)
 | .met f x => h.get? a = some (PySem.W.methodObj (.ref f) (.ref x))
 | .ext φ => φ h /\ (∃ o, h.get? a = some o) /\ ∀ h1 h2 : Heap, φ h1 -> (∀ o, h1.get? a = some o -> h2.get? a = some o) -> φ h2
noncomputable def rN (H : Hp) (h : Heap) : Prop := ∀ a o, H a = some o -> fO P w H h a o
end
section
variable {P : Program} {w : World} {H H' : Hp} {h h' : Heap} {a : Addr} {o : HO}
theorem fO.lt (x : fO P w H h a o) : a < h.objs.size := by
 cases o with
 | lst xs => obtain ⟨_, _, _, _, e⟩ := x; exact aes e
 | tup xs => obtain ⟨_, _, _, p⟩ := x; exact p.lt
 | dK aU => obtain ⟨_, _, _, _, o, _, _, e, _⟩ := x; exact aes e
 | dT aU => obtain ⟨_, _, _, _, o, _, _, e, _⟩ := x; exact aes e
 | set S n => obtain ⟨o, _, _, _, e, _⟩ := x; exact aes e
 | ins C dx fs => obtain ⟨_, _, _, e, _⟩ := x; exact aes e
 | own y => obtain ⟨_, e⟩ := x; exact aes e
 | xd fs => obtain ⟨_, ⟨_, _, _, e, _⟩, _⟩ := x; exact aes e
 | Zi lo hi => obtain ⟨_, _, _, e⟩ := x; exact aes e
 | fh ob u => obtain ⟨e, _⟩ := x; exact aes e
 | Sw ps => exact aes (show h.get? a = some _ from x)
 | tabs q => obtain ⟨_, e, _⟩ := x; exact aes e
 | Sx q => obtain ⟨_, _, _, e, _⟩ := x; exact aes e
 | met f y => exact aes (show h.get? a = some _ from x)
 | ext φ => obtain ⟨_, ⟨_, e⟩, _⟩ := x; exact aes e
theorem Paired.Sy {α β : Type} {F G : α -> β -> Prop} : ∀ {l₁ : List α} {l₂ : List β}, Paired F l₁ l₂ -> (∀ a b, F a b -> G a b) -> Paired G l₁ l₂
 | _, _, .nil, _ => .nil
 | _, _, .cons r t, f => .cons (f _ _ r) (Paired.Sy t f)
theorem fO.Et (x : fO P w H h a o) (k : ∀ b u, (b = a \/ H b = some (.own a)) -> h.get? b = some u -> h'.get? b = some u)
   (ho : ∀ b, H b = some (.own a) -> H' b = some (.own a)) (ht : ∀ b xs, H b = some (.tup xs) -> H' b = some (.tup xs)) (n8 : ∀ b q, H b = some (.Sx q) -> H' b = some (.Sx q) := by intro _ _ q; exact q) : fO P w H' h' a o := by
 induction o with
 | lst xs => obtain ⟨z, its, n, r, e⟩ := x; exact ⟨z, its, n, r, k _ _ (.inl rfl) e⟩
 | tup xs => obtain ⟨z, its, r, ob, e, c⟩ := x; exact ⟨z, its, r, ob, k _ _ (.inl rfl) e, c⟩
 | dK aU => obtain ⟨z, y, vs, r, ob, es, ep, e, c⟩ := x; exact ⟨z, y, vs, r, ob, es, ep, k _ _ (.inl rfl) e, c⟩
 | dT aU =>
   obtain ⟨z, y, xs, r, ob, es, ep, e, c⟩ := x
   exact ⟨z, y, xs, Paired.Sy r fun p q z => ⟨z.1, ht _ _ z.2.1, z.2.2⟩, ob, es, ep, k _ _ (.inl rfl) e, c⟩
 | set S n => obtain ⟨ob, es, ep, t, e, c⟩ := x; exact ⟨ob, es, ep, t, k _ _ (.inl rfl) e, c⟩
 | ins C dx fs =>
   obtain ⟨d, z, ne, e, mA, ⟨od, es, ep, e2, c⟩, r⟩ := x
   exact ⟨ho _ d, z, ne, k _ _ (.inl rfl) e, mA, ⟨od, es, ep, k _ _ (.inr d) e2, c⟩, r⟩
 | own y => obtain ⟨ob, e⟩ := x; exact ⟨ob, k _ _ (.inl rfl) e⟩
 | xd fs => obtain ⟨mA, ⟨od, es, ep, e, c⟩, r⟩ := x; exact ⟨mA, ⟨od, es, ep, k _ _ (.inl rfl) e, c⟩, r⟩
 | Zi lo hi => obtain ⟨t, u, v, e⟩ := x; exact ⟨t, u, v, k _ _ (.inl rfl) e⟩
 | fh ob u ih => obtain ⟨e, q⟩ := x; exact ⟨k _ _ (.inl rfl) e, ih q⟩
 | Sw ps =>
   have e : h.get? a = some { cls := .none, data := .fields ps } := x
   show h'.get? a = some { cls := .none, data := .fields ps }
   exact k a _ (.inl rfl) e
 | met f y =>
   have e : h.get? a = some (PySem.W.methodObj (.ref f) (.ref y)) := x
   show h'.get? a = some (PySem.W.methodObj (.ref f) (.ref y))
   exact k a _ (.inl rfl) e
 | tabs q => obtain ⟨ps, e, tr, cs⟩ := x; exact ⟨ps, k _ _ (.inl rfl) e, tr, fun pos cv z => let ⟨c, e1, e2⟩ := cs pos cv z; ⟨c, e1, n8 _ _ e2⟩⟩
 | Sx q => obtain ⟨ob, vs, t, e, r⟩ := x; exact ⟨ob, vs, t, k _ _ (.inl rfl) e, r⟩
 | ext φ => obtain ⟨p, ⟨o, e⟩, st⟩ := x; exact ⟨st _ _ p fun o q => k _ _ (.inl rfl) q, ⟨o, k _ _ (.inl rfl) e⟩, st⟩
theorem rN.lt (x : rN P w H h) (e : H a = some o) : a < h.objs.size := (x a o e).lt
theorem rN.fresh (x : rN P w H h) (e : h.objs.size <= a) : H a = none := by
 cases q : H a with
 | none => rfl
 | some u => exact absurd (aeI (x.lt q) e) (afJ _)
theorem rN.kept (x : rN P w H h) (k : ∀ b u, h.get? b = some u -> h'.get? b = some u) : rN P w H h' := fun a o e =>
 (x a o e).Et (fun b u _ q => k b u q) (fun _ q => q) fun _ _ q => q
theorem rN.laid (x : rN P w H h) (k : ∀ b u, h.get? b = some u -> h'.get? b = some u) (hp : h.objs.size <= a) (new : fO P w (upd H a o) h' a o) : rN P w (upd H a o) h' := fun b u e => by
 have hn := x.fresh hp
 by_cases hb : b = a
 . subst hb; rw [aQ] at e; cases e; exact new
 . rw [aB hb] at e
   exact (x b u e).Et (fun c v _ q => k c v q) (fun c q => by rw [aB (bx q hn)]; exact q) (fun c xs q => by rw [aB (bx q hn)]; exact q) fun c z q => by rw [aB (bx q hn)]; exact q
end
noncomputable def Rd (H : Hp) (a : Addr) (u : HO) : Prop := H a = some u \/ ∃ o, H a = some (.fh o u)
theorem Rd.ok {P : Program} {w : World} {H : Hp} {h : Heap} {a : Addr} {u : HO} (r : Rd H a u) (x : rN P w H h) : fO P w H h a u := by
 rcases r with r | ⟨o, r⟩
 . exact x a u r
 . obtain ⟨_, q⟩ := x a _ r
   exact q
noncomputable def Wi : Option HO -> Prop
 | some (.lst _) => True
 | some (.dK _) => True
 | some (.dT _) => True
 | some (.set _ _) => True
 | some (.ins _ _ _) => True
 | some (.ext _) => True
 | some (.tabs _) => True
 | _ => False
section
variable {P : Program} {w : World} {H : Hp} {h h' : Heap} {x e : Addr} {o' : HO}
theorem rN.write (ok : rN P w H h) (mu : Wi (H x)) (he : e = x \/ H e = some (.own x)) (k : ∀ b u, b ≠ e -> h.get? b = some u -> h'.get? b = some u) (V2 : ∃ u, h'.get? e = some u)
   (new : fO P w (upd H x o') h' x o') : rN P w (upd H x o') h' := fun b u q => by
 have Wj : ∀ c y, H c = some (.own y) -> c ≠ x := fun c y r z => by subst z; rw [r] at mu; exact mu
 have Zj : ∀ c xs, H c = some (.tup xs) -> c ≠ x := fun c xs r z => by subst z; rw [r] at mu; exact mu
 have Zk : ∀ c q, H c = some (.Sx q) -> c ≠ x := fun c q r z => by subst z; rw [r] at mu; exact mu
 by_cases hb : b = x
 . subst hb; rw [aQ] at q; cases q; exact new
 . rw [aB hb] at q
   by_cases Sz : b = e
   . have q' : H b = some (.own x) := by
       rcases he with z | z
       . exact absurd (Sz.trans z) hb
       . rw [Sz]; exact z
     rw [q] at q'; cases q'
     obtain ⟨v, hv⟩ := V2
     exact ⟨v, by rw [Sz]; exact hv⟩
   . refine (ok b u q).Et (fun c v hc r => k c v ?_ r) (fun c r => by rw [aB (Wj c b r)]; exact r) (fun c xs r => by rw [aB (Zj c xs r)]; exact r) fun c z r => by rw [aB (Zk c z r)]; exact r
     rcases hc with rfl | hc
     . exact Sz
     . rintro rfl
       rcases he with z | z
       . exact Wj c b hc z
       . rw [hc] at z; cases z; exact hb rfl
end
structure Un (fs ex : List Addr) (H H' : Hp) (h h' : Heap) : Prop where
 keep : ∀ b o, h.get? b = some o -> H b = none -> b ∉ fs -> b ∉ ex -> h'.get? b = some o
 slot : ∀ b o, h.get? b = some o -> H b = none -> b ∈ fs -> b ∉ ex -> ∃ sl, h'.get? b = some { o with slots := sl }
 free : ∀ b o, h.get? b = some o -> H b = none -> b ∉ ex -> H' b = none
 there : ∀ b o, h.get? b = some o -> b ∉ ex -> ∃ o', h'.get? b = some o'
 Ao : ∀ b xs, H b = some (.tup xs) -> H' b = some (.tup xs)
 fM : ∀ b o u, H b = some (.fh o u) -> H' b = some (.fh o u)
 Aq : ∀ b ps, H b = some (.Sw ps) -> ∃ more, H' b = some (.Sw (ps ++ more))
section
variable {fs fs' ex ex' : List Addr} {H H1 H2 : Hp} {h h1 h2 h' : Heap} {a x e : Addr} {o : HO}
theorem Un.any (u : Un fs ex H H1 h h1) {b : Addr} {ob : Obj} (q : h.get? b = some ob) (n : H b = none) (hx : b ∉ ex) : ∃ sl, h1.get? b = some { ob with slots := sl } := by
 by_cases hb : b ∈ fs
 . exact u.slot b ob q n hb hx
 . exact ⟨ob.slots, u.keep b ob q n hb hx⟩
theorem Un.kept (k : ∀ b u, h.get? b = some u -> h'.get? b = some u) : Un fs ex H H h h' :=
 ⟨fun b ob q _ _ _ => k b ob q, fun b ob q _ _ _ => ⟨ob.slots, k b ob q⟩, fun _ _ _ n _ => n, fun b ob q _ => ⟨ob, k b ob q⟩, fun _ _ q => q, fun _ _ _ q => q, fun _ ps q => ⟨#[], by rw [q]; simp⟩⟩
theorem Un.refl : Un fs ex H H h h := Un.kept fun _ _ q => q
theorem Un.laid (k : ∀ b u, h.get? b = some u -> h'.get? b = some u) (hp : h.objs.size <= a) (hn : H a = none) : Un fs ex H (upd H a o) h h' where
 keep := fun b u q _ _ _ => k b u q
 slot := fun b u q _ _ _ => ⟨u.slots, k b u q⟩
 free := fun b u q n _ => by rw [aB (aeM (aeI (aes q) hp))]; exact n
 there := fun b u q _ => ⟨u, k b u q⟩
 Ao := fun b xs q => by rw [aB (bx q hn)]; exact q
 fM := fun b u xs q => by rw [aB (bx q hn)]; exact q
 Aq := fun b ps q => ⟨#[], by rw [aB (bx q hn), q]; simp⟩
theorem Un.write (mu : Wi (H x)) (he : e = x \/ H e = some (.own x)) (k : ∀ b u, b ≠ e -> h.get? b = some u -> h'.get? b = some u) (V2 : ∃ u, h'.get? e = some u) : Un fs ex H (upd H x o) h h' := by
 have hx : ∀ b, H b = none -> b ≠ x := fun b n z => by subst z; rw [n] at mu; exact mu
 have hb : ∀ b, H b = none -> b ≠ e := fun b n z => by
   subst z
   rcases he with r | r
   . exact hx b n r
   . rw [n] at r; cases r
 have hm : ∀ b u, H b = some u -> ¬ Wi (some u) -> b ≠ x := fun b u q nm z => by subst z; rw [q] at mu; exact nm mu
 refine ⟨fun b u q n _ _ => k b u (hb b n) q, fun b u q n _ _ => ⟨u.slots, k b u (hb b n) q⟩, fun b u q n _ => by rw [aB (hx b n)]; exact n, fun b u q _ => ?_,
   fun b xs q => by rw [aB (hm b _ q fun z => z)]; exact q, fun b u xs q => by rw [aB (hm b _ q fun z => z)]; exact q, fun b ps q => ⟨#[], by rw [aB (hm b _ q fun z => z), q]; simp⟩⟩
 by_cases Sz : b = e
 . subst Sz; exact V2
 . exact ⟨u, k b u Sz q⟩
end
noncomputable def YG (h : Heap) (H : Hp) : List Addr := (List.range h.objs.size).filter fun a => (H a).isSome
noncomputable def As (h : Heap) (H : Hp) : Heap := PySem.W.hideAll h (YG h H)
theorem Iw (h : Heap) (H : Hp) : (As h H).objs.size = h.objs.size := PySem.W.hideAll_size _ _
theorem Ke {h : Heap} {H : Hp} {b : Addr} {o : Obj} (e : h.get? b = some o) (n : H b = none) : (As h H).get? b = some o :=
 PySem.W.hideAll_get _ e fun hm => by
   have q : (H b).isSome = true := (afy.mp hm).2
   rw [n] at q; simp at q
theorem N8 {h : Heap} {H : Hp} {b : Addr} {o : Obj} (e : (As h H).get? b = some o) : h.get? b = some o /\ H b = none := by
 have e' : h.get? b = some o := PySem.W.of_hideAll (YG h H) e
 refine ⟨e', ?_⟩
 cases q : H b with
 | none => rfl
 | some x =>
   have hm : b ∈ YG h H := afy.mpr ⟨aeR.mpr (aes e'), by simp [q]⟩
   have z : (As h H).get? b = none := PySem.W.hideAll_none (YG h H) hm
   rw [z] at e; cases e
noncomputable def N9 (g h : Heap) (L : Addr) : List (Addr × Obj) := (List.range h.objs.size).filterMap fun a => if a = L \/ (g.get? a).isSome = true then none else (h.get? a).map fun o => (a, o)
noncomputable def rest (g h : Heap) (L d : Addr) : List (Addr × Obj) := (N9 g h L).filter fun p => decide (p.1 ≠ d)
structure Mod (K : PySem.W.Frag) (mg : Str -> Option Value) (base : Heap) : Prop where
 YH : K.In base
 glob : base.Ns mainGlobals mg
 blt : ∃ mb, base.Ns builtinsNs mb /\ ∀ x : Str, x ≠ "__name__" -> mb x = bootBuiltins x
 nolimit : base.NoLimit
structure Cx where
 prog : Program
 w : World
 K : PySem.W.Frag
 mg : Str -> Option Value
 base : Heap
 A : Around
 N : List Str
 s₀ : Shared
 H₀ : Hp
 env : Env
 outer : List Env
 stack : List Env
 ex : List Addr
 fn : Str -> Bool
 calm : Bool
 pn : List (Addr × Obj)
 xe : Value -> Shared -> Prop
noncomputable def J7 (l : List Env) : List Addr := l.filterMap (·.frame)
noncomputable abbrev Cx.fs (X : Cx) : List Addr := J7 X.outer
noncomputable def V3 (sc : Scope) (x : Str) : Prop := sc.names.lookup x = some .local \/ sc.names.lookup x = some .cell \/ sc.names.lookup x = some .free
noncomputable def Loc (sc : Scope) (x : Str) : Prop := sc.names.lookup x = some .local \/ sc.names.lookup x = some .cell
noncomputable def Look (env : Env) (h : Heap) (m : Str -> Option Value) (x : Str) (u : Value) : Prop :=
 (env.kindOf x = some .local /\ m x = some u) \/ ((env.kindOf x = some .cell \/ env.kindOf x = some .free) /\ ∃ c, env.cells.lookup x = some c /\ h.IsCell c (some u))
structure Cx.Ok (X : Cx) : Prop where
 mod : Mod X.K X.mg X.base
 kind : X.env.scope.kind = .function
 glob : X.env.globals = mainGlobals
 blt : X.env.builtins = builtinsNs
 above : X.s₀.heap.objs.size <= X.env.locals
 inj : ∀ x y c, X.env.cells.lookup x = some c -> X.env.cells.lookup y = some c -> x = y
 has : ∀ x, (X.env.kindOf x = some .cell \/ X.env.kindOf x = some .free) -> ∃ c, X.env.cells.lookup x = some c
 Wk : ∀ x c, X.fn x = true -> X.env.cells.lookup x = some c -> X.s₀.heap.objs.size <= c
 hd : X.calm = true -> X.A.handled = none
 frames : X.A.frames = some X.stack
 YJ : X.stack = X.outer \/ (X.stack = X.env :: X.outer /\ X.env.frame = some X.env.locals)
 exf : ∀ b ∈ X.ex, b ≠ X.env.locals /\ ∀ x c, X.env.cells.lookup x = some c -> c ≠ b
 bs : ∀ b o, X.base.get? b = some o -> X.s₀.heap.get? b = some o /\ X.H₀ b = none
 Oa : X.base.objs.size <= X.s₀.heap.objs.size
 Kf : ∀ b o, X.base.get? b = some o -> b ∉ X.ex
 Ob : ∀ b ∈ X.ex, b ∉ X.fs
 vP : X.s₀.heap.FunFrames X.base X.outer
 SD : ∀ b ∈ X.fs, X.H₀ b = none
structure Inv (X : Cx) (pins : List (Addr × Obj)) (σ : List (Option V)) (H : Hp) (s : Shared) : Prop where
 ok : X.Ok
 os : s.os = X.s₀.os
 bare : AllBare s.gens
 base : Un X.fs X.ex X.H₀ H X.s₀.heap s.heap
 loc : ∃ m, s.heap.Ns X.env.locals m /\ ∀ (i : Nat) (x : Str) (v : V), X.N[i]? = some x -> σ[i]? = some (some v) -> V3 X.env.scope x -> ∃ u, RelV v u /\ Look X.env s.heap m x u
 cell : ∀ x c, X.env.cells.lookup x = some c -> ∃ v, s.heap.IsCell c v
 free : H X.env.locals = none
 qp : ∀ x c, X.env.cells.lookup x = some c -> H c = none
 pin : ∀ p ∈ X.pn ++ pins, s.heap.get? p.1 = some p.2 /\ H p.1 = none /\ p.1 ≠ X.env.locals /\ p.1 ∉ X.fs /\ ∀ v, p.2.data ≠ .cell v
 fN : rN X.prog X.w H s.heap
 len : σ.length = X.N.length
section
variable {X : Cx} {pins : List (Addr × Obj)} {σ : List (Option V)} {H H' : Hp} {s : Shared} {h' : Heap}
theorem Cx.Ok.Zm (ok : X.Ok) {b : Addr} {o : Obj} (e : X.base.get? b = some o) : b ∉ X.fs := fun hb => by
 have := (ok.vP.mem hb).1
 rw [e] at this; cases this
theorem Inv.bs (I : Inv X pins σ H s) : ∀ b o, X.base.get? b = some o -> s.heap.get? b = some o /\ H b = none := fun b o e =>
 ⟨I.base.keep b o (I.ok.bs b o e).1 (I.ok.bs b o e).2 (I.ok.Zm e) (I.ok.Kf b o e), I.base.free b o (I.ok.bs b o e).1 (I.ok.bs b o e).2 (I.ok.Kf b o e)⟩
theorem Inv.bk (I : Inv X pins σ H s) : ∀ b o, X.base.get? b = some o -> s.heap.get? b = some o := fun b o e => (I.bs b o e).1
theorem Inv.mod (I : Inv X pins σ H s) : Mod X.K X.mg X.base := I.ok.mod
theorem Inv.CP (I : Inv X pins σ H s) : X.K.In s.heap := I.ok.mod.YH.keeps I.bk
theorem Inv.lt (I : Inv X pins σ H s) : X.env.locals < s.heap.objs.size := let ⟨_, hn, _⟩ := I.loc; hn.lt
theorem Inv.sz (I : Inv X pins σ H s) : X.s₀.heap.objs.size <= s.heap.objs.size := aeZ I.ok.above (ae2 I.lt)
theorem Inv.Zn (I : Inv X pins σ H s) {a : Addr} (h : s.heap.objs.size <= a) : a ∉ X.fs := fun hb => by
 obtain ⟨_, o, ho, _⟩ := I.ok.vP.mem hb
 exact absurd (aeI (aes ho) (aeZ I.sz h)) (afJ _)
theorem Inv.SG (I : Inv X pins σ H s) : ∀ x c, X.env.cells.lookup x = some c -> c ≠ X.env.locals := fun x c e z => by
 obtain ⟨v, o, ho, hd⟩ := I.cell x c e
 obtain ⟨m, ⟨o', es, ep, En, N1, _⟩, _⟩ := I.loc
 rw [z, En] at ho; cases ho; rw [N1] at hd; cases hd
theorem Inv.vP (I : Inv X pins σ H s) : s.heap.FunFrames X.base X.outer := by
 have all : ∀ (l : List Env), (∀ b ∈ J7 l, b ∈ X.fs) -> X.s₀.heap.FunFrames X.base l -> s.heap.FunFrames X.base l := by
   intro l
   induction l with
   | nil => intro _ _; trivial
   | cons env r ih =>
     intro hs hl
     obtain ⟨hk, ⟨L, o, hf, hn, ho, hd⟩, hr⟩ := hl
     have hL : L ∈ X.fs := hs L (by unfold J7; rw [afi, hf]; exact aef)
     obtain ⟨sl, e⟩ := I.base.slot L o ho (I.ok.SD L hL) hL fun z => I.ok.Ob L z hL
     exact ⟨hk, ⟨L, _, hf, hn, e, hd⟩, ih (fun b hb => hs b (by unfold J7; rw [afi, hf]; exact aeh _ hb)) hr⟩
 exact all X.outer (fun _ hb => hb) I.ok.vP
theorem Inv.stack (I : Inv X pins σ H s) : s.heap.FunFrames X.base X.stack := by
 rcases I.ok.YJ with e | ⟨e, hf⟩
 . rw [e]; exact I.vP
 . rw [e]
   obtain ⟨m, hn, _⟩ := I.loc
   refine .cons (by rw [I.ok.kind]; decide) hf hn ?_ I.vP
   exact Heap.get?_none_of_le (aeZ I.ok.Oa I.ok.above)
theorem Inv.Au (I : Inv X pins σ H s) : ∀ b ∈ J7 X.stack, b ∈ X.env.locals :: X.fs := fun b hb => by
 rcases I.ok.YJ with e | ⟨e, hf⟩
 . rw [e] at hb; exact aeh _ hb
 . rw [e] at hb
   unfold J7 at hb
   rw [afi, hf] at hb
   exact hb
theorem Inv.GJ (I : Inv X pins σ H s) : ∀ b ∈ J7 X.stack, H b = none := fun b hb => by
 rcases aek.mp (I.Au b hb) with e | hb
 . rw [e]; exact I.free
 . obtain ⟨_, o, ho, _⟩ := I.ok.vP.mem hb
   exact I.base.free b o ho (I.ok.SD b hb) fun z => I.ok.Ob b z hb
theorem Inv.step {g' : Array GenState} {t' : Nat} {d' : Drawn} {ch : List Addr} (I : Inv X pins σ H s)
   (Rw : ∀ b ∈ ch, (b ∈ X.ex \/ X.s₀.heap.objs.size <= b) /\ b ≠ X.env.locals /\ (∀ x c, X.env.cells.lookup x = some c -> c ≠ b) /\ ∀ p ∈ X.pn ++ pins, p.1 ≠ b)
   (keep : ∀ b o, b ≠ X.env.locals -> b ∉ X.fs -> b ∉ ch -> s.heap.get? b = some o -> H b = none -> h'.get? b = some o)
   (slot : ∀ b o, b ≠ X.env.locals -> b ∈ X.fs -> b ∉ ch -> s.heap.get? b = some o -> H b = none -> ∃ sl, h'.get? b = some { o with slots := sl }) (free : ∀ b o, b ∉ ch -> s.heap.get? b = some o -> H b = none -> H' b = none)
   (there : ∀ b o, b ∉ ch -> s.heap.get? b = some o -> ∃ o', h'.get? b = some o')
   (Ao : ∀ b xs, H b = some (.tup xs) -> H' b = some (.tup xs)) (fM : ∀ b o u, H b = some (.fh o u) -> H' b = some (.fh o u)) (Aq : ∀ b ps, H b = some (.Sw ps) -> ∃ more, H' b = some (.Sw (ps ++ more)))
   (ns : ∀ m, s.heap.Ns X.env.locals m -> h'.Ns X.env.locals m) (fN : rN X.prog X.w H' h') (hg : AllBare g') :
   Inv X pins σ H' { s with heap := h', gens := g', drawn := d', toks := t' } := by
 have neL : ∀ b o, X.s₀.heap.get? b = some o -> b ≠ X.env.locals := fun b o e => aeM (aeI (aes e) I.ok.above)
 have YK : ∀ b o, X.s₀.heap.get? b = some o -> b ∉ X.ex -> b ∉ ch := fun b o e hx hb => by
   rcases (Rw b hb).1 with z | z
   . exact hx z
   . exact absurd (aeI (aes e) z) (afJ _)
 have cellK : ∀ x c, X.env.cells.lookup x = some c -> ∀ v, s.heap.IsCell c v -> h'.IsCell c v := fun x c e v ⟨o, ho, hd⟩ => by
   have Wm : c ∉ ch := fun z => (Rw c z).2.2.1 x c e rfl
   by_cases hc : c ∈ X.fs
   . obtain ⟨sl, q⟩ := slot c o (I.SG x c e) hc Wm ho (I.qp x c e)
     exact ⟨_, q, hd⟩
   . exact ⟨o, keep c o (I.SG x c e) hc Wm ho (I.qp x c e), hd⟩
 refine ⟨I.ok, I.os, hg, ⟨fun b o e n hb hx => ?_, fun b o e n hb hx => ?_, fun b o e n hx => ?_, fun b o e hx => ?_, fun b xs e => Ao b xs (I.base.Ao b xs e), fun b o xs e => fM b o xs (I.base.fM b o xs e), fun b ps e => ?_⟩, ?_, fun x c e => ?_, ?_, fun x c e => ?_, fun p hp => ?_, fN, I.len⟩
 . exact keep b o (neL b o e) hb (YK b o e hx) (I.base.keep b o e n hb hx) (I.base.free b o e n hx)
 . obtain ⟨sl, e1⟩ := I.base.slot b o e n hb hx
   obtain ⟨sl', e2⟩ := slot b _ (neL b o e) hb (YK b o e hx) e1 (I.base.free b o e n hx)
   exact ⟨sl', e2⟩
 . obtain ⟨o', e1⟩ := I.base.there b o e hx
   exact free b o' (YK b o e hx) e1 (I.base.free b o e n hx)
 . obtain ⟨o', e1⟩ := I.base.there b o e hx
   exact there b o' (YK b o e hx) e1
 . obtain ⟨m1, e1⟩ := I.base.Aq b ps e
   obtain ⟨m2, e2⟩ := Aq b _ e1
   exact ⟨m1 ++ m2, by rw [e2, Array.append_assoc]⟩
 . obtain ⟨m, hn, hl⟩ := I.loc
   refine ⟨m, ns m hn, fun i x v e1 e2 e3 => ?_⟩
   obtain ⟨u, r, l⟩ := hl i x v e1 e2 e3
   refine ⟨u, r, ?_⟩
   rcases l with l | ⟨k, c, e, z⟩
   . exact .inl l
   . exact .inr ⟨k, c, e, cellK x c e _ z⟩
 . obtain ⟨v, z⟩ := I.cell x c e
   exact ⟨v, cellK x c e v z⟩
 . obtain ⟨m, ⟨o, _, _, ho, _⟩, _⟩ := I.loc
   exact free _ o (fun z => (Rw _ z).2.1 rfl) ho I.free
 . obtain ⟨v, o, ho, hd⟩ := I.cell x c e
   exact free c o (fun z => (Rw c z).2.2.1 x c e rfl) ho (I.qp x c e)
 . obtain ⟨e, n, ne, nf, d⟩ := I.pin p hp
   have Wm : p.1 ∉ ch := fun z => (Rw p.1 z).2.2.2 p hp rfl
   exact ⟨keep p.1 p.2 ne nf Wm e n, free p.1 p.2 Wm e n, ne, nf, d⟩
theorem Inv.un {t' : Nat} (I : Inv X pins σ H s) (u : Un X.fs [] H H' s.heap h') (fN : rN X.prog X.w H' h') : Inv X pins σ H' { s with heap := h', toks := t' } := by
 obtain ⟨m, ⟨o, es, ep, ho, r⟩, _⟩ := id I.loc
 obtain ⟨sl, hL⟩ := u.any ho I.free (by simp)
 exact I.step (g' := s.gens) (d' := s.drawn) (ch := []) (fun _ z => nomatch z) (fun b o _ hb _ e n => u.keep b o e n hb (by simp)) (fun b o _ hb _ e n => u.slot b o e n hb (by simp)) (fun b o _ e n => u.free b o e n (by simp)) (fun b o _ e => u.there b o e (by simp)) u.Ao u.fM u.Aq (fun m' hm => by
   obtain ⟨o', Zo, Zq, En, r'⟩ := hm
   rw [ho] at En; cases En
   exact ⟨_, Zo, Zq, hL, r'⟩) fN I.bare
theorem Inv.call {g' : Array GenState} {t' : Nat} {d' : Drawn} {ch : List Addr} (I : Inv X pins σ H s) (u : Un (J7 X.stack) ch H H' s.heap h') (fN : rN X.prog X.w H' h') (hg : AllBare g')
   (Rw : ∀ b ∈ ch, (b ∈ X.ex \/ X.s₀.heap.objs.size <= b) /\ b ≠ X.env.locals /\ (∀ x c, X.env.cells.lookup x = some c -> c ≠ b) /\ ∀ p ∈ X.pn ++ pins, p.1 ≠ b) :
   Inv X pins σ H' { s with heap := h', gens := g', drawn := d', toks := t' } := by
 obtain ⟨m, ⟨o, es, ep, ho, r⟩, _⟩ := id I.loc
 obtain ⟨sl, hL⟩ := u.any ho I.free fun z => (Rw _ z).2.1 rfl
 exact I.step (ch := ch) Rw (fun b o hL hb hc e n => u.keep b o e n (fun z => (aek.mp (I.Au b z)).elim hL hb) hc) (fun b o _ _ hc e n => u.any e n hc) (fun b o hc e n => u.free b o e n hc) (fun b o hc e => u.there b o e hc) u.Ao u.fM u.Aq (fun m' hm => by
   obtain ⟨o', Zo, Zq, En, r'⟩ := hm
   rw [ho] at En; cases En
   exact ⟨_, Zo, Zq, hL, r'⟩) fN hg
theorem Inv.turned {t' : Nat} {it : Addr} (I : Inv X pins σ H s) (k : ∀ b o, b ≠ it -> s.heap.get? b = some o -> h'.get? b = some o) (hn : H it = none) (hL : it ≠ X.env.locals)
   (h1 : it ∈ X.ex \/ X.s₀.heap.objs.size <= it) (h2 : ∀ x c, X.env.cells.lookup x = some c -> c ≠ it) (h3 : ∀ p ∈ X.pn ++ pins, p.1 ≠ it) : Inv X pins σ H { s with heap := h', toks := t' } := by
 have nit : ∀ b u, H b = some u -> b ≠ it := fun b u e z => by rw [z, hn] at e; cases e
 refine I.step (g' := s.gens) (d' := s.drawn) (ch := [it]) (fun b hb => ?_) (fun b o _ _ hc e _ => k b o (fun z => hc (by simp [z])) e) (fun b o _ _ hc e _ => ⟨o.slots, k b o (fun z => hc (by simp [z])) e⟩) (fun _ _ _ _ n => n)
   (fun b o hc e => ⟨o, k b o (fun z => hc (by simp [z])) e⟩) (fun _ _ e => e) (fun _ _ _ e => e) (fun b ps e => ⟨#[], by rw [e]; simp⟩) (fun m hm => ?_) (fun b u e => ?_) I.bare
 . have e : b = it := by simpa using hb
   subst e
   exact ⟨h1, hL, h2, h3⟩
 . obtain ⟨o, es, ep, ho, r⟩ := hm
   exact ⟨o, es, ep, k _ o (afG hL) ho, r⟩
 . refine (I.fN b u e).Et (fun c v hc q => k c v ?_ q) (fun _ q => q) fun _ _ q => q
   rcases hc with z | z
   . rw [z]; exact nit b u e
   . exact nit c _ z
theorem Inv.tok (I : Inv X pins σ H s) (t : Nat) : Inv X pins σ H { s with toks := t } := I.un (h' := s.heap) (t' := t) Un.refl I.fN
theorem Inv.kept {t' : Nat} (I : Inv X pins σ H s) (k : ∀ b u, s.heap.get? b = some u -> h'.get? b = some u) : Inv X pins σ H { s with heap := h', toks := t' } := I.un (Un.kept k) (I.fN.kept k)
theorem Inv.laid {a : Addr} {o : HO} {t' : Nat} (I : Inv X pins σ H s) (k : ∀ b u, s.heap.get? b = some u -> h'.get? b = some u) (hp : s.heap.objs.size <= a) (new : fO X.prog X.w (upd H a o) h' a o) :
   Inv X pins σ (upd H a o) { s with heap := h', toks := t' } := I.un (Un.laid k hp (I.fN.fresh hp)) (I.fN.laid k hp new)
theorem Inv.write {x e : Addr} {o : HO} {t' : Nat} (I : Inv X pins σ H s) (mu : Wi (H x)) (he : e = x \/ H e = some (.own x)) (k : ∀ b u, b ≠ e -> s.heap.get? b = some u -> h'.get? b = some u) (V2 : ∃ u, h'.get? e = some u)
   (new : fO X.prog X.w (upd H x o) h' x o) : Inv X pins σ (upd H x o) { s with heap := h', toks := t' } := I.un (Un.write mu he k V2) (I.fN.write mu he k V2 new)
theorem Inv.wV {GK : List (Addr × Obj)} (I : Inv X pins σ H s) (h : ∀ p ∈ GK, s.heap.get? p.1 = some p.2 /\ H p.1 = none /\ p.1 ≠ X.env.locals /\ p.1 ∉ X.fs /\ ∀ v, p.2.data ≠ .cell v) : Inv X GK σ H s :=
 ⟨I.ok, I.os, I.bare, I.base, I.loc, I.cell, I.free, I.qp, fun p hp => (aen.mp hp).elim (fun z => I.pin p (aei _ z)) (h p), I.fN, I.len⟩
theorem CY {N : List Str} (hN : N.Nodup) {i j : Nat} {x : Str} (a : N[i]? = some x) (b : N[j]? = some x) : i = j := by
 obtain ⟨h1, e1⟩ := aeD.mp a
 obtain ⟨h2, e2⟩ := aeD.mp b
 exact (List.getElem_inj hN).mp (e1.trans e2.symm)
theorem Iz {M : Model} {A : Around} {E : Value -> Shared -> Prop} {i : Nat} {x : Str} {v : V} {u : Value} {Q : Unit -> Shared -> Prop} (I : Inv X pins σ H s) (hN : X.N.Nodup) (hi : X.N[i]? = some x) (hx : Loc X.env.scope x) (r : RelV v u)
   (h : ∀ s', Inv X pins (σ.set i (some v)) H s' -> (∃ a, Heap.SameBut a s.heap s'.heap /\ (a = X.env.locals \/ X.env.cells.lookup x = some a)) -> Q () s') (hf : X.fn x = true \/ X.env.scope.names.lookup x = some .local := by first | exact .inl rfl | exact .inr rfl | assumption) : wpAny M A (storeName X.env x u) Q E s := by
 obtain ⟨m, hn, hl⟩ := id I.loc
 have Zr : (X.env.scope.kind == .class || (X.env.scope.kind == .module && X.env.locals != X.env.globals)) = false := by rw [I.ok.kind]; rfl
 have Wn : i < σ.length := by rw [I.len]; exact (aeD.mp hi).1
 have SG := I.SG
 have tracked : ∀ {a : Addr} {h' : Heap}, (∃ o, s.heap.get? a = some o /\ H a = none) -> Heap.SameBut a s.heap h' -> rN X.prog X.w H h' := fun {a h'} ha hs b ob e => by
   obtain ⟨_, _, Rx⟩ := ha
   refine (I.fN b ob e).Et (fun c w' hc q => (hs.2 c ?_).trans q) (fun _ q => q) fun _ _ q => q
   rintro rfl
   rcases hc with rfl | hc
   . rw [Rx] at e; cases e
   . rw [Rx] at hc; cases hc
 rcases hx with hk | hk
 . refine wpAny_storeName_local hk hn (fun h' hn' hs => ?_) Zr
   obtain ⟨oL, _, _, hoL, _⟩ := id hn
   refine h _ ⟨I.ok, I.os, I.bare, ⟨fun b o e n hb hx => ?_, fun b o e n hb hx => ?_, I.base.free, fun b o e hx => ?_, I.base.Ao, I.base.fM, I.base.Aq⟩, ⟨_, hn', fun j y v' e1 e2 e3 => ?_⟩, fun y c e => ?_, I.free, I.qp, fun p hp => ?_, tracked ⟨oL, hoL, I.free⟩ hs, by simpa using I.len⟩ ⟨_, hs, .inl rfl⟩
   . exact (hs.2 b (aeM (aeI (aes e) I.ok.above))).trans (I.base.keep b o e n hb hx)
   . obtain ⟨sl, e1⟩ := I.base.slot b o e n hb hx
     exact ⟨sl, (hs.2 b (aeM (aeI (aes e) I.ok.above))).trans e1⟩
   . obtain ⟨o', e1⟩ := I.base.there b o e hx
     exact ⟨o', (hs.2 b (aeM (aeI (aes e) I.ok.above))).trans e1⟩
   . by_cases hj : j = i
     . subst hj
       rw [hi] at e1; cases e1
       rw [List.getElem?_set_self Wn] at e2
       cases e2
       exact ⟨u, r, .inl ⟨hk, by simp⟩⟩
     . rw [List.getElem?_set_ne (afG hj)] at e2
       obtain ⟨u', r', q⟩ := hl j y v' e1 e2 e3
       refine ⟨u', r', ?_⟩
       rcases q with ⟨k, e⟩ | ⟨k, c, e, z⟩
       . refine .inl ⟨k, ?_⟩
         have : y ≠ x := fun e => hj (CY hN e1 (e ▸ hi))
         simp [this, e]
       . exact .inr ⟨k, c, e, z.sameBut hs (SG y c e)⟩
   . obtain ⟨w', z⟩ := I.cell y c e
     exact ⟨w', z.sameBut hs (SG y c e)⟩
   . obtain ⟨e, n, ne, nf, d⟩ := I.pin p hp
     exact ⟨(hs.2 p.1 ne).trans e, n, ne, nf, d⟩
 . have Zt : X.fn x = true := by
     rcases hf with z | z
     . exact z
     . rw [z] at hk; cases hk
   obtain ⟨c, hc⟩ := I.ok.has x (.inl hk)
   obtain ⟨w', z⟩ := I.cell x c hc
   refine wpAny_storeName_cell I.ok.kind hk hc z (fun h' Wo hs => ?_)
   obtain ⟨oc, YL, Zu⟩ := id z
   refine h { s with heap := h' } ⟨I.ok, I.os, I.bare, ⟨fun b o e n hb hx => ?_, fun b o e n hb hx => ?_, I.base.free, fun b o e hx => ?_, I.base.Ao, I.base.fM, I.base.Aq⟩, ⟨m, hn.sameBut hs (Ne.symm (SG x c hc)), fun j y v' e1 e2 e3 => ?_⟩, fun y c' e => ?_, I.free, I.qp, fun p hp => ?_, tracked ⟨oc, YL, I.qp x c hc⟩ hs, by simpa using I.len⟩ ⟨c, hs, .inr hc⟩
   . exact (hs.2 b (aeM (aeI (aes e) (I.ok.Wk x c Zt hc)))).trans (I.base.keep b o e n hb hx)
   . obtain ⟨sl, e1⟩ := I.base.slot b o e n hb hx
     exact ⟨sl, (hs.2 b (aeM (aeI (aes e) (I.ok.Wk x c Zt hc)))).trans e1⟩
   . obtain ⟨o', e1⟩ := I.base.there b o e hx
     exact ⟨o', (hs.2 b (aeM (aeI (aes e) (I.ok.Wk x c Zt hc)))).trans e1⟩
   . by_cases hj : j = i
     . subst hj
       rw [hi] at e1; cases e1
       rw [List.getElem?_set_self Wn] at e2
       cases e2
       exact ⟨u, r, .inr ⟨.inl hk, c, hc, Wo⟩⟩
     . rw [List.getElem?_set_ne (afG hj)] at e2
       obtain ⟨u', r', q⟩ := hl j y v' e1 e2 e3
       refine ⟨u', r', ?_⟩
       rcases q with q | ⟨k, c', e, z'⟩
       . exact .inl q
       . refine .inr ⟨k, c', e, z'.sameBut hs ?_⟩
         rintro rfl
         exact hj (CY hN e1 (I.ok.inj _ _ _ e hc ▸ hi))
   . by_cases hcc : c' = c
     . subst hcc; exact ⟨_, Wo⟩
     . obtain ⟨w2, z2⟩ := I.cell y c' e
       exact ⟨w2, z2.sameBut hs hcc⟩
   . obtain ⟨e, n, ne, nf, d⟩ := I.pin p hp
     refine ⟨(hs.2 p.1 ?_).trans e, n, ne, nf, d⟩
     intro q
     rw [q, YL] at e
     have q' : oc = p.2 := aeH e
     exact d w' (by rw [← q']; exact Zu)
theorem CZ {M : Model} {A : Around} {E : Value -> Shared -> Prop} {i : Nat} {x : Str} {v : V} {u : Value} {Q : Unit -> Shared -> Prop} (I : Inv X pins σ H s) (hN : X.N.Nodup) (hi : X.N[i]? = some x) (hx : Loc X.env.scope x) (r : RelV v u)
   (h : ∀ s', Inv X pins (σ.set i (some v)) H s' -> Q () s') (hf : X.fn x = true \/ X.env.scope.names.lookup x = some .local := by first | exact .inl rfl | exact .inr rfl | assumption) : wpAny M A (storeName X.env x u) Q E s :=
 Iz I hN hi hx r (fun s' I' _ => h s' I') hf
end
noncomputable abbrev XK := Value -> Option Addr -> Hp -> Prop
noncomputable abbrev St := List (Option V)
noncomputable abbrev VK := V -> Hp -> Prop
noncomputable abbrev TE := St -> Hp -> VK -> Prop
noncomputable abbrev TT := St -> Hp -> (Bool -> Hp -> Prop) -> Prop
noncomputable abbrev TA := St -> Hp -> (List V -> Hp -> Prop) -> Prop
structure Ends where
 nx : St -> Hp -> Prop
 rt : VK
 bk : St -> Hp -> Prop := fun _ _ => False
 ct : St -> Hp -> Prop := fun _ _ => False
noncomputable abbrev TS := Ends -> St -> Hp -> Prop
noncomputable def EP (X : Cx) (pins : List (Addr × Obj)) (σ : St) (Q : VK) (u : Value) (s' : Shared) : Prop := ∃ v H', Inv X pins σ H' s' /\ RelV v u /\ Q v H'
noncomputable def TP (X : Cx) (pins : List (Addr × Obj)) (σ : St) (Q : Bool -> Hp -> Prop) (b : Bool) (s' : Shared) : Prop := ∃ H', Inv X pins σ H' s' /\ Q b H'
noncomputable def AP (X : Cx) (pins : List (Addr × Obj)) (σ : St) (Q : List V -> Hp -> Prop) (us : List Value) (s' : Shared) : Prop := ∃ vs H', Inv X pins σ H' s' /\ Vals vs us /\ Q vs H'
noncomputable def SP (X : Cx) (pins : List (Addr × Obj)) (D : Ends) (f : Flow) (s' : Shared) : Prop :=
 match f with
 | .next => ∃ σ' H', Inv X pins σ' H' s' /\ D.nx σ' H'
 | .brk => ∃ σ' H', Inv X pins σ' H' s' /\ D.bk σ' H'
 | .cont => ∃ σ' H', Inv X pins σ' H' s' /\ D.ct σ' H'
 | .ret u => ∃ v σ' H', Inv X pins σ' H' s' /\ RelV v u /\ D.rt v H'
noncomputable def PE (X : Cx) (e : Expr) (t : TE) : Prop :=
 ∀ (pins : List (Addr × Obj)) (s : Shared) (σ : St) (H : Hp) (Q : VK), Inv X pins σ H s -> t σ H Q -> wpAny (model X.prog X.w) X.A (eval e X.env) (EP X pins σ Q) X.xe s
noncomputable def PT (X : Cx) (e : Expr) (t : TT) : Prop :=
 ∀ (pins : List (Addr × Obj)) (s : Shared) (σ : St) (H : Hp) (Q : Bool -> Hp -> Prop), Inv X pins σ H s -> t σ H Q -> wpAny (model X.prog X.w) X.A (isTrue e X.env (eval e X.env)) (TP X pins σ Q) X.xe s
noncomputable def PW (X : Cx) (e : Expr) (t : TT) : Prop :=
 ∀ (whole : Sem Value) (pins : List (Addr × Obj)) (s : Shared) (σ : St) (H : Hp) (Q : Bool -> Hp -> Prop), Inv X pins σ H s -> t σ H Q -> wpAny (model X.prog X.w) X.A (isTrue e X.env whole) (TP X pins σ Q) X.xe s
noncomputable def PA (X : Cx) (es : List Expr) (t : TA) : Prop :=
 ∀ (pos : Pos) (pins : List (Addr × Obj)) (s : Shared) (σ : St) (H : Hp) (Q : List V -> Hp -> Prop), Inv X pins σ H s -> t σ H Q -> wpAny (model X.prog X.w) X.A (spliced (backTo pos (starEach es X.env))) (AP X pins σ Q) X.xe s
noncomputable def PS (X : Cx) (st : Stmt) (t : TS) : Prop :=
 ∀ (pins : List (Addr × Obj)) (s : Shared) (σ : St) (H : Hp) (D : Ends), Inv X pins σ H s -> t D σ H -> wpAny (model X.prog X.w) X.A (exec st X.env) (SP X pins D) X.xe s
noncomputable def GL (X : Cx) (st : List Stmt) (t : TS) : Prop :=
 ∀ (pins : List (Addr × Obj)) (s : Shared) (σ : St) (H : Hp) (D : Ends), Inv X pins σ H s -> t D σ H -> wpAny (model X.prog X.w) X.A (execs st X.env) (SP X pins D) X.xe s
theorem dU {α : Type} {t : Sem α} {Q Q' : α -> Shared -> Prop} {M : Model} {A : Around} {E : Value -> Shared -> Prop} {s : Shared} (h : wpAny M A t Q E s) (hQ : ∀ a s, Q a s -> Q' a s) : wpAny M A t Q' E s := afr h hQ fun _ _ x => x
section
variable {X : Cx}
noncomputable def Zv (i : Nat) : TE := fun σ H Q => ∃ v, σ[i]? = some (some v) /\ Q v H
noncomputable def tC (v : V) : TE := fun _ H Q => Q v H
theorem mE {i : Nat} {x : Str} {pos : Pos} (hN : X.N[i]? = some x) (hv : V3 X.env.scope x) (hd : (x == ("__debug__" : Str)) = false := by decide) (n8 : (x == ("__classdict__" : Str)) = false := by decide) : PE X (.Name x pos) (Zv i) := by
 intro pins s σ H Q I h
 obtain ⟨v, e, h⟩ := h
 obtain ⟨m, hn, hl⟩ := I.loc
 obtain ⟨u, r, l⟩ := hl i x v hN e hv
 have fin : EP X pins σ Q u s := ⟨v, H, I, r, h⟩
 rcases l with ⟨hk, hm⟩ | ⟨hk, c, hc, zV⟩
 . exact wpAny_Name (wpAny_loadName_local I.ok.kind hk hn hm fin) hd
 . rcases hk with hk | hk
   . exact wpAny_Name (wpAny_loadName_cell I.ok.kind hk hc zV fin) hd
   . exact wpAny_Name (wpAny_loadName_free I.ok.kind hk hc zV fin n8) hd
theorem SJ {i j pos} : PE X (.Constant (.int i) j pos) (tC (.int i)) := fun _ _ _ H _ I h => wpAny_Constant_int ⟨.int i, H, I.tok _, ⟨_, rfl⟩, h⟩
theorem Wq {b j pos} : PE X (.Constant (.bool b) j pos) (tC (.bl b)) := fun _ _ _ H _ I h => Constant_bool ⟨.bl b, H, I, rfl, h⟩
theorem SK {x j pos} : PE X (.Constant (.str x) j pos) (tC (.str x)) := fun _ _ _ H _ I h => Calls.Constant_str ⟨.str x, H, I.tok _, ⟨_, rfl⟩, h⟩
noncomputable def Gl (X : Cx) (x : Str) : Prop := X.env.kindOf x = some .globalImplicit
theorem wW {E : Value -> Shared -> Prop} {pins : List (Addr × Obj)} {s : Shared} {σ : St} {H : Hp} {x : Str} {u : Value} {pos : Pos} {Q : Value -> Shared -> Prop} (I : Inv X pins σ H s) (hg : Gl X x) (hm : X.mg x = some u) (h : Q u s)
   (hd : (x == ("__debug__" : Str)) = false := by decide) : wpAny (model X.prog X.w) X.A (eval (.Name x pos) X.env) Q E s :=
 Calls.Name_function_global I.ok.kind hg (Calls.loadGlobal_global (by rw [I.ok.glob]; exact I.mod.glob.keeps I.bk) hm h) hd
theorem uy {E : Value -> Shared -> Prop} {pins : List (Addr × Obj)} {s : Shared} {σ : St} {H : Hp} {x : Str} {u : Value} {pos : Pos} {Q : Value -> Shared -> Prop} (I : Inv X pins σ H s) (hg : Gl X x) (hm : X.mg x = none) (hv : bootBuiltins x = some u) (h : Q u s)
   (hn : x ≠ "__name__" := by decide) (hd : (x == ("__debug__" : Str)) = false := by decide) : wpAny (model X.prog X.w) X.A (eval (.Name x pos) X.env) Q E s := by
 obtain ⟨mb, h1, h2⟩ := I.mod.blt
 exact Calls.Name_function_global I.ok.kind hg (Calls.loadGlobal_builtin (by rw [I.ok.glob]; exact I.mod.glob.keeps I.bk) hm (by rw [I.ok.blt]; exact h1.keeps I.bk) ((h2 x hn).trans hv) h) hd
theorem Av {x : Str} {v : V} {u : Value} {pos : Pos} (hg : Gl X x) (hm : X.mg x = some u) (r : RelV v u) (hd : (x == ("__debug__" : Str)) = false := by decide) : PE X (.Name x pos) (tC v) :=
 fun _ _ _ H _ I h => wW I hg hm ⟨v, H, I, r, h⟩ hd
theorem Oc {x : Str} {v : V} {u : Value} {pos : Pos} (hg : Gl X x) (hm : X.mg x = none) (hv : bootBuiltins x = some u) (r : RelV v u) (hn : x ≠ "__name__" := by decide) (hd : (x == ("__debug__" : Str)) = false := by decide) : PE X (.Name x pos) (tC v) :=
 fun _ _ _ H _ I h => uy I hg hm hv ⟨v, H, I, r, h⟩ hn hd
variable {a b : Expr} {ta tb : TE} {pos : Pos}
noncomputable def PC (X : Cx) (op : CmpOp) (a b : Expr) (t : TE) : Prop :=
 ∀ (pins : List (Addr × Obj)) (s : Shared) (σ : St) (H : Hp) (Q : VK), Inv X pins σ H s -> t σ H Q →
   wpAny (model X.prog X.w) X.A (eval a X.env) (fun v s₁ => wpAny (model X.prog X.w) X.A (eval b X.env) (fun u s₂ => wpAny (model X.prog X.w) X.A (compareOp op v u) (EP X pins σ Q) X.xe s₂) X.xe s₁) X.xe s
theorem C1 (b : Expr) {op : CmpOp} (h : op ≠ .In) (h2 : op ≠ .NotIn) : behindInMarks op b = false := by
 have e1 : (op == CmpOp.In) = false := by cases op <;> first | rfl | exact absurd rfl h
 have e2 : (op == CmpOp.NotIn) = false := by cases op <;> first | rfl | exact absurd rfl h2
 cases b <;> simp [behindInMarks, e1, e2]
noncomputable def Zw (ta : TE) : TE := fun σ H Q => ta σ H fun x H1 => Q (.bl (decide (x = .non))) H1
noncomputable def Wr (ta : TE) : TE := fun σ H Q => ta σ H fun x H1 => Q (.bl (!decide (x = .non))) H1
theorem RelV.C2 {x : V} {v : Value} (r : RelV x v) : (v == Value.none) = decide (x = .non) := by
 cases x with
 | non => cases r; rfl
 | bl _ => cases r; rfl
 | int _ => obtain ⟨t, rfl⟩ := r; rfl
 | str _ => obtain ⟨t, rfl⟩ := r; rfl
 | Iv _ => obtain ⟨t, rfl⟩ := r; rfl
 | Wg _ => obtain ⟨t, rfl⟩ := r; rfl
 | ref _ => cases r; rfl
 | ty _ => cases r; rfl
theorem Kg {j pos'} (ha : PE X a ta) : PC X .Is a (.Constant .none j pos') (Zw ta) := by
 intro pins s σ H Q I h
 refine dU (ha pins s σ H _ I h) fun v s1 zz => ?_
 obtain ⟨x, H1, I1, r1, q1⟩ := zz
 exact Constant_none (is_none_gen ⟨.bl _, H1, I1, by rw [r1.C2]; rfl, q1⟩)
theorem Od {j pos'} (ha : PE X a ta) : PC X .IsNot a (.Constant .none j pos') (Wr ta) := by
 intro pins s σ H Q I h
 refine dU (ha pins s σ H _ I h) fun v s1 zz => ?_
 obtain ⟨x, H1, I1, r1, q1⟩ := zz
 exact Constant_none (isnot_none_gen ⟨.bl _, H1, I1, by rw [r1.C2]; rfl, q1⟩)
noncomputable def tB (t : TE) : TT := fun σ H Q => t σ H fun x H1 => ∃ c, x = .bl c /\ Q c H1
theorem Kh {op : CmpOp} {t : TE} (h : PC X op a b t) (h1 : behindInMarks op b = false := by first | exact C1 _ (by decide) (by decide) | rfl) : PE X (.Compare a [op] [b] pos) t := fun pins s σ H Q I hw => wpAny_Compare1 (h pins s σ H Q I hw) h1
theorem Kl {op : CmpOp} {t : TE} (h : PC X op a b t) (h1 : behindInMarks op b = false := by first | exact C1 _ (by decide) (by decide) | rfl) : PT X (.Compare a [op] [b] pos) (tB t) := by
 intro pins s σ H Q I hw
 refine wpAny_isTrue_Compare1 (dU (h pins s σ H _ I hw) fun v s1 h1 => dU h1 fun u s2 h2 => dU h2 fun c s3 zz => ?_) h1
 obtain ⟨x, H1, I1, r1, q1⟩ := zz
 obtain ⟨d, rfl, q⟩ := q1
 cases r1
 exact ae8 ⟨H1, I1, q⟩
theorem SM {e : Expr} {t : TE} (h : PE X e t) (he : ∀ whole, isTrue e X.env whole = (do let v ← whole; standAt e.pos; holding [v] (truthy v)) := by intro _; rfl) : PT X e (tB t) := by
 intro pins s σ H Q I hw
 refine isTrue_plain (dU (h pins s σ H _ I hw) fun v s1 zz => ?_) (he _)
 obtain ⟨x, H1, I1, r1, q1⟩ := zz
 obtain ⟨d, rfl, q⟩ := q1
 cases r1
 exact ae8 ⟨H1, I1, q⟩
variable {tA YM : TT} {rest : List Expr}
noncomputable def Zx (t u : TT) : TT := fun σ H Q => t σ H fun c H1 => if c = true then u σ H1 Q else Q false H1
noncomputable def tOr (t u : TT) : TT := fun σ H Q => t σ H fun c H1 => if c = true then Q true H1 else u σ H1 Q
noncomputable def Zy (t : TT) : TT := fun σ H Q => t σ H fun c H1 => Q (!c) H1
theorem Oe (ha : PT X a tA) : PW X (.BoolOp .And [a] pos) tA := by
 intro wh pins s σ H Q I h
 refine isTrue_and (dU (ha pins s σ H Q I h) fun c s1 e => ?_)
 cases c with
 | true => exact isTrue_and_nil e
 | false => exact e
theorem SN (ha : PT X a tA) : PW X (.BoolOp .Or [a] pos) tA := by
 intro wh pins s σ H Q I h
 refine isTrue_or (dU (ha pins s σ H Q I h) fun c s1 e => ?_)
 cases c with
 | false => exact isTrue_or_nil e
 | true => exact e
theorem SQ (ha : PT X a tA) (hb : PW X (.BoolOp .And (b :: rest) pos) YM) : PW X (.BoolOp .And (a :: b :: rest) pos) (Zx tA YM) := by
 intro wh pins s σ H Q I h
 refine isTrue_and (dU (ha pins s σ H _ I h) fun c s1 zz => ?_)
 obtain ⟨H1, I1, q1⟩ := zz
 cases c with
 | true => exact hb wh pins s1 σ H1 Q I1 q1
 | false => exact ⟨H1, I1, q1⟩
theorem Ws (ha : PT X a tA) (hb : PW X (.BoolOp .Or (b :: rest) pos) YM) : PW X (.BoolOp .Or (a :: b :: rest) pos) (tOr tA YM) := by
 intro wh pins s σ H Q I h
 refine isTrue_or (dU (ha pins s σ H _ I h) fun c s1 zz => ?_)
 obtain ⟨H1, I1, q1⟩ := zz
 cases c with
 | true => exact ⟨H1, I1, q1⟩
 | false => exact hb wh pins s1 σ H1 Q I1 q1
theorem SR (ha : PT X a tA) : PT X (.UnaryOp .Not a pos) (Zy tA) := by
 intro pins s σ H Q I h
 exact isTrue_not (ha pins s σ H (fun c H1 => Q (!c) H1) I h)
noncomputable def Wt (ta tb : TE) : TE := fun σ H Q => ta σ H fun x H1 => ∃ c, x = .bl c /\ if c = true then tb σ H1 Q else Q (.bl false) H1
noncomputable def Zz (ta tb : TE) : TE := fun σ H Q => ta σ H fun x H1 => ∃ c, x = .bl c /\ if c = true then Q (.bl true) H1 else tb σ H1 Q
theorem SV {op} {t : TE} (h : PE X a t) : PE X (.BoolOp op [a] pos) t := fun pins s σ H Q I hw => BoolOp_one (h pins s σ H Q I hw)
theorem SW (ha : PE X a ta) (hb : PE X (.BoolOp .And (b :: rest) pos) tb) : PE X (.BoolOp .And (a :: b :: rest) pos) (Wt ta tb) := by
 intro pins s σ H Q I h
 refine BoolOp_and (dU (ha pins s σ H _ I h) fun v s1 zz => ?_)
 obtain ⟨x, H1, I1, r1, q1⟩ := zz
 obtain ⟨c, rfl, q1⟩ := q1
 cases r1
 refine ae8 ?_
 cases c with
 | true => exact hb pins s1 σ H1 Q I1 q1
 | false => exact ⟨.bl false, H1, I1, rfl, q1⟩
theorem Wu (ha : PE X a ta) (hb : PE X (.BoolOp .Or (b :: rest) pos) tb) : PE X (.BoolOp .Or (a :: b :: rest) pos) (Zz ta tb) := by
 intro pins s σ H Q I h
 refine BoolOp_or (dU (ha pins s σ H _ I h) fun v s1 zz => ?_)
 obtain ⟨x, H1, I1, r1, q1⟩ := zz
 obtain ⟨c, rfl, q1⟩ := q1
 cases r1
 refine ae8 ?_
 cases c with
 | false => exact hb pins s1 σ H1 Q I1 q1
 | true => exact ⟨.bl true, H1, I1, rfl, q1⟩
noncomputable def tIf (t : TT) (ta tb : TE) : TE := fun σ H Q => t σ H fun c H1 => if c = true then ta σ H1 Q else tb σ H1 Q
theorem Km {c : Expr} (hc : PT X c tA) (ha : PE X a ta) (hb : PE X b tb) : PE X (.IfExp c a b pos) (tIf tA ta tb) := by
 intro pins s σ H Q I h
 refine wpAny_IfExp (dU (hc pins s σ H _ I h) fun d s1 zz => ?_)
 obtain ⟨H1, I1, q1⟩ := zz
 cases d with
 | true => exact ha pins s1 σ H1 Q I1 q1
 | false => exact hb pins s1 σ H1 Q I1 q1
end
noncomputable def qk (K : PySem.W.Frag) (H : Hp) (a : Addr) (xs : List V) : Prop :=
 Rd H a (.lst xs) ∨
   ∃ (o : Obj) (its : Array Value) (n : Nat), K.lookup a = some o /\ o.cls = .type "list" /\ o.dict = none /\ o.data = .seq its n /\ its.size <= sizeLine /\ Vals xs its.toList
noncomputable def wX (K : PySem.W.Frag) (H : Hp) (a : Addr) (xs : List V) : Prop :=
 Rd H a (.tup xs) ∨
   ∃ (o : Obj) (its : Array Value) (n : Nat), K.lookup a = some o /\ o.cls = .type "tuple" /\ o.data = .seq its n /\ its.size <= sizeLine /\ Vals xs its.toList
noncomputable def ZC : Value -> Option V
 | .none => some .non
 | .bool b => some (.bl b)
 | .int i _ => some (.int i)
 | .str x _ => some (.str x)
 | .bytes b _ => some (.Iv b)
 | .float b _ => some (.Wg b)
 | .ref a => some (.ref a)
 | .type n => some (.ty n)
 | _ => none
theorem RelV.abs {x : V} {u : Value} (r : RelV x u) : ZC u = some x := by
 cases x with
 | non => cases r; rfl
 | bl _ => cases r; rfl
 | int _ => obtain ⟨t, rfl⟩ := r; rfl
 | str _ => obtain ⟨t, rfl⟩ := r; rfl
 | Iv _ => obtain ⟨t, rfl⟩ := r; rfl
 | Wg _ => obtain ⟨t, rfl⟩ := r; rfl
 | ref _ => cases r; rfl
 | ty _ => cases r; rfl
theorem RelV.inj {x y : V} {u : Value} (r : RelV x u) (q : RelV y u) : x = y := aeH (r.abs.symm.trans q.abs)
theorem Vals.inj {xs ys : List V} {us : List Value} (h : Vals xs us) (q : Vals ys us) : xs = ys := by
 induction h generalizing ys with
 | nil => cases q; rfl
 | cons r _ i => cases q with
   | cons r' t' => rw [r.inj r', i t']
section
variable {X : Cx} {pins : List (Addr × Obj)} {σ : St} {H : Hp} {s : Shared} {a : Addr} {xs ys : List V}
theorem qk.of {K : PySem.W.Frag} (h : H a = some (.lst xs)) : qk K H a xs := .inl (.inl h)
theorem wX.of {K : PySem.W.Frag} (h : H a = some (.tup xs)) : wX K H a xs := .inl (.inl h)
theorem Inv.list (I : Inv X pins σ H s) (h : qk X.K H a xs) : ∃ its : List Value, Vals xs its /\ PlainL s.heap a its.toArray /\ xs.length <= sizeLine := by
 rcases h with h | ⟨o, its, n, hk, hc, hd, hs, hz, r⟩
 . obtain ⟨z, its, n, r, e⟩ := h.ok I.fN
   exact ⟨its, r, ⟨_, n, e, rfl, rfl, rfl⟩, z⟩
 . refine ⟨its.toList, r, ⟨o, n, I.CP a o hk, hc, hd, by simpa using hs⟩, ?_⟩
   have e := r.length
   simp only [Array.length_toList] at e
   omega
theorem Inv.tuple (I : Inv X pins σ H s) (h : wX X.K H a xs) : ∃ its : List Value, Vals xs its /\ IsTup s.heap a its.toArray /\ xs.length <= sizeLine := by
 rcases h with h | ⟨o, its, n, hk, hc, hs, hz, r⟩
 . obtain ⟨z, its, r, p⟩ := h.ok I.fN
   exact ⟨its, r, p, z⟩
 . refine ⟨its.toList, r, ⟨o, I.CP a o hk, hc, n, by simpa using hs⟩, ?_⟩
   have e := r.length
   simp only [Array.length_toList] at e
   omega
theorem Inv.C3 (I : Inv X pins σ H s) (h : qk X.K H a xs) (h' : qk X.K H a ys) : xs = ys := by
 obtain ⟨its, r, ⟨o, n, e, _, _, d⟩, _⟩ := I.list h
 obtain ⟨its', r', ⟨o', n', e', _, _, d'⟩, _⟩ := I.list h'
 rw [e] at e'; cases e'
 rw [d] at d'
 injection d' with d1 _
 have : its = its' := by simpa using congrArg Array.toList d1
 subst this
 exact r.inj r'
theorem Inv.IA (I : Inv X pins σ H s) (h : wX X.K H a xs) (h' : wX X.K H a ys) : xs = ys := by
 obtain ⟨its, r, ⟨o, e, _, n, d⟩, _⟩ := I.tuple h
 obtain ⟨its', r', ⟨o', e', _, n', d'⟩, _⟩ := I.tuple h'
 rw [e] at e'; cases e'
 rw [d] at d'
 injection d' with d1 _
 have : its = its' := by simpa using congrArg Array.toList d1
 subst this
 exact r.inj r'
end
noncomputable abbrev Cx.wish (X : Cx) (E : Value -> Shared -> Prop) : Cx := { X with xe := E }
noncomputable abbrev Cx.V4 (X : Cx) : Cx := X.wish fun _ _ => False
theorem Cx.Ok.wish {X : Cx} (ok : X.Ok) (E : Value -> Shared -> Prop) : (X.wish E).Ok :=
 ⟨ok.mod, ok.kind, ok.glob, ok.blt, ok.above, ok.inj, ok.has, ok.Wk, ok.hd, ok.frames, ok.YJ, ok.exf, ok.bs, ok.Oa, ok.Kf, ok.Ob, ok.vP, ok.SD⟩
theorem Cx.Ok.n9 {X : Cx} {E : Value -> Shared -> Prop} (ok : (X.wish E).Ok) : X.Ok :=
 ⟨ok.mod, ok.kind, ok.glob, ok.blt, ok.above, ok.inj, ok.has, ok.Wk, ok.hd, ok.frames, ok.YJ, ok.exf, ok.bs, ok.Oa, ok.Kf, ok.Ob, ok.vP, ok.SD⟩
section
variable {X : Cx} {pins : List (Addr × Obj)} {σ : St} {H : Hp} {s : Shared} {E : Value -> Shared -> Prop}
theorem Inv.wish (I : Inv X pins σ H s) (E : Value -> Shared -> Prop) : Inv (X.wish E) pins σ H s := ⟨I.ok.wish E, I.os, I.bare, I.base, I.loc, I.cell, I.free, I.qp, I.pin, I.fN, I.len⟩
theorem Inv.n9 (I : Inv (X.wish E) pins σ H s) : Inv X pins σ H s := ⟨I.ok.n9, I.os, I.bare, I.base, I.loc, I.cell, I.free, I.qp, I.pin, I.fN, I.len⟩
theorem SP.n9 {D : Ends} {f : Flow} {s' : Shared} (h : SP (X.wish E) pins D f s') : SP X pins D f s' := by
 cases f with
 | next => obtain ⟨σ', H', I, q⟩ := h; exact ⟨σ', H', I.n9, q⟩
 | brk => obtain ⟨σ', H', I, q⟩ := h; exact ⟨σ', H', I.n9, q⟩
 | cont => obtain ⟨σ', H', I, q⟩ := h; exact ⟨σ', H', I.n9, q⟩
 | ret u => obtain ⟨v, σ', H', I, r, q⟩ := h; exact ⟨v, σ', H', I.n9, r, q⟩
theorem GL.V4 {st : List Stmt} {t : TS} (h : GL X.V4 st t) : GL X st t := fun pins s σ H D I hw =>
 afr (h pins s σ H D (I.wish _) hw) (fun _ _ q => q.n9) fun _ _ z => False.elim z
end
section
variable {X : Cx} {st : Stmt} {rest : List Stmt} {t u : TS} {e : Expr} {te : TE} {pos : Pos}
noncomputable def Wv : TS := fun D σ H => D.nx σ H
noncomputable def ZD (t u : TS) : TS := fun D σ H => t { D with nx := u D } σ H
theorem Og : GL X [] Wv := fun _ _ σ H _ I h => wpAny_execs_nil ⟨σ, H, I, h⟩
theorem Kn (h1 : PS X st t) (h2 : GL X rest u) : GL X (st :: rest) (ZD t u) := by
 intro pins s σ H D I h
 refine wpAny_execs_cons (dU (h1 pins s σ H { D with nx := u D } I h) fun f s1 q => ?_)
 cases f with
 | next =>
   obtain ⟨σ', H', I', q⟩ := q
   exact h2 pins s1 σ' H' D I' q
 | ret v => exact q
 | brk => exact q
 | cont => exact q
theorem Inv.quiet {pins : List (Addr × Obj)} {σ : St} {H : Hp} {s : Shared} (I : Inv X pins σ H s) : interactive X.env = false := by simp [interactive, I.ok.kind]
noncomputable def Ww (te : TE) : TS := fun D σ H => te σ H fun _ H1 => D.nx σ H1
theorem Oh (he : PE X e te) (hs : swapsWith e none pos.line X.env = pure false := by rfl) : PS X (.Expr e pos) (Ww te) := by
 intro pins s σ H D I h
 exact wpAny_Expr_any (dU (he pins s σ H _ I h) fun v s1 ⟨x, H1, I1, r1, q1⟩ => ⟨σ, H1, I1, q1⟩) I.quiet hs
noncomputable def ZE (te : TE) : TS := fun D σ H => te σ H D.rt
theorem SX (he : PE X e te) : PS X (.Return (some e) pos) (ZE te) := by
 intro pins s σ H D I h
 exact wpAny_Return_some (dU (he pins s σ H _ I h) fun v s1 ⟨x, H1, I1, r1, q1⟩ => ⟨x, σ, H1, I1, r1, q1⟩)
noncomputable def ZF (c : TT) (t u : TS) : TS := fun D σ H => c σ H fun b H1 => if b = true then t D σ H1 else u D σ H1
theorem Wx {c : Expr} {a b : List Stmt} {tc : TT} (hc : PT X c tc) (ha : GL X a t) (hb : GL X b u) : PS X (.If c a b pos) (ZF tc t u) := by
 intro pins s σ H D I h
 refine wpAny_If (dU (hc pins s σ H _ I h) fun d s1 zz => ?_)
 obtain ⟨H1, I1, q1⟩ := zz
 cases d with
 | true => exact ha pins s1 σ H1 D I1 q1
 | false => exact hb pins s1 σ H1 D I1 q1
end
noncomputable abbrev TG := V -> St -> Hp -> (St -> Hp -> Prop) -> Prop
noncomputable abbrev SY := List V -> St -> Hp -> (St -> Hp -> Prop) -> Prop
noncomputable def PG (X : Cx) (target : Expr) (t : TG) : Prop :=
 ∀ (pins : List (Addr × Obj)) (s : Shared) (σ : St) (H : Hp) (v : V) (u : Value) (Q : St -> Hp -> Prop), Inv X pins σ H s -> RelV v u -> t v σ H Q →
   wpAny (model X.prog X.w) X.A (assign target X.env u) (fun _ s' => ∃ σ' H', Inv X pins σ' H' s' /\ Q σ' H') X.xe s
noncomputable def YN (X : Cx) (ts : List Expr) (t : SY) : Prop :=
 ∀ (pins : List (Addr × Obj)) (s : Shared) (σ : St) (H : Hp) (vs : List V) (us : List Value) (Q : St -> Hp -> Prop), Inv X pins σ H s -> Vals vs us -> t vs σ H Q →
   wpAny (model X.prog X.w) X.A (assignInOrder ((assignEach ts X.env).map (·.2)) us) (fun _ s' => ∃ σ' H', Inv X pins σ' H' s' /\ Q σ' H') X.xe s
noncomputable abbrev S6 := V -> V -> V -> Hp -> (Hp -> Prop) -> Prop
noncomputable def Wy (X : Cx) (t : S6) : Prop :=
 ∀ (pins : List (Addr × Obj)) (s : Shared) (σ : St) (H : Hp) (o i v : V) (ov iv u : Value) (Q : Hp -> Prop), Inv X pins σ H s -> RelV o ov -> RelV i iv -> RelV v u -> t o i v H Q →
   wpAny (model X.prog X.w) X.A (setItem ov iv u) (fun _ s' => ∃ H', Inv X pins σ H' s' /\ Q H') X.xe s
section
variable {X : Cx} {pos : Pos}
noncomputable def vh (i : Nat) : TG := fun v σ H Q => Q (σ.set i (some v)) H
theorem pI {i : Nat} {x : Str} (hN : X.N.Nodup) (hi : X.N[i]? = some x) (hx : Loc X.env.scope x) (hf : X.fn x = true \/ X.env.scope.names.lookup x = some .local := by first | exact .inl rfl | exact .inr rfl | assumption) : PG X (.Name x pos) (vh i) := by
 intro pins s σ H v u Q I r h
 exact wpAny_assign_Name (CZ I hN hi hx r (fun s' I' => ⟨_, H, I', h⟩) hf)
noncomputable def S7 : SY := fun vs σ H Q => vs = [] /\ Q σ H
noncomputable def C4 (t : TG) (u : SY) : SY := fun vs σ H Q => ∃ v r, vs = v :: r /\ t v σ H fun σ' H' => u r σ' H' Q
theorem Oi : YN X [] S7 := by
 intro pins s σ H vs us Q I r h
 obtain ⟨e, h⟩ := h
 subst e
 cases r
 exact assignInOrder_nil ⟨σ, H, I, h⟩
theorem C5 {e : Expr} {es : List Expr} {t : TG} {u : SY} (h1 : PG X e t) (h2 : YN X es u)
   (hs : (assignEach (e :: es) X.env).map (·.2) = assign e X.env :: (assignEach es X.env).map (·.2) := by rfl) : YN X (e :: es) (C4 t u) := by
 intro pins s σ H vs us Q I r h
 obtain ⟨v, vr, e1, h⟩ := h
 subst e1
 cases r with
 | cons r rr =>
   rw [hs]
   refine assignInOrder_cons (dU (h1 pins s σ H _ _ _ I r h) fun _ s1 zz => ?_)
   obtain ⟨σ1, H1, I1, q1⟩ := zz
   exact h2 pins s1 σ1 H1 _ _ Q I1 rr q1
noncomputable def S8 (K : PySem.W.Frag) (n : Nat) (t : SY) : TG := fun v σ H Q => ∃ a xs, v = .ref a /\ wX K H a xs /\ xs.length = n /\ t xs σ H Q
theorem S9 {es : List Expr} {k : Nat} {t : SY} {n : Nat} (hc : X.calm = true) (h : YN X es t)
   (hn : (assignEach es X.env).length = n := by rfl) (Oj : (assignEach es X.env).findIdx? (·.1) = none := by rfl) : PG X (.Tuple es k pos) (S8 X.K n t) := by
 intro pins s σ H v u Q I r hw
 obtain ⟨a, xs, e1, hq, hl, hw⟩ := hw
 subst e1
 cases r
 obtain ⟨its, rv, ht, hz⟩ := I.tuple hq
 refine assign_Tuple_tuple (I.ok.hd hc) ht (by simp [hn, ← hl, rv.length]) Oj fun h' hx => ?_
 have I1 : Inv X pins σ H { s with heap := h' } := I.kept (t' := s.toks) fun b o e => hx b o (aeM (aes e)) e
 exact h pins _ σ H xs _ Q I1 (by simpa using rv) hw
noncomputable def ZG (to ti : TE) (t : S6) : TG := fun v σ H Q => to σ H fun o H1 => ti σ H1 fun i H2 => t o i v H2 fun H3 => Q σ H3
theorem Tc {o i : Expr} {to ti : TE} {t : S6} (ho : PE X o to) (hi : PE X i ti) (hs : Wy X t)
   (ha : ∀ v, assign (.Subscript o i pos) X.env v = (do
     let ov ← holding [v] (eval o X.env)
     let iv ← holding [v, ov] (eval i X.env)
     standAt pos
     holding [v, ov, iv] (setItem ov iv v)
     release [v, ov, iv] []) := by intro _; rfl) : PG X (.Subscript o i pos) (ZG to ti t) := by
 intro pins s σ H v u Q I r h
 rw [ha]
 refine aeC (afR (dU (ho pins s σ H _ I h) fun ov s1 zz => ?_))
 obtain ⟨x, H1, I1, r1, q1⟩ := zz
 refine aeC (afR (dU (hi pins s1 σ H1 _ I1 q1) fun iv s2 zz => ?_))
 obtain ⟨y, H2, I2, r2, q2⟩ := zz
 refine aeC (wpAny_standAt (aeC (afR (dU (hs pins s2 σ H2 x y v ov iv u _ I2 r1 r2 r q2) fun _ s3 zz => ?_))))
 obtain ⟨H3, I3, q3⟩ := zz
 exact wpAny_release ⟨σ, H3, I3, q3⟩
noncomputable def Wz (te : TE) (g : TG) : TS := fun D σ H => te σ H fun x H1 => g x σ H1 D.nx
theorem Td {tg e : Expr} {te : TE} {g : TG} (he : PE X e te) (hg : PG X tg g) (hs : swapsWithSole [tg] e pos.line X.env = pure false := by rfl) (hw : swappedStores [tg] e X.env = pure none := by rfl)
   (h1 : (assignEach [tg] X.env).map (·.2) = [assign tg X.env] := by rfl) : PS X (.Assign [tg] e pos) (Wz te g) := by
 intro pins s σ H D I h
 refine wpAny_Assign_stores (dU (he pins s σ H _ I h) fun v s1 zz => ?_) hs hw
 obtain ⟨x, H1, I1, r1, q1⟩ := zz
 rw [h1]
 exact dU (hg pins s1 σ H1 x v _ I1 r1 q1) fun _ s2 q => q
theorem Te {i : Nat} {x : Str} {e : Expr} {te : TE} {pos' : Pos} (hN : X.N.Nodup) (hi : X.N[i]? = some x) (hx : Loc X.env.scope x) (he : PE X e te) (hs : swapsWith e (some (.Name x pos')) pos.line X.env = pure false := by rfl) (hf : X.fn x = true \/ X.env.scope.names.lookup x = some .local := by first | exact .inl rfl | exact .inr rfl | assumption) :
   PS X (.Assign [.Name x pos'] e pos) (Wz te (vh i)) := by
 intro pins s σ H D I h
 refine wpAny_Assign_Name (dU (he pins s σ H _ I h) fun v s1 zz => ?_) hs
 obtain ⟨y, H1, I1, r1, q1⟩ := zz
 exact CZ I1 hN hi hx r1 (fun s2 I2 => ⟨_, H1, I2, q1⟩) hf
end
section
variable {X : Cx} {pos : Pos}
noncomputable def Tf (c : TT) (tb : TS) : TS := fun D σ H => ∃ W : Nat -> St -> Hp -> Prop, (∃ m, W m σ H) /\ ∀ m σ H, W m σ H →
 c σ H fun b H1 => if b = true then ∃ N : St -> Hp -> Prop, (∀ σ' H', N σ' H' -> ∃ m', m' < m /\ W m' σ' H') /\ tb { D with nx := N, ct := N, bk := D.nx } σ H1 else D.nx σ H1
theorem Ko {c : Expr} {body : List Stmt} {tc : TT} {tb : TS} (hp : PassesOwn (model X.prog X.w) X.A X.env X.xe) (hc : PT X c tc) (hb : GL X body tb) : PS X (.While c body [] pos) (Tf tc tb) := by
 intro pins s σ H D I h
 obtain ⟨W, ⟨m0, w0⟩, turn⟩ := h
 refine wpAny_While (codeAny_whileLoop (fun n s' => ∃ σ' H', Inv X pins σ' H' s' /\ W n σ' H') ?_ m0 ⟨σ, H, I, w0⟩)
 rintro n s1 ⟨σ1, H1, I1, w1⟩
 refine afn hp (dU (hc pins s1 σ1 H1 _ I1 (turn n σ1 H1 w1)) fun b s2 zz => ?_)
 obtain ⟨H2, I2, q2⟩ := zz
 cases b with
 | true =>
   obtain ⟨N, hN, q2⟩ := q2
   rw [aer rfl]
   refine afn hp (dU (hb pins s2 σ1 H2 _ I2 q2) fun f s3 q3 => ?_)
   cases f with
   | next =>
     obtain ⟨σ3, H3, I3, n3⟩ := q3
     obtain ⟨m', hm, w3⟩ := hN σ3 H3 n3
     exact ⟨m', hm, σ3, H3, I3, w3⟩
   | cont =>
     obtain ⟨σ3, H3, I3, n3⟩ := q3
     obtain ⟨m', hm, w3⟩ := hN σ3 H3 n3
     exact ⟨m', hm, σ3, H3, I3, w3⟩
   | brk => exact q3
   | ret v => exact q3
 | false =>
   rw [aeq aep]
   exact wpAny_execs_nil ⟨σ1, H2, I2, q2⟩
end
structure It where
 go : Nat -> Hp -> Prop
 Ry : Nat -> Hp -> V -> Hp -> Prop
 stop : Nat -> Hp -> Prop
noncomputable def vQ (X : Cx) (pins : List (Addr × Obj)) (H : Hp) (b : Addr) : Prop :=
 H b = none /\ b ≠ X.env.locals /\ b ∉ X.fs /\ (b ∈ X.ex \/ X.s₀.heap.objs.size <= b) /\ (∀ x c, X.env.cells.lookup x = some c -> c ≠ b) /\ ∀ p ∈ X.pn ++ pins, p.1 ≠ b
theorem Inv.Aw {X : Cx} {pins : List (Addr × Obj)} {σ : St} {H H' : Hp} {s : Shared} {b : Addr} (I : Inv X pins σ H s) (hb : s.heap.objs.size <= b) (hn : H' b = none) : vQ X pins H' b := by
 refine ⟨hn, Nat.ne_of_gt (aeI I.lt hb), I.Zn hb, .inr (aeZ I.sz hb), fun x c e z => ?_, fun p hp z => ?_⟩
 . obtain ⟨v, q⟩ := I.cell x c e
   exact absurd (aeI q.lt (by rw [z]; exact hb)) (afJ _)
 . exact absurd (aeI (aes (I.pin p hp).1) (by rw [z]; exact hb)) (afJ _)
structure Turn (P : Program) (w : World) (K : PySem.W.Frag) (tg : Expr) (J : It) (fp : List Addr) (it : Addr) (tn : Nat -> Heap -> Prop) : Prop where
 mem : it ∈ fp
 obj : ∀ i h, tn i h -> ∀ b ∈ fp, ∃ o, h.get? b = some o /\ ∀ v, o.data ≠ .cell v
 keep : ∀ i h h', tn i h -> (∀ b ∈ fp, ∀ o, h.get? b = some o -> h'.get? b = some o) -> tn i h'
 item : ∀ (X : Cx), X.prog = P -> X.w = w -> X.K = K -> X.calm = true -> ∀ (i : Nat) (pins : List (Addr × Obj)) (s : Shared) (σ : St) (H : Hp) (E : Value -> Shared -> Prop), Inv X pins σ H s -> (∀ b ∈ fp, vQ X pins H b) -> tn i s.heap -> J.go i H →
   wpAny (model P w) X.A (pyNext (.ref it)) (fun r s1 => ∃ u, r = some u ∧
     wpAny (model P w) X.A (letOwnedTupleGo tg (.ref it) u) (fun _ s2 => ∃ x H', Inv X pins σ H' s2 /\ RelV x u /\ J.Ry i H x H' /\ tn (i + 1) s2.heap /\ ∀ b ∈ fp, H' b = none) E s1) E s
 done : ∀ (X : Cx), X.prog = P -> X.w = w -> X.K = K -> X.calm = true -> ∀ (i : Nat) (pins : List (Addr × Obj)) (s : Shared) (σ : St) (H : Hp) (E : Value -> Shared -> Prop), Inv X pins σ H s -> (∀ b ∈ fp, vQ X pins H b) -> tn i s.heap -> J.stop i H →
   wpAny (model P w) X.A (pyNext (.ref it)) (fun r s1 => r = none /\ Inv X pins σ H s1) E s
 self : ∀ (A : Around) (i : Nat) (s : Shared) (Q : Value -> Shared -> Prop) (E : Value -> Shared -> Prop), tn i s.heap -> Q (.ref it) s -> wpAny (model P w) A (pyIter (.ref it)) Q E s
noncomputable abbrev TI := St -> Hp -> (It -> Hp -> Prop) -> Prop
noncomputable def PIE (X : Cx) (pins : List (Addr × Obj)) (σ : St) (tg : Expr) (R : It -> Hp -> Prop) (YQ : Value) (s2 : Shared) : Prop :=
 ∃ (it : Addr) (fp : List Addr) (tn : Nat -> Heap -> Prop) (J : It) (H' : Hp), YQ = .ref it /\ Inv X pins σ H' s2 /\ Turn X.prog X.w X.K tg J fp it tn /\ tn 0 s2.heap /\ (∀ b ∈ fp, vQ X pins H' b) /\ R J H'
noncomputable def PI (X : Cx) (tg iter : Expr) (wi : TI) : Prop :=
 ∀ (pins : List (Addr × Obj)) (s : Shared) (σ : St) (H : Hp) (R : It -> Hp -> Prop), Inv X pins σ H s -> wi σ H R →
   wpAny (model X.prog X.w) X.A (eval iter X.env) (fun v s1 => wpAny (model X.prog X.w) X.A (pyIter v) (PIE X pins σ tg R) X.xe s1) X.xe s
theorem C6 {M : Model} {A : Around} {E : Value -> Shared -> Prop} {s : Shared} {tg : Expr} {it : Addr} {u : Value} {o : Obj} {n : String} {vs : Array Value} {Q : Unit -> Shared -> Prop} (ho : s.heap.get? it = some o) (hc : o.cls = .type n) (hd : o.data = .fields vs)
   (hn : ["enumerate", "zip", "dict_itemiterator", "dict_reverseitemiterator", "odict_iterator", "itertools.zip_longest", "itertools.pairwise"].contains n = false) (hQ : Q () s) : wpAny M A (letOwnedTupleGo tg (.ref it) u) Q E s := by
 unfold letOwnedTupleGo
 cases tg <;> first
   | exact aeX hQ
   | (cases u <;> first
       | exact aeX hQ
       | (refine aeC (wpAny_load ho ?_)
          rw [hc, hd]
          show wpAny M A (if (["enumerate", "zip", "dict_itemiterator", "dict_reverseitemiterator", "odict_iterator", "itertools.zip_longest", "itertools.pairwise"].contains n && vs[0]? == some (rawInt _)) = true then _ else _) Q E s
          rw [aeq (by intro h; rw [hn, Bool.false_and] at h; cases h)]
          exact aeX hQ))
noncomputable def Itl (K : PySem.W.Frag) (a : Addr) : It :=
 ⟨fun i H => ∃ xs x, qk K H a xs /\ xs[i]? = some x, fun i H x H' => H' = H /\ ∀ xs, qk K H a xs -> xs[i]? = some x, fun i H => ∃ xs, qk K H a xs /\ xs.length <= i⟩
noncomputable def Itt (K : PySem.W.Frag) (a : Addr) : It :=
 ⟨fun i H => ∃ xs x, wX K H a xs /\ xs[i]? = some x, fun i H x H' => H' = H /\ ∀ xs, wX K H a xs -> xs[i]? = some x, fun i H => ∃ xs, wX K H a xs /\ xs.length <= i⟩
noncomputable def YR (lo : Int) (n : Nat) : It := ⟨fun i _ => i < n, fun i H x H' => H' = H /\ x = .int (lo + i), fun i _ => n <= i⟩
theorem IB {P : Program} {w : World} {K : PySem.W.Frag} {tg : Expr} (a it : Addr) : Turn P w K tg (Itl K a) [it] it (fun i h => h.IsListIter it a i) where
 mem := by simp
 obj := fun i h st b hb => by
   have e : b = it := by simpa using hb
   subst e
   obtain ⟨o, e, c, d⟩ := st
   exact ⟨o, e, fun v z => by rw [d] at z; cases z⟩
 keep := fun i h h' st k => st.at fun o e => k it (by simp) o e
 item := by
   intro X hP hw hK hc i pins s σ H E I hf st hg
   subst hP hw hK
   obtain ⟨xs, x, hq, hx⟩ := hg
   obtain ⟨its, rv, p, hz⟩ := I.list hq
   obtain ⟨u, hu, ru⟩ := rv.get hx
   obtain ⟨f0, f1, f2, f3, f4, f5⟩ := hf it (by simp)
   refine wpAny_pyNext_list_item st p.isList (x := u) (by simpa using hu) fun h' GN sb => ?_
   have I1 : Inv X pins σ H { s with heap := h' } := I.turned (t' := s.toks) (fun b o hb e => (sb.2 b hb).trans e) f0 f1 f3 f4 f5
   obtain ⟨o, e, c, d⟩ := id GN
   exact ⟨u, rfl, C6 (s := { s with heap := h' }) e c d (by decide) ⟨x, H, I1, ru, ⟨rfl, fun ys hy => by rw [I.C3 hy hq]; exact hx⟩, GN, fun b hb => (hf b hb).1⟩⟩
 done := by
   intro X hP hw hK hc i pins s σ H E I hf st hg
   subst hP hw hK
   obtain ⟨xs, hq, hx⟩ := hg
   obtain ⟨its, rv, p, hz⟩ := I.list hq
   obtain ⟨f0, f1, f2, f3, f4, f5⟩ := hf it (by simp)
   have hl := rv.length
   exact wpAny_pyNext_list_end (I.ok.hd hc) st p.isList (by simp; omega) fun h' eb => ⟨rfl, I.turned (t' := s.toks) (fun b o hb e => eb b o hb e) f0 f1 f3 f4 f5⟩
 self := fun _ _ _ _ _ st h => wpAny_pyIter_listiter st h
theorem Eu {P : Program} {w : World} {K : PySem.W.Frag} {tg : Expr} (a it : Addr) : Turn P w K tg (Itt K a) [it] it (fun i h => h.IsTupleIter it a i) where
 mem := by simp
 obj := fun i h st b hb => by
   have e : b = it := by simpa using hb
   subst e
   obtain ⟨o, e, c, d⟩ := st
   exact ⟨o, e, fun v z => by rw [d] at z; cases z⟩
 keep := fun i h h' st k => st.at fun o e => k it (by simp) o e
 item := by
   intro X hP hw hK hc i pins s σ H E I hf st hg
   subst hP hw hK
   obtain ⟨xs, x, hq, hx⟩ := hg
   obtain ⟨its, rv, p, hz⟩ := I.tuple hq
   obtain ⟨u, hu, ru⟩ := rv.get hx
   obtain ⟨f0, f1, f2, f3, f4, f5⟩ := hf it (by simp)
   refine wpAny_pyNext_tuple_item st (show s.heap.IsTuple a its.toArray from p) (x := u) (by simpa using hu) fun h' GN sb => ?_
   have I1 : Inv X pins σ H { s with heap := h' } := I.turned (t' := s.toks) (fun b o hb e => (sb.2 b hb).trans e) f0 f1 f3 f4 f5
   obtain ⟨o, e, c, d⟩ := id GN
   exact ⟨u, rfl, C6 (s := { s with heap := h' }) e c d (by decide) ⟨x, H, I1, ru, ⟨rfl, fun ys hy => by rw [I.IA hy hq]; exact hx⟩, GN, fun b hb => (hf b hb).1⟩⟩
 done := by
   intro X hP hw hK hc i pins s σ H E I hf st hg
   subst hP hw hK
   obtain ⟨xs, hq, hx⟩ := hg
   obtain ⟨its, rv, p, hz⟩ := I.tuple hq
   obtain ⟨f0, f1, f2, f3, f4, f5⟩ := hf it (by simp)
   have hl := rv.length
   exact wpAny_pyNext_tuple_end (I.ok.hd hc) st (show s.heap.IsTuple a its.toArray from p) (by simp; omega) fun h' eb => ⟨rfl, I.turned (t' := s.toks) (fun b o hb e => eb b o hb e) f0 f1 f3 f4 f5⟩
 self := fun _ _ _ _ _ st h => wpAny_pyIter_tupleiter st h
theorem Ew {P : Program} {w : World} {K : PySem.W.Frag} {tg : Expr} (it : Addr) (lo : Int) (n : Nat) : Turn P w K tg (YR lo n) [it] it (fun i h => IsRangeIter h it (lo + (i : Nat) * 1) ((n : Int) - (i : Nat)) 1) where
 mem := by simp
 obj := fun i h st b hb => by
   have e : b = it := by simpa using hb
   subst e
   exact ⟨_, st, fun v z => by
     have z' : Data.fields _ = Data.cell v := z
     cases z'⟩
 keep := fun i h h' st k => k it (by simp) _ st
 item := by
   intro X hP hw hK hc i pins s σ H E I hf st hg
   subst hP hw hK
   obtain ⟨f0, f1, f2, f3, f4, f5⟩ := hf it (by simp)
   have W := Walks.range (prog := X.prog) (w := X.w) (I.ok.hd hc) it lo 1 n
   refine W.item i s _ _ hg st fun v h' tk hv GN kk => ?_
   obtain ⟨t, rfl⟩ := hv
   have I1 : Inv X pins σ H { s with heap := h', toks := tk } := I.turned (fun b o hb e => kk b o (by simpa using hb) e) f0 f1 f3 f4 f5
   refine ⟨_, rfl, C6 (s := { s with heap := h', toks := tk }) (n := "range_iterator") GN rfl rfl (by decide) ⟨.int (lo + i), H, I1, ⟨t, ?_⟩, ⟨rfl, rfl⟩, GN, fun b hb => (hf b hb).1⟩⟩
   rw [Int.mul_one]
 done := by
   intro X hP hw hK hc i pins s σ H E I hf st hg
   subst hP hw hK
   obtain ⟨f0, f1, f2, f3, f4, f5⟩ := hf it (by simp)
   exact wpAny_pyNext_range_end (I.ok.hd hc) st (by have : n <= i := hg; omega) fun h' eb => ⟨rfl, I.turned (t' := s.toks) (fun b o hb e => eb b o hb e) f0 f1 f3 f4 f5⟩
 self := fun _ _ _ _ _ st h => wpAny_pyIter_rangeiter st h
section
variable {X : Cx} {tg : Expr}
noncomputable def WB (K : PySem.W.Frag) (tl : TE) : TI := fun σ H R => tl σ H fun x H1 => ∃ a, x = .ref a /\ (∃ xs, qk K H1 a xs) /\ R (Itl K a) H1
noncomputable def ZH (K : PySem.W.Frag) (tl : TE) : TI := fun σ H R => tl σ H fun x H1 => ∃ a, x = .ref a /\ (∃ xs, wX K H1 a xs) /\ R (Itt K a) H1
theorem GO {l : Expr} {tl : TE} (hl : PE X l tl) : PI X tg l (WB X.K tl) := by
 intro pins s σ H R I h
 refine dU (hl pins s σ H _ I h) fun v s1 zz => ?_
 obtain ⟨x, H1, I1, r1, q1⟩ := zz
 obtain ⟨a, e, ⟨xs, hq⟩, q⟩ := q1
 subst e
 cases r1
 obtain ⟨its, rv, p, hz⟩ := I1.list hq
 refine wpAny_pyIter_list p.isList ?_
 refine ⟨s1.heap.objs.size, [s1.heap.objs.size], _, _, H1, rfl, I1.kept (t' := s1.toks) fun b o e => aem _ e, IB a _, ⟨_, aeK _ rfl, rfl, rfl⟩, fun b hb => ?_, q⟩
 have e : b = s1.heap.objs.size := by simpa using hb
 subst e
 exact I1.Aw (ael _) (I1.fN.fresh (ael _))
theorem Tg {l : Expr} {tl : TE} (hl : PE X l tl) : PI X tg l (ZH X.K tl) := by
 intro pins s σ H R I h
 refine dU (hl pins s σ H _ I h) fun v s1 zz => ?_
 obtain ⟨x, H1, I1, r1, q1⟩ := zz
 obtain ⟨a, e, ⟨xs, hq⟩, q⟩ := q1
 subst e
 cases r1
 obtain ⟨its, rv, p, hz⟩ := I1.tuple hq
 refine wpAny_pyIter_tuple (show s1.heap.IsTuple a its.toArray from p) ?_
 refine ⟨s1.heap.objs.size, [s1.heap.objs.size], _, _, H1, rfl, I1.kept (t' := s1.toks) fun b o e => aem _ e, Eu a _, ⟨_, aeK _ rfl, rfl, rfl⟩, fun b hb => ?_, q⟩
 have e : b = s1.heap.objs.size := by simpa using hb
 subst e
 exact I1.Aw (ael _) (I1.fN.fresh (ael _))
theorem C7 {pins : List (Addr × Obj)} {σ : St} {H : Hp} {s : Shared} {R : It -> Hp -> Prop} {E : Value -> Shared -> Prop} {lo hi : Int} {t u v : Tok} {tk : Nat} (I : Inv X pins σ H s) (h1 : -(2 ^ 62) <= lo) (h2 : lo < 2 ^ 62) (h3 : -(2 ^ 62) <= hi) (h4 : hi < 2 ^ 62)
   (q : R (YR lo (hi - lo).toNat) H) : wpAny (model X.prog X.w) X.A (pyIter (.ref s.heap.objs.size)) (PIE X pins σ tg R) E { s with heap := s.heap.push { cls := .type "range", data := .fields #[.int lo t, .int hi u, .int 1 v] }, toks := tk } := by
 refine wpAny_pyIter_range (IsRange.new ..) (small_one h1 h2 h3 h4) ?_
 have I1 : Inv X pins σ H { s with heap := s.heap.push { cls := .type "range", data := .fields #[.int lo t, .int hi u, .int 1 v] }, toks := tk } := I.kept fun b o e => aem _ e
 refine ⟨(s.heap.push { cls := .type "range", data := .fields #[.int lo t, .int hi u, .int 1 v] }).objs.size, [(s.heap.push { cls := .type "range", data := .fields #[.int lo t, .int hi u, .int 1 v] }).objs.size], _, _, H, rfl,
   I1.kept (t' := tk) fun b o e => aem _ e, Ew _ lo (hi - lo).toNat, ?_, fun b hb => ?_, q⟩
 . have e1 : lo + ((0 : Nat) : Int) * 1 = lo := by simp
   have e2 : (((hi - lo).toNat : Nat) : Int) - ((0 : Nat) : Int) = Builtin.Range.rangeSize lo hi 1 := by rw [rangeSize_one]; split <;> omega
   show IsRangeIter _ _ (lo + ((0 : Nat) : Int) * 1) ((((hi - lo).toNat : Nat) : Int) - ((0 : Nat) : Int)) 1
   rw [e1, e2]
   exact aeK _ rfl
 . have e : b = (s.heap.push { cls := .type "range", data := .fields #[.int lo t, .int hi u, .int 1 v] }).objs.size := by simpa using hb
   subst e
   exact I1.Aw (ael _) (I1.fN.fresh (ael _))
noncomputable def WC (ta : TA) : TI := fun σ H R => ta σ H fun vs H1 => ∃ j : Int, vs = [.int j] /\ -(2 ^ 62) <= j /\ j < 2 ^ 62 /\ R (YR 0 j.toNat) H1
noncomputable def WD (ta : TA) : TI := fun σ H R => ta σ H fun vs H1 => ∃ i j : Int, vs = [.int i, .int j] /\ (-(2 ^ 62) <= i /\ i < 2 ^ 62 /\ -(2 ^ 62) <= j /\ j < 2 ^ 62) /\ R (YR i (j - i).toNat) H1
theorem IC {a : Expr} {ta : TA} {p pos : Pos} (hg : Gl X "range") (hm : X.mg "range" = none) (ha : PA X [a] ta) (hs : starEach [a] X.env = [(false, eval a X.env)] := by rfl) : PI X tg (.Call (.Name "range" p) [a] [] pos) (WC ta) := by
 intro pins s σ H R I h
 refine Call_ (uy I hg hm boot_range (afl (dU (ha pos pins s σ H _ I h) fun us s1 zz => ?_) hs rfl))
 obtain ⟨vs, H1, I1, r1, q1⟩ := zz
 obtain ⟨j, e, q1, q2, q⟩ := q1
 subst e
 cases r1 with
 | cons r rr =>
   cases rr
   obtain ⟨t, rfl⟩ := r
   exact call_range_1 (C7 I1 (by omega) (by omega) q1 q2 (by simpa using q))
theorem IE {a b : Expr} {ta : TA} {p pos : Pos} (hg : Gl X "range") (hm : X.mg "range" = none) (ha : PA X [a, b] ta) (hs : starEach [a, b] X.env = [(false, eval a X.env), (false, eval b X.env)] := by rfl) (Eo : starEach [b] X.env = [(false, eval b X.env)] := by rfl) :
   PI X tg (.Call (.Name "range" p) [a, b] [] pos) (WD ta) := by
 intro pins s σ H R I h
 refine Call_ (uy I hg hm boot_range (afl (dU (ha pos pins s σ H _ I h) fun us s1 zz => ?_) (by rw [hs, Eo]) (by rw [Eo]; rfl)))
 obtain ⟨vs, H1, I1, r1, q1⟩ := zz
 obtain ⟨i, j, e, ⟨q1, q2, q3, q4⟩, q⟩ := q1
 subst e
 cases r1 with
 | cons r rr =>
   cases rr with
   | cons r' rr =>
     cases rr
     obtain ⟨t, rfl⟩ := r
     obtain ⟨t', rfl⟩ := r'
     exact call_range_2 (C7 I1 q1 q2 q3 q4 q)
noncomputable def ZI (wi : TI) (g : TG) (tb : TS) : TS := fun D σ H => wi σ H fun J H1 => ∃ W : Nat -> Nat -> St -> Hp -> Prop, (∃ m, W 0 m σ H1) /\ ∀ i m σ H, W i m σ H →
 (J.stop i H /\ D.nx σ H) \/ (J.go i H /\ ∃ N : St -> Hp -> Prop, (∀ σ' H', N σ' H' -> ∃ m', m' < m /\ W (i + 1) m' σ' H') /\ ∀ x H', J.Ry i H x H' -> g x σ H' fun σ2 H2 => tb { D with nx := N, ct := N, bk := D.nx } σ2 H2)
noncomputable def xK (fp : List Addr) (h : Heap) : List (Addr × Obj) := fp.filterMap fun b => (h.get? b).map fun o => (b, o)
theorem mF {fp : List Addr} {h : Heap} {b : Addr} {o : Obj} (hb : b ∈ fp) (e : h.get? b = some o) : (b, o) ∈ xK fp h := List.mem_filterMap.mpr ⟨b, hb, by rw [e]; rfl⟩
theorem IG {fp : List Addr} {h : Heap} {p : Addr × Obj} (hp : p ∈ xK fp h) : p.1 ∈ fp /\ h.get? p.1 = some p.2 := by
 obtain ⟨b, hb, e⟩ := List.mem_filterMap.mp hp
 cases q : h.get? b with
 | none => rw [q] at e; cases e
 | some o =>
   rw [q] at e
   have e' : (b, o) = p := aeH e
   subst e'
   exact ⟨hb, q⟩
theorem Inv.pinned {pins : List (Addr × Obj)} {σ : St} {H : Hp} {s : Shared} {fp : List Addr} (I : Inv X pins σ H s) (hf : ∀ b ∈ fp, vQ X pins H b) (ho : ∀ b ∈ fp, ∃ o, s.heap.get? b = some o /\ ∀ v, o.data ≠ .cell v) : Inv X (pins ++ xK fp s.heap) σ H s :=
 I.wV fun p hp => (aen.mp hp).elim (fun z => I.pin p (aeb _ z)) fun z => by
   obtain ⟨hb, e⟩ := IG z
   obtain ⟨f0, f1, f2, _⟩ := hf p.1 hb
   obtain ⟨o, e', d⟩ := ho p.1 hb
   rw [e] at e'; cases e'
   exact ⟨e, f0, f1, f2, d⟩
theorem Inv.rP {pins pl : List (Addr × Obj)} {σ : St} {H : Hp} {s : Shared} (I : Inv X (pins ++ pl) σ H s) : Inv X pins σ H s := I.wV fun p hp => I.pin p (aeb _ (aei _ hp))
theorem Ex {iter : Expr} {body : List Stmt} {wi : TI} {g : TG} {tb : TS} {pos : Pos} (hp : PassesOwn (model X.prog X.w) X.A X.env X.xe) (hc : X.calm = true) (hi : PI X tg iter wi) (hg : PG X tg g) (hb : GL X body tb)
   (hs : ∀ x, foldedSetIterable iter X.env x = pure x := by intro _; rfl) : PS X (.For tg iter body [] pos) (ZI wi g tb) := by
 intro pins s σ H D I h
 refine wpAny_For (dU (hi pins s σ H _ I h) fun v s1 h1 => dU h1 fun YQ s2 h2 => ?_) hs
 obtain ⟨it, fp, tn, J, H2, e, I2, T, st2, f2, W, ⟨m0, w0⟩, turn⟩ := h2
 subst e
 have stat : ∀ {H' : Hp}, (∀ b ∈ fp, H' b = none) -> ∀ b ∈ fp, vQ X pins H' b := fun hn b hb => ⟨hn b hb, (f2 b hb).2⟩
 refine codeAny_forLoop_any (fun n s' => ∃ i σ' H', Inv X pins σ' H' s' /\ tn i s'.heap /\ (∀ b ∈ fp, H' b = none) /\ W i n σ' H') ?_ m0 ⟨0, σ, H2, I2, st2, fun b hb => (f2 b hb).1, w0⟩
 rintro n s3 ⟨i, σ3, H3, I3, WG, fr3, w3⟩
 rcases turn i n σ3 H3 w3 with ⟨stop, qn⟩ | ⟨go, N, hN, step⟩
 . refine afn hp (dU (T.done X rfl rfl rfl hc i pins s3 σ3 H3 X.xe I3 (stat fr3) WG stop) fun r s4 zz => ?_)
   obtain ⟨hr, I4⟩ := zz
   subst hr
   exact wpAny_execs_nil ⟨σ3, H3, I4, qn⟩
 . refine afn hp (dU (T.item X rfl rfl rfl hc i pins s3 σ3 H3 X.xe I3 (stat fr3) WG go) fun r s4 zz => ?_)
   obtain ⟨u, hr, h4⟩ := zz
   subst hr
   refine afn hp (dU h4 fun _ s5 zz => ?_)
   obtain ⟨x, H5, I5, r5, y5, V5, YS⟩ := zz
   have I5' := I5.pinned (stat YS) (T.obj _ _ V5)
   refine afn hp (dU (hg _ s5 σ3 H5 x u _ I5' r5 (step x H5 y5)) fun _ s6 zz => ?_)
   obtain ⟨σ6, H6, I6, q6⟩ := zz
   refine afn hp (dU (hb _ s6 σ6 H6 _ I6 q6) fun f s7 q7 => ?_)
   have again : ∀ {σ7 : St} {H7 : Hp}, Inv X (pins ++ xK fp s5.heap) σ7 H7 s7 -> N σ7 H7 -> ∃ m, m < n /\ ∃ i σ' H', Inv X pins σ' H' s7 /\ tn i s7.heap /\ (∀ b ∈ fp, H' b = none) /\ W i m σ' H' := fun {σ7 H7} I7 n7 => by
     obtain ⟨m', hm, w7⟩ := hN σ7 H7 n7
     refine ⟨m', hm, i + 1, σ7, H7, I7.rP, T.keep _ _ _ V5 fun b hb o e => (I7.pin (b, o) (aeb _ (aeb _ (mF hb e)))).1, fun b hb => ?_, w7⟩
     obtain ⟨o, e, d⟩ := T.obj _ _ V5 b hb
     exact (I7.pin (b, o) (aeb _ (aeb _ (mF hb e)))).2.1
   cases f with
   | next => obtain ⟨σ7, H7, I7, n7⟩ := q7; exact again I7 n7
   | cont => obtain ⟨σ7, H7, I7, n7⟩ := q7; exact again I7 n7
   | brk => obtain ⟨σ7, H7, I7, q7⟩ := q7; exact ⟨σ7, H7, I7.rP, q7⟩
   | ret v => obtain ⟨x7, σ7, H7, I7, r7, q7⟩ := q7; exact ⟨x7, σ7, H7, I7.rP, r7, q7⟩
end
noncomputable abbrev R2 := V -> V -> Hp -> VK -> Prop
noncomputable def ql (X : Cx) (f : Value -> Value -> Sem Value) (r : R2) : Prop :=
 ∀ (pins : List (Addr × Obj)) (s : Shared) (σ : St) (H : Hp) (x y : V) (v u : Value) (Q : VK), Inv X pins σ H s -> RelV x v -> RelV y u -> r x y H Q →
   wpAny (model X.prog X.w) X.A (f v u) (EP X pins σ Q) X.xe s
noncomputable def ZJ (X : Cx) (f : Value -> Sem Value) (r : V -> Hp -> VK -> Prop) : Prop :=
 ∀ (pins : List (Addr × Obj)) (s : Shared) (σ : St) (H : Hp) (x : V) (v : Value) (Q : VK), Inv X pins σ H s -> RelV x v -> r x H Q →
   wpAny (model X.prog X.w) X.A (f v) (EP X pins σ Q) X.xe s
noncomputable def oh (X : Cx) (f : Value) (r : List V -> Hp -> VK -> Prop) : Prop :=
 ∀ (pins : List (Addr × Obj)) (s : Shared) (σ : St) (H : Hp) (xs : List V) (us : List Value) (Q : VK), Inv X pins σ H s -> Vals xs us -> r xs H Q →
   wpAny (model X.prog X.w) X.A (call f us) (EP X pins σ Q) X.xe s
noncomputable def YT (r : R2) (ta tb : TE) : TE := fun σ H Q => ta σ H fun x H1 => tb σ H1 fun y H2 => r x y H2 Q
noncomputable def tUn (r : V -> Hp -> VK -> Prop) (ta : TE) : TE := fun σ H Q => ta σ H fun x H1 => r x H1 Q
noncomputable def rI (C : Int -> Int -> Prop) (g : Int -> Int -> V) : R2 := fun x y H Q => ∃ i j, x = .int i /\ y = .int j /\ C i j /\ Q (g i j) H
noncomputable def Ol (g : Int -> Int -> V) : R2 := fun x y H Q => ∃ i j, x = .int i /\ y = .int j /\ Q (g i j) H
noncomputable def rU (g : Int -> V) : V -> Hp -> VK -> Prop := fun x H Q => ∃ i, x = .int i /\ Q (g i) H
section
variable {X : Cx} {a b c : Expr} {ta tb tc : TE} {pos : Pos}
theorem Ti (ha : PE X a ta) (hb : PE X b tb) {pins : List (Addr × Obj)} {s : Shared} {σ : St} {H : Hp} {R : V -> V -> Hp -> Prop} (I : Inv X pins σ H s)
   (h : ta σ H fun x H1 => tb σ H1 fun y H2 => R x y H2) {Q : Value -> Shared -> Prop} {f : Value -> Value -> Sem Value}
   (hf : ∀ v u s2 x y H2, Inv X pins σ H2 s2 -> RelV x v -> RelV y u -> R x y H2 -> wpAny (model X.prog X.w) X.A (f v u) Q X.xe s2) :
   wpAny (model X.prog X.w) X.A (eval a X.env) (fun v s₁ => wpAny (model X.prog X.w) X.A (eval b X.env) (fun u s₂ => wpAny (model X.prog X.w) X.A (f v u) Q X.xe s₂) X.xe s₁) X.xe s := by
 refine dU (ha pins s σ H _ I h) fun v s1 zz => ?_
 obtain ⟨x, H1, I1, r1, q1⟩ := zz
 refine dU (hb pins s1 σ H1 _ I1 q1) fun u s2 zz => ?_
 obtain ⟨y, H2, I2, r2, q2⟩ := zz
 exact hf v u s2 x y H2 I2 r1 r2 q2
theorem Rz {op : Operator} {r : R2} (ho : ql X (binaryOp op) r) (ha : PE X a ta) (hb : PE X b tb) : PE X (.BinOp a op b pos) (YT r ta tb) := by
 intro pins s σ H Q I h
 exact wpAny_BinOp (Ti ha hb I h fun v u s2 x y H2 I2 rx ry q => ho pins s2 σ H2 x y v u Q I2 rx ry q)
theorem WH {op : UnaryOp} {r : V -> Hp -> VK -> Prop} (ho : ZJ X (unaryOp op) r) (ha : PE X a ta) : PE X (.UnaryOp op a pos) (tUn r ta) := by
 intro pins s σ H Q I h
 exact UnaryOp_ (dU (ha pins s σ H _ I h) fun v s1 ⟨x, H1, I1, r1, q1⟩ => ho pins s1 σ H1 x v Q I1 r1 q1)
theorem WK {f : Value -> Value -> Sem Value} {C : Int -> Int -> Prop} {g : Int -> Int -> Int}
   (rule : ∀ (i j : Int) (t u : Tok) (s : Shared) (Q : Value -> Shared -> Prop) (E : Value -> Shared -> Prop), C i j -> Q (.int (g i j) s.toks) { s with toks := s.toks + 1 } -> wpAny (model X.prog X.w) X.A (f (.int i t) (.int j u)) Q E s) :
   ql X f (rI C fun i j => .int (g i j)) := by
 intro pins s σ H x y v u Q I rx ry h
 obtain ⟨i, j, rfl, rfl, hc, q⟩ := h
 obtain ⟨t, rfl⟩ := rx
 obtain ⟨t', rfl⟩ := ry
 exact rule i j t t' s _ _ hc ⟨.int (g i j), H, I.tok _, ⟨_, rfl⟩, q⟩
theorem WL {f : Value -> Value -> Sem Value} {g : Int -> Int -> Int}
   (rule : ∀ (i j : Int) (t u : Tok) (s : Shared) (Q : Value -> Shared -> Prop) (E : Value -> Shared -> Prop), Q (.int (g i j) s.toks) { s with toks := s.toks + 1 } -> wpAny (model X.prog X.w) X.A (f (.int i t) (.int j u)) Q E s) :
   ql X f (Ol fun i j => .int (g i j)) := by
 intro pins s σ H x y v u Q I rx ry h
 obtain ⟨i, j, rfl, rfl, q⟩ := h
 obtain ⟨t, rfl⟩ := rx
 obtain ⟨t', rfl⟩ := ry
 exact rule i j t t' s _ _ ⟨.int (g i j), H, I.tok _, ⟨_, rfl⟩, q⟩
theorem Tj {f : Value -> Value -> Sem Value} {g : Int -> Int -> Bool}
   (rule : ∀ (i j : Int) (t u : Tok) (s : Shared) (Q : Value -> Shared -> Prop) (E : Value -> Shared -> Prop), Q (.bool (g i j)) s -> wpAny (model X.prog X.w) X.A (f (.int i t) (.int j u)) Q E s) :
   ql X f (Ol fun i j => .bl (g i j)) := by
 intro pins s σ H x y v u Q I rx ry h
 obtain ⟨i, j, rfl, rfl, q⟩ := h
 obtain ⟨t, rfl⟩ := rx
 obtain ⟨t', rfl⟩ := ry
 exact rule i j t t' s _ _ ⟨.bl (g i j), H, I, rfl, q⟩
noncomputable def WM (i j : Int) : Prop := 0 < j /\ j < 1073741824
noncomputable def WN (i j : Int) : Prop := 0 <= j /\ j <= 1000000 /\ i.natAbs < 2 ^ 64
noncomputable def Om (i j : Int) : Prop := (-(2 ^ 64) < i /\ i < 2 ^ 64) \/ (-(2 ^ 64) < j /\ j < 2 ^ 64)
theorem Om.ok {i j : Int} (h : Om i j) : IntMulOk i j := by
 rcases h with ⟨h1, h2⟩ | ⟨h1, h2⟩
 . exact .of_left (intBits_le_64 h1 h2)
 . exact .of_right (intBits_le_64 h1 h2)
theorem Tp : ql X (binaryOp .Add) (Ol fun i j => .int (i + j)) := WL fun _ _ _ _ _ _ _ q => add_int q
theorem Tq : ql X (binaryOp .Sub) (Ol fun i j => .int (i - j)) := WL fun _ _ _ _ _ _ _ q => sub_int q
theorem Tr : ql X (binaryOp .Mult) (rI Om fun i j => .int (i * j)) := WK fun _ _ _ _ _ _ _ hc q => mul_int q hc.ok
theorem Oo : ql X (binaryOp .FloorDiv) (rI WM fun i j => .int (i / j)) := WK fun i j _ _ _ _ _ hc q => by
 have h1 : (0 : Int) < j := hc.1
 have h2 : j < 1073741824 := hc.2
 exact floordiv_int (by omega) (by rw [Int.fdiv_eq_ediv_of_nonneg i (by omega)]; exact q) (.inl (PyProof.noPylong_small (by omega)))
theorem Tt : ql X (binaryOp .Mod) (rI (fun _ j => 0 < j) fun i j => .int (i % j)) := WK fun i j _ _ _ _ _ hc q => by
 have h1 : (0 : Int) < j := hc
 exact mod_int' (by omega) (by rw [Int.fmod_eq_emod_of_nonneg i (by omega)]; exact q)
theorem Tv : ql X (binaryOp .Pow) (rI WN fun i j => .int (i ^ j.toNat)) := WK fun _ _ _ _ _ _ _ hc q => pow_int_small hc.1 hc.2.1 hc.2.2 q
theorem unI {f : Value -> Sem Value} {g : Int -> Int}
   (rule : ∀ (i : Int) (t : Tok) (s : Shared) (Q : Value -> Shared -> Prop) (E : Value -> Shared -> Prop), Q (.int (g i) s.toks) { s with toks := s.toks + 1 } -> wpAny (model X.prog X.w) X.A (f (.int i t)) Q E s) :
   ZJ X f (rU fun i => .int (g i)) := by
 intro pins s σ H x v Q I rx h
 obtain ⟨i, rfl, q⟩ := h
 obtain ⟨t, rfl⟩ := rx
 exact rule i t s _ _ ⟨.int (g i), H, I.tok _, ⟨_, rfl⟩, q⟩
theorem Tw : ZJ X (unaryOp .USub) (rU fun i => .int (-i)) := unI fun _ _ _ _ _ q => neg_int q
end
noncomputable def Tz : V -> V -> Bool
 | .non, .non => true | .non, .int _ => true | .int _, .non => true | .non, .bl _ => true | .bl _, .non => true | .non, .str _ => true | .str _, .non => true
 | .int _, .int _ => true | .bl _, .bl _ => true | .str _, .str _ => true | .Iv _, .Iv _ => true
 | .int _, .str _ => true | .str _, .int _ => true | .bl _, .str _ => true | .str _, .bl _ => true
 | _, _ => false
noncomputable def rEq : R2 := fun x y H Q => Tz x y = true /\ Q (.bl (decide (x = y))) H
noncomputable def rNe : R2 := fun x y H Q => Tz x y = true /\ Q (.bl (!decide (x = y))) H
theorem GP {i j : Int} : decide (V.int i = V.int j) = (i == j) := by
 rw [afz]
 simp
theorem Kp {i j : Bool} : decide (V.bl i = V.bl j) = (i == j) := by
 rw [afz]
 simp
theorem GQ {i j : Str} : decide (V.str i = V.str j) = (i == j) := by
 rw [afz]
 simp
theorem GR {i j : Array UInt8} : decide (V.Iv i = V.Iv j) = (i.toList == j.toList) := by
 rw [afz]
 cases i
 cases j
 simp
section
variable {X : Cx} {a b c : Expr} {ta tb tc : TE} {pos : Pos}
theorem bN {pins : List (Addr × Obj)} {σ : St} {H : Hp} {s : Shared} {Q : VK} {k k' : Bool} (I : Inv X pins σ H s) (q : Q (.bl k) H) (e : k = k') : EP X pins σ Q (.bool k') s := by
 subst e
 exact ⟨.bl k, H, I, rfl, q⟩
theorem Kq : ql X (compareOp .Eq) rEq := by
 intro pins s σ H x y v u Q I rx ry h
 obtain ⟨hs, q⟩ := h
 cases x with
 | non =>
   cases rx
   cases y with
   | non => cases ry; exact PySem.EqNone.eq_none_none (bN I q (by simp))
   | bl j => cases ry; exact PySem.EqNone.eq_none_bool (bN I q (by simp))
   | int j => obtain ⟨t', rfl⟩ := ry; exact PySem.EqNone.eq_none_int (bN I q (by simp))
   | str j => obtain ⟨t', rfl⟩ := ry; exact PySem.EqNone.eq_none_str (bN I q (by simp))
   | _ => exact absurd (show false = true from hs) aep
 | bl i =>
   cases rx
   cases y with
   | non => cases ry; exact PySem.EqNone.eq_bool_none (bN I q (by simp))
   | bl j => cases ry; exact eq_bool (bN I q Kp)
   | str j => obtain ⟨t', rfl⟩ := ry; exact PySem.EqMixed.eq_bool_str (bN I q (by simp))
   | _ => exact absurd (show false = true from hs) aep
 | int i =>
   obtain ⟨t, rfl⟩ := rx
   cases y with
   | non => cases ry; exact PySem.EqNone.eq_int_none (bN I q (by simp))
   | int j => obtain ⟨t', rfl⟩ := ry; exact eq_int (bN I q GP)
   | str j => obtain ⟨t', rfl⟩ := ry; exact PySem.EqMixed.eq_int_str (bN I q (by simp))
   | _ => exact absurd (show false = true from hs) aep
 | str i =>
   obtain ⟨t, rfl⟩ := rx
   cases y with
   | non => cases ry; exact PySem.EqNone.eq_str_none (bN I q (by simp))
   | bl j => cases ry; exact PySem.EqMixed.eq_str_bool (bN I q (by simp))
   | int j => obtain ⟨t', rfl⟩ := ry; exact PySem.EqMixed.eq_str_int (bN I q (by simp))
   | str j => obtain ⟨t', rfl⟩ := ry; exact eq_str (bN I q GQ)
   | _ => exact absurd (show false = true from hs) aep
 | Iv i =>
   obtain ⟨t, rfl⟩ := rx
   cases y with
   | Iv j => obtain ⟨t', rfl⟩ := ry; exact PySem.W.eq_bytes (bN I q GR)
   | _ => exact absurd (show false = true from hs) aep
 | _ => cases y <;> exact absurd (show false = true from hs) aep
theorem RA : ql X (compareOp .NotEq) rNe := by
 intro pins s σ H x y v u Q I rx ry h
 obtain ⟨hs, q⟩ := h
 cases x with
 | non =>
   cases rx
   cases y with
   | non => cases ry; exact PySem.EqNone.ne_none_none (bN I q (by simp))
   | bl j => cases ry; exact PySem.EqNone.ne_none_bool (bN I q (by simp))
   | int j => obtain ⟨t', rfl⟩ := ry; exact PySem.EqNone.ne_none_int (bN I q (by simp))
   | str j => obtain ⟨t', rfl⟩ := ry; exact PySem.EqNone.ne_none_str (bN I q (by simp))
   | _ => exact absurd (show false = true from hs) aep
 | bl i =>
   cases rx
   cases y with
   | non => cases ry; exact PySem.EqNone.ne_bool_none (bN I q (by simp))
   | bl j => cases ry; exact ne_bool (bN I q (congrArg not Kp))
   | str j => obtain ⟨t', rfl⟩ := ry; exact PySem.EqMixed.ne_bool_str (bN I q (by simp))
   | _ => exact absurd (show false = true from hs) aep
 | int i =>
   obtain ⟨t, rfl⟩ := rx
   cases y with
   | non => cases ry; exact PySem.EqNone.ne_int_none (bN I q (by simp))
   | int j => obtain ⟨t', rfl⟩ := ry; exact ne_int (bN I q (congrArg not GP))
   | str j => obtain ⟨t', rfl⟩ := ry; exact PySem.EqMixed.ne_int_str (bN I q (by simp))
   | _ => exact absurd (show false = true from hs) aep
 | str i =>
   obtain ⟨t, rfl⟩ := rx
   cases y with
   | non => cases ry; exact PySem.EqNone.ne_str_none (bN I q (by simp))
   | bl j => cases ry; exact PySem.EqMixed.ne_str_bool (bN I q (by simp))
   | int j => obtain ⟨t', rfl⟩ := ry; exact PySem.EqMixed.ne_str_int (bN I q (by simp))
   | str j => obtain ⟨t', rfl⟩ := ry; exact ne_str (bN I q (congrArg not GQ))
   | _ => exact absurd (show false = true from hs) aep
 | Iv i =>
   obtain ⟨t, rfl⟩ := rx
   cases y with
   | Iv j => obtain ⟨t', rfl⟩ := ry; exact PySem.W.ne_bytes (bN I q (congrArg not GR))
   | _ => exact absurd (show false = true from hs) aep
 | _ => cases y <;> exact absurd (show false = true from hs) aep
theorem GU : ql X (compareOp .Lt) (Ol fun i j => .bl (decide (i < j))) := Tj fun _ _ _ _ _ _ _ q => lt_int q
theorem WO : ql X (compareOp .LtE) (Ol fun i j => .bl (decide (i <= j))) := Tj fun _ _ _ _ _ _ _ q => le_int q
theorem WQ : ql X (compareOp .Gt) (Ol fun i j => .bl (decide (j < i))) := Tj fun _ _ _ _ _ _ _ q => gt_int q
theorem Ax : ql X (compareOp .NotIn) (fun x y H Q => ∃ i j, x = .str i /\ y = .str j /\ Q (.bl (!(!(Builtin.Str.occurrences j i 0 j.length 1).isEmpty))) H) := by
 intro pins s σ H x y v u Q I rx ry h
 obtain ⟨i, j, rfl, rfl, q⟩ := h
 obtain ⟨t, rfl⟩ := rx
 obtain ⟨t', rfl⟩ := ry
 exact notIn_str (bN I q rfl)
theorem oi (b : Expr) {op : CmpOp} (h : op ≠ .In := by decide) (h2 : op ≠ .NotIn := by decide) : behindInMarks op b = false := by
 have e1 : (op == CmpOp.In) = false := by cases op <;> first | rfl | exact absurd rfl h
 have e2 : (op == CmpOp.NotIn) = false := by cases op <;> first | rfl | exact absurd rfl h2
 cases b <;> simp [behindInMarks, e1, e2]
theorem pJ {op : CmpOp} {r : R2} (ho : ql X (compareOp op) r) (ha : PE X a ta) (hb : PE X b tb) (hm : behindInMarks op b = false) : PE X (.Compare a [op] [b] pos) (YT r ta tb) := by
 intro pins s σ H Q I h
 exact wpAny_Compare1 (Ti ha hb I h fun v u s2 x y H2 I2 rx ry q => ho pins s2 σ H2 x y v u Q I2 rx ry q) hm
noncomputable def RB (t : TE) : TT := fun σ H Q => t σ H fun x H' => ∃ k, x = .bl k /\ Q k H'
theorem pK {op : CmpOp} {r : R2} (ho : ql X (compareOp op) r) (ha : PE X a ta) (hb : PE X b tb) (hm : behindInMarks op b = false) : PT X (.Compare a [op] [b] pos) (RB (YT r ta tb)) := by
 intro pins s σ H Q I h
 refine wpAny_isTrue_Compare1 (dU (ha pins s σ H _ I h) fun v s1 ⟨x, H1, I1, r1, q1⟩ => dU (hb pins s1 σ H1 _ I1 q1) fun u s2 ⟨y, H2, I2, r2, q2⟩ =>
   dU (ho pins s2 σ H2 x y v u _ I2 r1 r2 q2) fun c s3 ⟨z, H3, I3, r3, k, e, q3⟩ => ?_) hm
 subst e
 cases r3
 exact ae8 ⟨H3, I3, q3⟩
noncomputable def Kr (r r' : R2) (ta tb tc : TE) : TE := fun σ H Q => ta σ H fun x H1 => tb σ H1 fun y H2 => r x y H2 fun z H3 => ∃ k, z = .bl k ∧
 (if k = true then tc σ H3 fun w' H4 => r' y w' H4 Q else Q (.bl false) H3)
theorem Ks {op op' : CmpOp} {r r' : R2} (ho : ql X (compareOp op) r) (En : ql X (compareOp op') r') (ha : PE X a ta) (hb : PE X b tb) (hc : PE X c tc)
   (hm : lastMarks [op, op'] [b, c] = false := by with_unfolding_all rfl) : PE X (.Compare a [op, op'] [b, c] pos) (Kr r r' ta tb tc) := by
 intro pins s σ H Q I h
 refine Compare_chain (dU (ha pins s σ H _ I h) fun v s1 ⟨x, H1, I1, r1, q1⟩ => chain_link (dU (hb pins s1 σ H1 _ I1 q1) fun u s2 ⟨y, H2, I2, r2, q2⟩ =>
   dU (ho pins s2 σ H2 x y v u _ I2 r1 r2 q2) fun d s3 ⟨z, H3, I3, r3, k, e, q3⟩ => ?_)) hm
 subst e
 cases r3
 refine ae8 ?_
 cases k with
 | false => exact ite_ff ⟨.bl false, H3, I3, rfl, q3⟩
 | true => exact ite_tt (chain_last (dU (hc pins s3 σ H3 _ I3 q3) fun w' s4 ⟨z', H4, I4, r4, q4⟩ => En pins s4 σ H4 y z' u w' Q I4 r2 r4 q4))
theorem Ku {op op' : CmpOp} {r r' : R2} (ho : ql X (compareOp op) r) (En : ql X (compareOp op') r') (ha : PE X a ta) (hb : PE X b tb) (hc : PE X c tc)
   (hm : lastMarks [op, op'] [b, c] = false := by with_unfolding_all rfl) : PT X (.Compare a [op, op'] [b, c] pos) (RB (Kr r r' ta tb tc)) := by
 intro pins s σ H Q I h
 refine isTrue_chain (dU (ha pins s σ H _ I h) fun v s1 ⟨x, H1, I1, r1, q1⟩ => test_link (dU (hb pins s1 σ H1 _ I1 q1) fun u s2 ⟨y, H2, I2, r2, q2⟩ =>
   dU (ho pins s2 σ H2 x y v u _ I2 r1 r2 q2) fun d s3 ⟨z, H3, I3, r3, k, e, q3⟩ => ?_)) hm
 subst e
 cases r3
 refine ae8 ?_
 cases k with
 | false =>
   obtain ⟨k', e', q'⟩ := q3
   cases e'
   exact ite_ff ⟨H3, I3, q'⟩
 | true =>
   refine ite_tt (test_last (dU (hc pins s3 σ H3 _ I3 q3) fun w' s4 ⟨z', H4, I4, r4, q4⟩ => dU (En pins s4 σ H4 y z' u w' _ I4 r2 r4 q4) fun d' s5 zz => ?_))
   obtain ⟨z2, H5, I5, r5, k2, e2, q5⟩ := zz
   subst e2
   cases r5
   exact ae8 ⟨H5, I5, q5⟩
theorem uz : (sizeLine : Nat) < 2 ^ 63 := by rw [afh]; decide
theorem Ey : ql X (binaryOp .Add) (fun x y H Q => ∃ i j, x = .str i /\ y = .str j /\ i.length + j.length <= sizeLine /\ Q (.str (i ++ j)) H) := by
 intro pins s σ H x y v u Q I rx ry h
 obtain ⟨i, j, rfl, rfl, hz, q⟩ := h
 obtain ⟨t, rfl⟩ := rx
 obtain ⟨t', rfl⟩ := ry
 exact add_str (fun t' tk => ⟨.str (i ++ j), H, I.tok _, ⟨_, rfl⟩, q⟩) hz
theorem vals1 {x : V} {us : List Value} (r : Vals [x] us) : ∃ u, us = [u] /\ RelV x u := by
 cases r with
 | cons r1 r2 => cases r2; exact ⟨_, rfl, r1⟩
theorem Ay : oh X (.type "str") (fun xs H Q => ∃ i, xs = [.int i] /\ i.natAbs.log2 < 1920 /\ Q (.str (toString i)) H) := by
 intro pins s σ H xs us Q I r h
 obtain ⟨i, rfl, hz, q⟩ := h
 obtain ⟨u, rfl, t, rfl⟩ := vals1 r
 exact PySem.P.str_of_int hz ⟨.str _, H, I.tok _, ⟨_, rfl⟩, q⟩
end
structure II (h : Heap) (x dx C : Addr) (mA : Str -> Option Value) : Prop where
 obj : h.get? x = some (PySem.W.instObj C dx)
 ns : h.Ns1 dx mA
 ne : dx ≠ x
theorem IJ {h : Heap} {dx : Addr} {mA : Str -> Option Value} (n : h.Ns1 dx mA) : ∃ od, h.get? dx = some od /\ ∀ name, PySem.W.lookIn name od = some (mA name) := by
 obtain ⟨o, es, ep, ho, hd, hk, _, hm⟩ := n
 refine ⟨o, ho, fun name => ?_⟩
 have e := hm name
 unfold nsFind findBy at e
 rw [← Array.find?_toList] at e
 unfold PySem.W.lookIn
 rw [hd]
 dsimp only
 split
 . rename_i y q
   rw [q] at e
   exact congrArg some e
 . rename_i q
   rw [q] at e
   have a : es.toList.any (·.refKey) = false := by
     rw [List.any_eq_false]
     intro y hy
     obtain ⟨z, t, ZK⟩ := hk y (Array.mem_toList_iff.mp hy)
     simp [DictEntry.refKey, ZK]
   have a' : ¬ es.toList.any (·.refKey) = true := by rw [a]; exact aep
   rw [aeq a']
   exact congrArg some e
theorem II.look {h : Heap} {x dx C : Addr} {mA : Str -> Option Value} (I : II h x dx C mA) : ∃ od, PySem.W.InstAt h x (PySem.W.instObj C dx) C (some od) /\ ∀ name, PySem.W.lookIn name od = some (mA name) :=
 let ⟨od, ho, hl⟩ := IJ I.ns
 ⟨od, ⟨I.obj, rfl, rfl, ho⟩, hl⟩
section
variable {prog : Program} {w : World} {A : Around} {E : Value -> Shared -> Prop} {s : Shared} {K : PySem.W.Frag} {x dx C f : Addr} {mA : Str -> Option Value} {name : Str} {v : Value}
theorem get_map {expr : Bool} {Q : Value -> Shared -> Prop} (X : K.In s.heap) (I : II s.heap x dx C mA) (hg : PySem.W.plainGet K C name = true) (hh : PySem.W.hasDictIn K C = true)
   (ha : PySem.W.findIn K (.ref C) name = some none) (hv : mA name = some v) (hv' : PySem.W.handedIn v = true) (h : Q v { s with toks := s.toks + 1 }) :
   wpAny (model prog w) A (getAttr (.ref x) name expr) Q E s := by
 obtain ⟨od, J, hl⟩ := I.look
 exact PySem.W.get_value X J (PySem.W.plainGet_of hg).1 (PySem.W.findObj_own hh ha rfl (by rw [hl, hv])) hv' h
theorem Oq {ns : List Str} {Q : Unit -> Shared -> Prop} (X : K.In s.heap) (I : II s.heap x dx C mA)
   (hs : PySem.W.findIn K (.ref C) "__setattr__" = some (some (.builtin "object.__setattr__"))) (hp : PySem.W.plainOver K C = true) (ht : PySem.W.takerIn K C name = some none) (hh : PySem.W.hasDictIn K C = true)
   (hw : PySem.Within mA ns) (hsz : ns.length <= sizeLine)
   (h : ∀ h', II h' x dx C (fun y => if y = name then some v else mA y) -> Heap.SameBut dx s.heap h' -> Q () { s with heap := h', toks := s.toks + 2 }) :
   wpAny (model prog w) A (setAttr (.ref x) name v) Q E s := by
 obtain ⟨od, J, hl⟩ := I.look
 refine PySem.W.set_plain X J hs (PySem.W.osa_open (s := { s with toks := s.toks + 1 }) (r := none) X J hp ht fun b => ?_)
 obtain ⟨cd, hc, N1⟩ := PySem.W.any_some hh
 have hx : s.heap.get? x = some ⟨.ref C, some dx, .plain, #[]⟩ := I.obj
 refine aeC (aeX (aeC (aeC (wpAny_loadPart hx (aeC (PySem.W.Looks.here (s := { s with toks := s.toks + 1 }) (PySem.W.looks_clsIn X hc) ?_))))))
 rw [N1]
 refine aeX (a := some dx) (aeC (aeX (aeC ?_)))
 refine wpAny_nsSet1 (s := { s with toks := s.toks + 1 }) I.ns fun h' YV Eo => ?_
 obtain ⟨oD, esD, epD, hoD, hdD, hcD⟩ := YV.count (PySem.Within.cons name v hw)
 refine aeC (wpAny_lookBehind hoD (by rw [hdD]; exact pastItsLine_dict (aeZ hcD (by rw [aeV]; omega))) ?_)
 exact aeX (h _ ⟨(Eo.2 _ (afG I.ne)).trans I.obj, YV, I.ne⟩ Eo)
theorem Kv {R : Result -> Shared -> Prop} {vs : List Value} {kw : List (Str × Value)} (X : K.In s.heap) (hm : PySem.W.makesIn K C = true)
   (hi : PySem.W.findIn K (.ref C) "__init__" = some (some (.ref f))) (hf : PySem.W.typeIn K (.ref f) = some (.type "function"))
   (h : codeAny (model prog w) (A.under (.builtin "type.__call__" ⟨.ref C :: vs, kw⟩)) (.call (.ref f) ⟨.ref (s.heap.objs.size + 1) :: vs, kw⟩) (PySem.W.InitBack (s.heap.objs.size + 1) R)
     { s with heap := (s.heap.push PySem.W.emptyDict).push (PySem.W.instObj C s.heap.objs.size) }) :
   codeAny (model prog w) A (.call (.ref C) ⟨vs, kw⟩) R s := by
 obtain ⟨hh, g, d, t, os⟩ := s
 exact PySem.W.make_core (PySem.W.makes_of X hm) (PySem.W.looks_findIn X hi) (fun self => PySem.W.bind_fn X self hf) (.inl rfl) h
end
noncomputable def kG (f : Str) (v : V) : List (Str × V) -> List (Str × V)
 | [] => [(f, v)]
 | (g, x) :: r => if g = f then (g, v) :: r else (g, x) :: kG f v r
theorem vm (f g : Str) (v : V) : ∀ fs : List (Str × V), (kG f v fs).lookup g = if g = f then some v else fs.lookup g
 | [] => by
   show List.lookup g [(f, v)] = _
   by_cases h : g = f
   . have hb : (g == f) = true := beq_iff_eq.mpr h
     simp only [List.lookup, hb, aer h]
   . have hb : (g == f) = false := afv.mpr h
     simp only [List.lookup, hb, aeq h]
 | (k, x) :: r => by
   have ih := vm f g v r
   rw [show kG f v ((k, x) :: r) = (if k = f then (k, v) :: r else (k, x) :: kG f v r) from rfl]
   by_cases hk : k = f
   . rw [aer hk]
     by_cases h : g = k
     . have hb : (g == k) = true := beq_iff_eq.mpr h
       simp only [List.lookup, hb, aer (h.trans hk)]
     . have hb : (g == k) = false := afv.mpr h
       simp only [List.lookup, hb, aeq (fun e : g = f => h (e.trans hk.symm))]
   . rw [aeq hk]
     by_cases h : g = k
     . have hb : (g == k) = true := beq_iff_eq.mpr h
       simp only [List.lookup, hb, aeq (fun e : g = f => hk (h.symm.trans e))]
     . have hb : (g == k) = false := afv.mpr h
       simp only [List.lookup, hb]
       exact ih
theorem uA (f : Str) (v : V) : ∀ fs : List (Str × V), f ∈ (kG f v fs).map (·.1) /\ ∀ g, g ∈ fs.map (·.1) -> g ∈ (kG f v fs).map (·.1)
 | [] => ⟨by simp [kG], fun g h => by simp at h⟩
 | (k, x) :: r => by
   obtain ⟨i1, i2⟩ := uA f v r
   rw [show kG f v ((k, x) :: r) = (if k = f then (k, v) :: r else (k, x) :: kG f v r) from rfl]
   by_cases hk : k = f
   . rw [aer hk]
     subst hk
     exact ⟨by simp, fun g h => by simpa using h⟩
   . rw [aeq hk]
     refine ⟨?_, fun g h => ?_⟩
     . rw [aew]
       exact aeh _ i1
     . rw [aew] at h ⊢
       rcases aek.mp h with e | e
       . exact aek.mpr (.inl e)
       . exact aeh _ (i2 g e)
theorem vn (f : Str) (v : V) : ∀ fs : List (Str × V), (kG f v fs).length <= fs.length + 1
 | [] => by simp [kG]
 | (k, x) :: r => by
   have ih := vn f v r
   rw [show kG f v ((k, x) :: r) = (if k = f then (k, v) :: r else (k, x) :: kG f v r) from rfl]
   by_cases hk : k = f
   . rw [aer hk, aeV, aeV]; omega
   . rw [aeq hk, aeV, aeV]; omega
theorem xJ.some_of {v : V} {o : Option Value} (r : xJ (some v) o) : ∃ u, o = some u /\ RelV v u := by
 cases o with
 | none => exact (show False from r).elim
 | some u => exact ⟨u, rfl, r⟩
theorem IK {v : V} {u : Value} (r : RelV v u) : PySem.W.handedIn u = true := by
 cases v with
 | non => cases (show u = Value.none from r); rfl
 | bl b => cases (show u = Value.bool b from r); rfl
 | int i => obtain ⟨t, e⟩ := (show ∃ t, u = Value.int i t from r); cases e; rfl
 | str x => obtain ⟨t, e⟩ := (show ∃ t, u = Value.str x t from r); cases e; rfl
 | Iv b => obtain ⟨t, e⟩ := (show ∃ t, u = Value.bytes b t from r); cases e; rfl
 | Wg b => obtain ⟨t, e⟩ := (show ∃ t, u = Value.float b t from r); cases e; rfl
 | ref a => cases (show u = Value.ref a from r); rfl
 | ty n => cases (show u = Value.type n from r); rfl
section
variable {P : Program} {w : World} {H H' : Hp} {h h' : Heap} {a C dx : Addr} {fs fs' : List (Str × V)}
theorem GV (fN : rN P w H h) (e : H a = some (.ins C dx fs)) : ∃ mA, II h a dx C mA /\ (∀ f, xJ (fs.lookup f) (mA f)) /\ PySem.Within mA (fs.map (·.1)) /\ fs.length <= 1000 /\ H dx = some (.own a) := by
 obtain ⟨d, z, ne, ob, mA, n, r, q⟩ := (show fO P w H h a (.ins C dx fs) from fN a _ e)
 exact ⟨mA, ⟨ob, n, ne⟩, r, q, z, d⟩
end
structure rQ (K : PySem.W.Frag) (C : Addr) : Prop where
 pg : PySem.W.plainGet K C Str.empty = true
 hd : PySem.W.hasDictIn K C = true
 po : PySem.W.plainOver K C = true
 sa : PySem.W.findIn K (.ref C) "__setattr__" = some (some (.builtin "object.__setattr__"))
theorem rQ.get {K : PySem.W.Frag} {C : Addr} (c : rQ K C) (f : Str) : PySem.W.plainGet K C f = true := c.pg
noncomputable def aH (K : PySem.W.Frag) (C : Addr) (f : Str) : Prop := PySem.W.findIn K (.ref C) f = some none
theorem aH.WR {K : PySem.W.Frag} {C : Addr} {f : Str} (n : aH K C f) : PySem.W.takerIn K C f = some none := by
 unfold PySem.W.takerIn
 rw [show PySem.W.findIn K (.ref C) f = some none from n]
 rfl
section
variable {X : Cx} {pins : List (Addr × Obj)} {σ : St} {H : Hp} {s : Shared} {a C dx : Addr} {fs : List (Str × V)} {f : Str} {v : V} {A : Around} {E : Value -> Shared -> Prop}
theorem Ez {b : Bool} {Q : Value -> Shared -> Prop} (I : Inv X pins σ H s) (e : H a = some (.ins C dx fs)) (c : rQ X.K C) (n : aH X.K C f) (l : fs.lookup f = some v)
   (h : ∀ u s', Inv X pins σ H s' -> RelV v u -> Q u s') : wpAny (model X.prog X.w) A (getAttr (.ref a) f b) Q E s := by
 obtain ⟨mA, O, r, _, _, _⟩ := GV I.fN e
 obtain ⟨u, hu, ru⟩ := xJ.some_of (v := v) (o := mA f) (by rw [← l]; exact r f)
 exact get_map I.CP O (c.get f) c.hd n hu (IK ru) (h u _ (I.tok _) ru)
theorem EA {y : V} {u : Value} {Q : Unit -> Shared -> Prop} (I : Inv X pins σ H s) (e : H a = some (.ins C dx fs)) (c : rQ X.K C) (n : aH X.K C f) (hl : fs.length < 1000) (ry : RelV y u)
   (h : ∀ s', Inv X pins σ (upd H a (.ins C dx (kG f y fs))) s' -> Q () s') : wpAny (model X.prog X.w) A (setAttr (.ref a) f u) Q E s := by
 obtain ⟨mA, O, r, wi, _, ho⟩ := GV I.fN e
 have hz : (fs.map (·.1)).length <= sizeLine := by rw [aea, afh]; omega
 refine Oq I.CP O c.sa c.po n.WR c.hd wi hz fun h' O' sb => h _ ?_
 have hd : ∃ o, h'.get? dx = some o := let ⟨o, _, _, e', _⟩ := O'.ns; ⟨o, e'⟩
 refine I.write (x := a) (e := dx) (by rw [e]; exact True.intro) (.inr ho) (fun b q hb z => (sb.2 b hb).trans z) hd ?_
 refine ⟨by rw [aB O.ne]; exact ho, ?_, O.ne, O'.obj, _, O'.ns, fun g => ?_, fun g hg => ?_⟩
 . have := vn f y fs; omega
 . show xJ ((kG f y fs).lookup g) (if g = f then some u else mA g)
   rw [vm]
   by_cases q : g = f
   . rw [aer q, aer q]; exact ry
   . rw [aeq q, aeq q]; exact r g
 . by_cases q : g = f
   . rw [q]; exact (uA f y fs).1
   . refine (uA f y fs).2 g (wi g fun z => hg ?_)
     show (if g = f then some u else mA g) = none
     rw [aeq q]; exact z
theorem Inv.made (I : Inv X pins σ H s) : Inv X pins σ (upd (upd H s.heap.objs.size (.own (s.heap.objs.size + 1))) (s.heap.objs.size + 1) (.ins C s.heap.objs.size []))
   { s with heap := (s.heap.push PySem.W.emptyDict).push (PySem.W.instObj C s.heap.objs.size) } := by
 have e1 : (s.heap.push PySem.W.emptyDict).get? s.heap.objs.size = some PySem.W.emptyDict := aeK s.heap rfl
 have e2 : ((s.heap.push PySem.W.emptyDict).push (PySem.W.instObj C s.heap.objs.size)).get? (s.heap.objs.size + 1) = some (PySem.W.instObj C s.heap.objs.size) := by
   have := aeK (s.heap.push PySem.W.emptyDict) (o := PySem.W.instObj C s.heap.objs.size) rfl
   rwa [Heap.size_push] at this
 have e3 : (s.heap.push PySem.W.emptyDict).Ns s.heap.objs.size (fun _ => none) := ⟨PySem.W.emptyDict, #[], _, e1, rfl, (fun e he => absurd he (by simp)), fun _ => rfl⟩
 have I1 := I.laid (a := s.heap.objs.size) (o := .own (s.heap.objs.size + 1)) (h' := s.heap.push PySem.W.emptyDict) (t' := s.toks) (fun b u q => aem _ q) (ael _) ⟨_, e1⟩
 refine I1.laid (a := s.heap.objs.size + 1) (o := .ins C s.heap.objs.size []) (t' := s.toks) (fun b u q => aem _ q) (Nat.le_of_eq (Heap.size_push _ _)) ?_
 have ne : s.heap.objs.size ≠ s.heap.objs.size + 1 := aeM (afI _)
 refine ⟨by rw [aB ne, aQ], aey _, ne, e2, fun _ => none, (Heap.Ns1.of_empty e3).at fun o q => aem _ q, fun _ => True.intro, fun y hy => absurd rfl hy⟩
theorem Ot {prog : Program} {w : World} {env : Env} {e : Expr} {f : Str} {pos : Pos} {s : Shared} {Q : Value -> Shared -> Prop} (hb : attributeBase e f env (eval e env) = eval e env)
   (h : wpAny (model prog w) A (eval e env) (fun o s₁ => wpAny (model prog w) A (getAttr o f true) Q E s₁) E s) : wpAny (model prog w) A (eval (.Attribute e f pos) env) Q E s :=
 Attribute_any_ h (by rw [arm_eval_Attribute, hb])
end
noncomputable def ZL (K : PySem.W.Frag) (ta : TE) (f : Str) : TE := fun σ H Q => ta σ H fun x H1 => ∃ a C dx fs v, x = .ref a /\ H1 a = some (.ins C dx fs) /\ rQ K C /\ aH K C f /\ fs.lookup f = some v /\ Q v H1
noncomputable def ZM (K : PySem.W.Frag) (ta tv : TE) (f : Str) : TS := fun D σ H => tv σ H fun y H1 => ta σ H1 fun x H2 => ∃ a C dx fs, x = .ref a /\ H2 a = some (.ins C dx fs) /\ rQ K C /\ aH K C f /\ fs.length < 1000 ∧
 D.nx σ (upd H2 a (.ins C dx (kG f y fs)))
section
variable {X : Cx} {o e value : Expr} {f : Str} {pos pos' ZN : Pos} {ta tv : TE}
theorem Kw (he : PE X e ta) (hb : attributeBase e f X.env (eval e X.env) = eval e X.env) : PE X (.Attribute e f pos) (ZL X.K ta f) := by
 intro pins s σ H Q I h
 refine Ot hb (dU (he pins s σ H _ I h) fun u s1 zz => ?_)
 obtain ⟨x, H1, I1, rx, a, C, dx, fs, v, ex, ea, c, n, l, q⟩ := zz
 subst ex
 obtain rfl : u = Value.ref a := rx
 exact Ez I1 ea c n l fun u' s2 I2 ru => ⟨v, H1, I2, ru, q⟩
theorem TF (ha : PE X o ta) (hv : PE X value tv) (hs : swapsWith value (some (.Attribute o f pos')) pos.line X.env = pure false) : PS X (.Assign [.Attribute o f pos'] value pos) (ZM X.K ta tv f) := by
 intro pins s σ H D I h
 refine plainObj_wpAny_Assign_Attribute (dU (hv pins s σ H _ I h) fun u s1 ⟨y, H1, I1, ry, q⟩ => dU (ha pins s1 σ H1 _ I1 q) fun ov s2 zz => ?_) hs
 obtain ⟨x, H2, I2, rx, a, C, dx, fs, ex, ea, c, n, l, q2⟩ := zz
 subst ex
 obtain rfl : ov = Value.ref a := rx
 exact EA I2 ea c n l ry fun s3 I3 => ⟨σ, _, I3, q2⟩
end
section
variable {X : Cx} {pins : List (Addr × Obj)} {σ : St} {H : Hp} {s : Shared} {A : Around} {E : Value -> Shared -> Prop} {Q : Value -> Shared -> Prop} {c : Value} {b : Bool}
end
structure gW (k : Nat) (A : Around) : Prop where
 hd : A.handled = none
 dp : A.depth + 3 * k + 5 < recursionLimit
 un : A.units + 16 * k + 200 < cLine
theorem gW.mono {j k : Nat} {A : Around} (r : gW k A) (h : j <= k) : gW j A := ⟨r.hd, by have := r.dp; omega, by have := r.un; omega⟩
theorem gW.deeper {k : Nat} {A : Around} (r : gW (k + 1) A) (env : Env) : gW k (A.deeper env) :=
 ⟨r.hd, by have := r.dp; show A.depth + 1 + 3 * k + 5 < _; omega, by have := r.un; show A.units + 3 + 16 * k + 200 < _; omega⟩
theorem EB {A : Around} {C : Addr} {us : List Value} {kw : List (Str × Value)} : (A.under (.builtin "type.__call__" ⟨.ref C :: us, kw⟩)).depth = A.depth + 1 := by
 first | rfl | simp [Around.under, Code.weight, Code.isCreation, Code.isGuard, Code.isCaller, Code.frames, Code.isFrame, guardIds]
theorem EC {A : Around} {C : Addr} {us : List Value} {kw : List (Str × Value)} : (A.under (.builtin "type.__call__" ⟨.ref C :: us, kw⟩)).units = A.units + 1 := by
 first | rfl | simp [Around.under, Code.cUnits, Code.frames, Code.isFrame]
theorem gW.make {k : Nat} {A : Around} (r : gW (k + 1) A) (C : Addr) (us : List Value) (kw : List (Str × Value)) : gW k (A.under (.builtin "type.__call__" ⟨.ref C :: us, kw⟩)) :=
 ⟨r.hd, by have := r.dp; rw [EB]; omega, by have := r.un; rw [EC]; omega⟩
theorem gW.depth {k : Nat} {A : Around} (r : gW k A) : A.depth < recursionLimit := by have := r.dp; omega
theorem gW.units {k : Nat} {A : Around} (r : gW k A) : A.units + 64 < cLine := by have := r.un; omega
noncomputable def WT : TA := fun _ H Q => Q [] H
noncomputable def WU (ta : TE) (tr : TA) : TA := fun σ H Q => ta σ H fun x H1 => tr σ H1 fun xs H2 => Q (x :: xs) H2
section
variable {X : Cx} {e : Expr} {es : List Expr} {te : TE} {t : TA} {pos : Pos}
theorem gH : PA X [] WT := fun _ _ _ _ H Q I h => Calls.spliced_nil ⟨[], H, I, .nil, h⟩
theorem cy (ha : PE X e te) (hr : PA X es t) (hs : starEach (e :: es) X.env = (false, eval e X.env) :: starEach es X.env := by rfl) : PA X (e :: es) (WU te t) := by
 intro pos pins s σ H Q I h
 rw [hs]
 show wpAny _ _ (spliced ((false, eval e X.env) :: backTo pos (starEach es X.env))) _ _ s
 refine Calls.spliced_cons (dU (ha pins s σ H _ I h) fun u s1 zz => ?_)
 obtain ⟨x, H1, I1, r1, q1⟩ := zz
 exact dU (hr pos pins s1 σ H1 _ I1 q1) fun us s2 ⟨xs, H2, I2, r2, q2⟩ => ⟨x :: xs, H2, I2, .cons r1 r2, q2⟩
noncomputable def ZO (t : TA) : TE := fun σ H Q => t σ H fun xs H1 => xs.length <= sizeLine /\ ∀ p, H1 p = none -> Q (.ref p) (upd H1 p (.tup xs))
noncomputable def ZP (t : TA) : TE := fun σ H Q => t σ H fun xs H1 => xs.length <= sizeLine /\ ∀ p, H1 p = none -> Q (.ref p) (upd H1 p (.lst xs))
theorem TH {x1} (h : PA X es t) : PE X (.Tuple es x1 pos) (ZO t) := by
 intro pins s σ H Q I hq
 refine wpAny_Tuple_spliced (dU (h pos pins s σ H _ I hq) fun us s1 ⟨xs, H1, I1, r, z, q⟩ => ⟨by rw [← r.length]; exact z, ?_⟩)
 have hf : H1 s1.heap.objs.size = none := I1.fN.fresh (ael _)
 refine ⟨.ref s1.heap.objs.size, upd H1 s1.heap.objs.size (.tup xs), I1.laid (t' := s1.toks) (fun b u e => aem _ e) (ael _) ?_, rfl, q _ hf⟩
 exact ⟨z, us, r, ⟨_, aeK _ rfl, rfl, _, rfl⟩⟩
theorem TJ (h : PA X es t) : PE X (.List es pos) (ZP t) := by
 intro pins s σ H Q I hq
 refine wpAny_List_spliced (dU (h pos pins s σ H _ I hq) fun us s1 ⟨xs, H1, I1, r, z, q⟩ => ⟨by rw [← r.length]; exact z, ?_⟩)
 have hf : H1 s1.heap.objs.size = none := I1.fN.fresh (ael _)
 refine ⟨.ref s1.heap.objs.size, upd H1 s1.heap.objs.size (.lst xs), I1.laid (t' := s1.toks) (fun b u e => aem _ e) (ael _) ?_, rfl, q _ hf⟩
 exact ⟨z, us, 0, r, aeK _ rfl⟩
end
noncomputable abbrev Sp := List V -> Hp -> VK -> XK -> Prop
noncomputable abbrev J8 := List Env -> Hp -> Shared -> XK -> Value -> Shared -> Prop
structure ED (P : Program) (w : World) (K : PySem.W.Frag) (mg : Str -> Option Value) (base : Heap) (A : Around) (outer : List Env) (s : Shared) (H : Hp) : Prop where
 frames : A.frames = some outer
 mod : Mod K mg base
 bs : ∀ b o, base.get? b = some o -> s.heap.get? b = some o /\ H b = none
 Oa : base.objs.size <= s.heap.objs.size
 vP : s.heap.FunFrames base outer
 SD : ∀ b ∈ J7 outer, H b = none
 fN : rN P w H s.heap
 bare : AllBare s.gens
noncomputable def CE (outer : List Env) (P : Program) (w : World) (H : Hp) (s : Shared) (Q : VK) (u : Value) (s' : Shared) : Prop :=
 ∃ v H', s'.os = s.os /\ AllBare s'.gens /\ Un (J7 outer) [] H H' s.heap s'.heap /\ rN P w H' s'.heap /\ RelV v u /\ Q v H'
noncomputable def CR (CX : J8) (outer : List Env) (P : Program) (w : World) (H : Hp) (s : Shared) (Q : VK) (E : XK) (r : Result) (s' : Shared) : Prop :=
 match r with
 | .ok (.ret u) => CE outer P w H s Q u s'
 | .ok _ => False
 | .error e => CX outer H s E e s'
structure bT (P : Program) (w : World) (K : PySem.W.Frag) (mg : Str -> Option Value) (base : Heap) (CX : J8) (k : Nat) (f : Addr) (fd : FuncData) (ps : List Str) (sp : Sp) : Prop where
 len : ∀ vs H Q E, sp vs H Q E -> vs.length = ps.length
 run : ∀ (A : Around) (outer : List Env) (s : Shared) (H : Hp) (args : Args) (us : List Value) (vs : List V) (Q : VK) (E : XK), gW k A -> ED P w K mg base A outer s H -> BindsTo s fd args (ps.zip us) -> Vals vs us -> sp vs H Q E →
   codeAny (model P w) A (.call (.ref f) args) (CR CX outer P w H s Q E) s
theorem bT.imp {P : Program} {w : World} {K : PySem.W.Frag} {mg : Str -> Option Value} {base : Heap} {CX : J8} {k : Nat} {f : Addr} {fd : FuncData} {ps : List Str} {sp sp' : Sp} (F : bT P w K mg base CX k f fd ps sp)
   (h : ∀ vs H Q E, sp' vs H Q E -> sp vs H Q E) : bT P w K mg base CX k f fd ps sp' :=
 ⟨fun vs H Q E q => F.len vs H Q E (h _ _ _ _ q), fun A outer s H args us vs Q E hr he hb hv hs => F.run A outer s H args us vs Q E hr he hb hv (h _ _ _ _ hs)⟩
theorem ED.make {P : Program} {w : World} {K : PySem.W.Frag} {mg : Str -> Option Value} {base : Heap} {A : Around} {outer : List Env} {s : Shared} {H : Hp} (e : ED P w K mg base A outer s H) (C : Addr) (us : List Value) (kw : List (Str × Value)) :
   ED P w K mg base (A.under (.builtin "type.__call__" ⟨.ref C :: us, kw⟩)) outer s H := ⟨by first | exact e.frames | (simpa [Around.under, Code.envs, Code.isFrame, pushEnvs] using e.frames), e.mod, e.bs, e.Oa, e.vP, e.SD, e.fN, e.bare⟩
section
variable {X : Cx} {pins : List (Addr × Obj)} {σ : St} {H : Hp} {s s' : Shared}
theorem Inv.WV (I : Inv X pins σ H s) : ED X.prog X.w X.K X.mg X.base X.A X.stack s H :=
 ⟨I.ok.frames, I.ok.mod, I.bs, aeZ I.ok.Oa I.sz, I.stack, I.GJ, I.fN, I.bare⟩
theorem Inv.after {Q : VK} {u : Value} (I : Inv X pins σ H s) (h : CE X.stack X.prog X.w H s Q u s') : EP X pins σ Q u s' := by
 obtain ⟨v, H', os, bare, un, fN, r, q⟩ := h
 obtain ⟨hh, g, d, t, V6⟩ := s'
 obtain rfl : V6 = s.os := os
 exact ⟨v, H', I.call (h' := hh) (g' := g) (d' := d) (t' := t) (ch := []) un fN bare (fun b z => absurd z (by simp)), r, q⟩
end
noncomputable def RC (sp : Sp) (C8 : List V) (E : XK) (t : TA) : TE := fun σ H Q => t σ H fun vs H1 => sp (vs ++ C8) H1 Q E
noncomputable def WW (C : Addr) (sp : Sp) (C8 : List V) (E : XK) (t : TA) : TE := fun σ H Q => t σ H fun vs H1 => ∀ x dx, H1 x = none -> H1 dx = none -> dx ≠ x →
 sp (.ref x :: (vs ++ C8)) (upd (upd H1 dx (.own x)) x (.ins C dx [])) (fun v H2 => v = .non /\ Q (.ref x) H2) E
noncomputable def Binds (K : PySem.W.Frag) (fd : FuncData) (ps : List Str) (ds : List Value) : Prop :=
 ∀ (s : Shared) (us : List Value), K.In s.heap -> (us ++ ds).length = ps.length -> BindsTo s fd ⟨us, []⟩ (ps.zip (us ++ ds))
theorem Binds.all {K : PySem.W.Frag} {fd : FuncData} {ps : List Str} (h : ∀ us : List Value, us.length = ps.length -> bindArgs fd ⟨us, []⟩ = pure (ps.zip us)) : Binds K fd ps [] := fun s us _ hl => by
 rw [aeY] at hl ⊢
 exact .of_eq (h us hl)
noncomputable def Passes (CX : J8) (X : Cx) (E : XK) : Prop := ∀ (pins : List (Addr × Obj)) (σ : St) (H : Hp) (s : Shared) (e : Value) (s' : Shared), Inv X pins σ H s -> CX X.stack H s E e s' -> X.xe e s'
section
variable {X : Cx} {CX : J8} {k : Nat} {f C : Addr} {fd : FuncData} {ps : List Str} {sp : Sp} {C8 : List V} {ds : List Value} {E : XK} {x m : Str} {p pos apos : Pos} {e o : Expr} {es : List Expr} {ta : TE} {t : TA}
theorem Kx {pins : List (Addr × Obj)} {σ : St} {H : Hp} {s : Shared} {Q : VK} {us : List Value} {vs : List V} (F : bT X.prog X.w X.K X.mg X.base CX k f fd ps sp) (hr : gW k X.A) (hb : Binds X.K fd ps ds) (hd : Vals C8 ds) (hx : Passes CX X E)
   (I : Inv X pins σ H s) (r : Vals vs us) (h : sp (vs ++ C8) H Q E) : wpAny (model X.prog X.w) X.A (call (.ref f) us) (EP X pins σ Q) X.xe s := by
 have r2 : Vals (vs ++ C8) (us ++ ds) := r.append hd
 have hl : (us ++ ds).length = ps.length := by rw [← r2.length]; exact F.len _ _ _ _ h
 refine wpAny_call (afL (F.run X.A X.stack s H ⟨us, []⟩ (us ++ ds) (vs ++ C8) Q E hr I.WV (hb s us I.CP hl) r2 h) fun r s' hq => ?_)
 cases r with
 | error e => exact hx pins σ H s e s' I hq
 | ok fl =>
   cases fl with
   | ret u => exact I.after hq
   | next => exact False.elim hq
   | brk => exact False.elim hq
   | cont => exact False.elim hq
theorem GX (F : bT X.prog X.w X.K X.mg X.base CX k f fd ps sp) (hr : gW k X.A) (hg : Gl X x) (hm : X.mg x = some (.ref f)) (hk : PySem.W.keepIn X.K (.ref f) = true) (hb : Binds X.K fd ps ds) (hd : Vals C8 ds) (hx : Passes CX X E)
   (ha : PA X (e :: es) t) (vR : (x == ("__debug__" : Str)) = false := by decide) (he : starEach (e :: es) X.env = (false, eval e X.env) :: starEach es X.env := by rfl) (vS : (backTo pos (starEach es X.env)).any (·.1) = false := by rfl) :
   PE X (.Call (.Name x p) (e :: es) [] pos) (RC sp C8 E t) := by
 intro pins s σ H Q I h
 refine afA (wW I hg hm ?_ vR)
 refine PySem.W.callWith_K (h₀ := X.base) I.ok.mod.YH hk (dU (ha pos pins s σ H _ I h) fun us s1 ⟨vs, H1, I1, r, q⟩ => ⟨I1.CP, ?_⟩) he vS
 exact Kx F hr hb hd hx I1 r q
theorem Ky (F : bT X.prog X.w X.K X.mg X.base CX k f fd ps sp) (hr : gW k X.A) (hg : Gl X x) (hm : X.mg x = some (.ref f)) (hk : PySem.W.keepIn X.K (.ref f) = true) (hb : Binds X.K fd ps ds) (hd : Vals C8 ds) (hx : Passes CX X E)
   (vR : (x == ("__debug__" : Str)) = false := by decide) : PE X (.Call (.Name x p) [] [] pos) (RC sp C8 E WT) := by
 intro pins s σ H Q I h
 refine afA (wW I hg hm ?_ vR)
 exact PySem.W.callWith_K0 I.CP hk (Kx (us := []) F hr hb hd hx I .nil h)
structure Mk (K : PySem.W.Frag) (C f : Addr) : Prop where
 makes : PySem.W.makesIn K C = true
 init : PySem.W.findIn K (.ref C) "__init__" = some (some (.ref f))
 fn : PySem.W.isFn K (.ref f) = true
 kp : PySem.W.keepIn K (.ref C) = true
theorem Kz {pins : List (Addr × Obj)} {σ : St} {H : Hp} {s : Shared} {Q : VK} {us : List Value} {vs : List V} (M : Mk X.K C f) (F : bT X.prog X.w X.K X.mg X.base CX k f fd ps sp) (hr : gW (k + 1) X.A) (hb : Binds X.K fd ps ds) (hd : Vals C8 ds)
   (hx : Passes CX X E) (I : Inv X pins σ H s) (r : Vals vs us)
   (h : ∀ x dx, H x = none -> H dx = none -> dx ≠ x -> sp (.ref x :: (vs ++ C8)) (upd (upd H dx (.own x)) x (.ins C dx [])) (fun v H2 => v = .non /\ Q (.ref x) H2) E) :
   wpAny (model X.prog X.w) X.A (call (.ref C) us) (EP X pins σ Q) X.xe s := by
 have hq := h (s.heap.objs.size + 1) s.heap.objs.size (I.fN.fresh (Nat.le_succ _)) (I.fN.fresh (ael _)) (aeM (afI _))
 have I2 := Inv.made (C := C) I
 have r2 : Vals (V.ref (s.heap.objs.size + 1) :: (vs ++ C8)) (Value.ref (s.heap.objs.size + 1) :: (us ++ ds)) := .cons rfl (r.append hd)
 have hl : (Value.ref (s.heap.objs.size + 1) :: us ++ ds).length = ps.length := by
   have e := r2.length
   rw [F.len _ _ _ _ hq] at e
   exact e.symm
 refine wpAny_call (Kv (f := f) I.CP M.makes M.init (beq_iff_eq.mp M.fn) (afL (F.run _ X.stack _ _ ⟨Value.ref (s.heap.objs.size + 1) :: us, []⟩ (Value.ref (s.heap.objs.size + 1) :: (us ++ ds)) _ _ E (hr.make C us [])
   (I2.WV.make C us []) (hb _ (Value.ref (s.heap.objs.size + 1) :: us) I2.CP hl) r2 hq) fun r s' WX => ?_))
 cases r with
 | error e => exact hx pins σ _ _ e s' I2 WX
 | ok fl =>
   cases fl with
   | ret u =>
     obtain ⟨v, H', I3, rv, ev, q3⟩ := I2.after WX
     subst ev
     exact ⟨rv, ⟨V.ref (s.heap.objs.size + 1), H', I3, rfl, q3⟩⟩
   | next => exact False.elim WX
   | brk => exact False.elim WX
   | cont => exact False.elim WX
theorem GY (M : Mk X.K C f) (F : bT X.prog X.w X.K X.mg X.base CX k f fd ps sp) (hr : gW (k + 1) X.A) (hg : Gl X x) (hm : X.mg x = some (.ref C)) (hb : Binds X.K fd ps ds) (hd : Vals C8 ds) (hx : Passes CX X E)
   (ha : PA X (e :: es) t) (vR : (x == ("__debug__" : Str)) = false := by decide) (he : starEach (e :: es) X.env = (false, eval e X.env) :: starEach es X.env := by rfl) (vS : (backTo pos (starEach es X.env)).any (·.1) = false := by rfl) :
   PE X (.Call (.Name x p) (e :: es) [] pos) (WW C sp C8 E t) := by
 intro pins s σ H Q I h
 refine afA (wW I hg hm ?_ vR)
 refine PySem.W.callWith_K (h₀ := X.base) I.ok.mod.YH M.kp (dU (ha pos pins s σ H _ I h) fun us s1 ⟨vs, H1, I1, r, q⟩ => ⟨I1.CP, ?_⟩) he vS
 exact Kz M F hr hb hd hx I1 r q
end
section
variable {X : Cx} {CX : J8} {k : Nat} {f C : Addr} {fd : FuncData} {ps ks : List Str} {sp : Sp} {E : XK} {x m : Str} {p pos apos acn : Pos} {e o : Expr} {es : List Expr} {kws : List Keyword} {te ta : TE} {t tk : TA} {nm : Option Str}
variable {g : List Value -> List Value -> List Value} {gV : List V -> List V -> List V}
end
structure aK (N P : List Str) (sc : Scope) : Prop where
 kind : sc.kind = .function
 co : sc.isCoroutine = false
 gen : sc.isGenerator = false
 nd : N.Nodup
 pre : N.take P.length = P
 par : ∀ x ∈ P, sc.names.lookup x = some .local \/ sc.names.lookup x = some .cell
 TL : ∀ y ∈ sc.names, y.2 ≠ .free
theorem zW {kindOf : Str -> Option NameKind} {x : Str} : ∀ {binds : List (Str × Value)} {m : Str -> Option Value}, (∀ v, (x, v) ∉ binds) -> bindL kindOf binds m x = m x
 | [], _, _ => rfl
 | (n, v) :: r, m, h => by
   unfold bindL
   rw [zW fun w hw => h w (aeh _ hw)]
   split
   . have : x ≠ n := by rintro rfl; exact h v aef
     simp [this]
   . rfl
theorem zX {kindOf : Str -> Option NameKind} {x : Str} : ∀ {binds : List (Str × Value)} {m : Str -> Option Value}, (∀ v, (x, v) ∉ binds) -> bindC kindOf binds m x = m x
 | [], _, _ => rfl
 | (n, v) :: r, m, h => by
   unfold bindC
   rw [zX fun w hw => h w (aeh _ hw)]
   split
   . rfl
   . have : x ≠ n := by rintro rfl; exact h v aef
     simp [this]
theorem zY {kindOf : Str -> Option NameKind} {x : Str} {v : Value} : ∀ {P : List Str} {vs : List Value} {i : Nat} {m : Str -> Option Value}, P.Nodup -> P[i]? = some x -> vs[i]? = some v -> kindOf x = some .local →
   bindL kindOf (P.zip vs) m x = some v
 | [], _, _, _, _, h, _, _ => by simp at h
 | _ :: _, [], _, _, _, _, h, _ => by simp at h
 | p :: P, w :: vs, 0, m, nd, h1, h2, hk => by
   simp at h1 h2; subst h1; subst h2
   show bindL kindOf ((p, w) :: P.zip vs) m p = _
   unfold bindL
   rw [zW fun v hv => (ae9.mp nd).1 (List.of_mem_zip hv).1, aer hk]
   simp
 | p :: P, w :: vs, i + 1, m, nd, h1, h2, hk => by
   show bindL kindOf ((p, w) :: P.zip vs) m x = _
   unfold bindL
   exact zY (i := i) (List.nodup_cons.mp nd).2 (by simpa using h1) (by simpa using h2) hk
theorem zZ {kindOf : Str -> Option NameKind} {x : Str} {v : Value} : ∀ {P : List Str} {vs : List Value} {i : Nat} {m : Str -> Option Value}, P.Nodup -> P[i]? = some x -> vs[i]? = some v -> kindOf x ≠ some .local →
   bindC kindOf (P.zip vs) m x = some v
 | [], _, _, _, _, h, _, _ => by simp at h
 | _ :: _, [], _, _, _, _, h, _ => by simp at h
 | p :: P, w :: vs, 0, m, nd, h1, h2, hk => by
   simp at h1 h2; subst h1; subst h2
   show bindC kindOf ((p, w) :: P.zip vs) m p = _
   unfold bindC
   rw [zX fun v hv => (ae9.mp nd).1 (List.of_mem_zip hv).1, aeq hk]
   simp
 | p :: P, w :: vs, i + 1, m, nd, h1, h2, hk => by
   show bindC kindOf ((p, w) :: P.zip vs) m x = _
   unfold bindC
   exact zZ (i := i) (List.nodup_cons.mp nd).2 (by simpa using h1) (by simpa using h2) hk
noncomputable def start (N : List Str) (vs : List V) : St := vs.map some ++ List.replicate (N.length - vs.length) none
noncomputable def C9 (CX : J8) (P : Program) (w : World) (K : PySem.W.Frag) (mg : Str -> Option Value) (base : Heap) (N : List Str) (qual : Str) (scope : Scope) (f : Addr) (cd : Value) (A : Around) (outer : List Env) (s : Shared) (H : Hp) (E : XK) : Cx where
 prog := P
 w := w
 K := K
 mg := mg
 base := base
 A := A.deeper (envOfC qual scope s.heap.objs.size f cd)
 N := N
 s₀ := s
 H₀ := H
 env := envOfC qual scope s.heap.objs.size f cd
 outer := outer
 stack := envOfC qual scope s.heap.objs.size f cd :: outer
 ex := []
 calm := true
 fn := fun _ => true
 pn := []
 xe := fun e s' => wpAny (model P w) (A.deeper (envOfC qual scope s.heap.objs.size f cd)) (leaving (envOfC qual scope s.heap.objs.size f cd) e) (fun _ ZQ => CX outer H s E e ZQ) (fun e' ZQ => CX outer H s E e' ZQ) s'
theorem Dc {sc : Scope} {n : Nat} {x : Str} (h : sc.names.lookup x = some .cell) : ∃ c, (cellsFrom n sc.names []).lookup x = some c := by
 have q := PySem.W.cellsFrom_some sc.names n [] (.inl h)
 exact Option.isSome_iff_exists.mp q
theorem IL {CX : J8} {P : Program} {w : World} {K : PySem.W.Frag} {mg : Str -> Option Value} {base : Heap} {N ps : List Str} {qual : Str} {scope : Scope} {f : Addr} {cd : Value} {A : Around} {outer : List Env} {s s1 : Shared} {H : Hp} {E : XK} {us : List Value} {vs : List V}
   (S : aK N ps scope) (hd : A.handled = none) (e0 : ED P w K mg base A outer s H) (hl : vs.length = ps.length) (r : Vals vs us)
   (x : InCallC s s.heap.objs.size (bindL (envOfC qual scope s.heap.objs.size f cd).kindOf (ps.zip us) fun _ => none) (cellsFrom (s.heap.objs.size + 1) scope.names []) (bindC (envOfC qual scope s.heap.objs.size f cd).kindOf (ps.zip us) fun _ => none) s1) :
   Inv (C9 CX P w K mg base N qual scope f cd A outer s H E) [] (start N vs) H s1 := by
 have vS : ps.length <= N.length := by have := congrArg List.length S.pre; rw [aft] at this; omega
 obtain ⟨h1, tk, rfl, hk⟩ := x.done
 have WY : ∀ b : Addr, b ∉ (C9 CX P w K mg base N qual scope f cd A outer s H E).ex := fun b z => absurd (show b ∈ ([] : List Addr) from z) (by simp)
 refine ⟨⟨e0.mod, S.kind, rfl, rfl, ael _, fun y z c h1 h2 => ?_, fun y hy => ?_, fun y c _ h => ?_, fun _ => hd, Around.frames_deeper e0.frames, .inr ⟨rfl, rfl⟩, fun b z => absurd z (WY b), e0.bs, e0.Oa, fun b _ _ => WY b, fun b z => absurd z (WY b), e0.vP, e0.SD⟩,
   rfl, e0.bare, Un.kept hk, ⟨_, x.toInCall.ns, fun i y v h1 h2 h3 => ?_⟩, fun y c h => ⟨_, x.cell y c h⟩, e0.fN.fresh (ael _), fun y c h => ?_, fun p hp => absurd (show p ∈ ([] : List (Addr × Obj)) from hp) (by simp), e0.fN.kept hk, ?_⟩
 . exact name_of_addr x.apart (afa h1) (afa h2)
 . have hy : scope.names.lookup y = some .cell \/ scope.names.lookup y = some .free := hy
   rcases hy with hy | hy
   . exact Dc hy
   . exact absurd rfl (S.TL _ (afa hy))
 . exact ae2 (x.above y c (afa h))
 . have hi : i < vs.length := by
     unfold start at h2
     by_cases hi : i < vs.length
     . exact hi
     . rw [List.getElem?_append_right (by simpa using hi)] at h2
       rw [List.getElem?_replicate] at h2
       split at h2 <;> cases h2
   have ha : vs[i]? = some v := by
     unfold start at h2
     rw [List.getElem?_append_left (by simpa using hi), List.getElem?_map] at h2
     cases e : vs[i]? with
     | none => rw [e] at h2; cases h2
     | some a => rw [e] at h2; cases h2; rfl
   obtain ⟨u, hu, rv⟩ := r.get ha
   have hp : ps[i]? = some y := by
     rw [← S.pre, List.getElem?_take_of_lt (by omega)]; exact h1
   have ndP : ps.Nodup := by rw [← S.pre]; exact S.nd.sublist (List.take_sublist _ _)
   refine ⟨u, rv, ?_⟩
   rcases S.par y (aeQ hp) with k | k
   . exact .inl ⟨k, zY ndP hp hu k⟩
   . obtain ⟨c, e⟩ := Dc (n := s.heap.objs.size + 1) k
     refine .inr ⟨.inl k, c, e, ?_⟩
     have q := x.cell y c e
     rw [zZ ndP hp hu (by show scope.names.lookup y ≠ _; rw [k]; decide)] at q
     exact q
 . exact e0.fN.fresh (ae2 (x.above y c (afa h)))
 . unfold start
   show _ = N.length
   rw [aex, aea, afg]
   omega
theorem WZ {CX : J8} {P : Program} {w : World} {K : PySem.W.Frag} {mg : Str -> Option Value} {base : Heap} {k : Nat} {f : Addr} {name qual : Str} {params : Arguments} {body : List Stmt} {scope : Scope} {dV kV doc pm gf ct oc : Value} {an od : Option Addr}
   {Ou : Array (Option Value)} {N ps : List Str} {sp : Sp} (lk : K.lookup f = some ⟨oc, od, .func (PySem.W.fnOf name qual params body scope dV kV doc pm an gf ct), Ou⟩) (n8 : PySem.W.codeIn K gf qual = true) (S : aK N ps scope)
   (len : ∀ vs H Q E, sp vs H Q E -> vs.length = ps.length)
   (KC : ∀ (A : Around) (outer : List Env) (s : Shared) (H : Hp) (vs : List V) (Q : VK) (E : XK), gW k (A.deeper (envOfC qual scope s.heap.objs.size f gf)) -> sp vs H Q E →
     ∃ t, GL (C9 CX P w K mg base N qual scope f gf A outer s H E) body t /\ t { nx := fun _ H' => Q .non H', rt := Q } (start N vs) H) :
   bT P w K mg base CX (k + 1) f (PySem.W.fnOf name qual params body scope dV kV doc pm an gf ct) ps sp := by
 refine ⟨len, fun A outer s H args us vs Q E hr e0 hb r RD => ?_⟩
 have hl := len _ _ _ _ RD
 have KX : K.In s.heap := e0.mod.YH.keeps fun b o e => (e0.bs b o e).1
 have lim : s.heap.NoLimit := e0.mod.nolimit.keeps fun b o e => (e0.bs b o e).1
 have GZ : ∀ y ∈ ps.zip us, scope.names.lookup y.1 = some .local \/ (scope.names.lookup y.1 = some .cell /\ ((cellsFrom (s.heap.objs.size + 1) scope.names []).lookup y.1).isSome = true) := fun ⟨n, v⟩ hy => by
   rcases S.par n (List.of_mem_zip hy).1 with q | q
   . exact .inl q
   . exact .inr ⟨q, PySem.W.cellsFrom_some _ _ _ (.inl q)⟩
 refine codeAny_call_function hr.depth (KX _ _ lk) rfl S.co S.gen rfl (PySem.W.codeRec_of KX n8) (hb _ _ _ _ ?_)
 refine wpAny_newFunctionEnv_cells S.kind GZ fun env he s1 x => ?_
 subst he
 refine ⟨lim.keeps x.toInCall.keep, codeAny_func ?_⟩
 obtain ⟨t, ht, hq⟩ := KC A outer s H vs Q E (hr.deeper _) RD
 have I : Inv (C9 CX P w K mg base N qual scope f gf A outer s H E) [] (start N vs) H s1 := IL S hr.hd e0 hl r x
 refine afr (ht [] s1 (start N vs) H _ I hq) (fun fl s' hs => ?_) fun e s' hs => hs
 have fin : ∀ {σ' : St} {H' : Hp} {v : V} {u : Value}, Inv (C9 CX P w K mg base N qual scope f gf A outer s H E) [] σ' H' s' -> RelV v u -> Q v H' -> CE outer P w H s Q u s' :=
   fun {σ' H' v u} J rv q => ⟨v, H', J.os, J.bare, J.base, J.fN, rv, q⟩
 cases fl with
 | ret u =>
   obtain ⟨v, σ', H', J, rv, q⟩ := hs
   exact fin J rv q
 | next =>
   obtain ⟨σ', H', J, q⟩ := hs
   exact fin (v := V.non) (u := Value.none) J rfl q
 | brk =>
   obtain ⟨_, _, _, q⟩ := hs
   exact False.elim q
 | cont =>
   obtain ⟨_, _, _, q⟩ := hs
   exact False.elim q
section
variable {X : Cx} {x : Str} {p pos : Pos} {e : Expr} {es : List Expr} {t : TA} {id T : String} {r : List V -> Hp -> VK -> Prop}
noncomputable def tCB (r : List V -> Hp -> VK -> Prop) (t : TA) : TE := fun σ H Q => t σ H fun vs H1 => r vs H1 Q
theorem oj (hc : oh X (.builtin id) r) (hg : Gl X x) (hm : X.mg x = none) (hv : bootBuiltins x = some (.builtin id)) (ha : PA X (e :: es) t) (hn : x ≠ "__name__" := by decide) (vR : (x == ("__debug__" : Str)) = false := by decide)
   (he : starEach (e :: es) X.env = (false, eval e X.env) :: starEach es X.env := by rfl) (vS : (backTo pos (starEach es X.env)).any (·.1) = false := by rfl) : PE X (.Call (.Name x p) (e :: es) [] pos) (tCB r t) := by
 intro pins s σ H Q I h
 refine afA (uy I hg hm hv ?_ hn vR)
 exact PyProof.Rows.callWith_builtin1 (dU (ha pos pins s σ H _ I h) fun us s1 ⟨vs, H1, I1, r1, q1⟩ => hc pins s1 σ H1 vs us Q I1 r1 q1) he vS
theorem lR (hc : oh X (.type T) r) (hg : Gl X x) (hm : X.mg x = none) (hv : bootBuiltins x = some (.type T)) (ha : PA X (e :: es) t) (hn : x ≠ "__name__" := by decide) (vR : (x == ("__debug__" : Str)) = false := by decide)
   (he : starEach (e :: es) X.env = (false, eval e X.env) :: starEach es X.env := by rfl) (vS : (backTo pos (starEach es X.env)).any (·.1) = false := by rfl) : PE X (.Call (.Name x p) (e :: es) [] pos) (tCB r t) := by
 intro pins s σ H Q I h
 refine afA (uy I hg hm hv ?_ hn vR)
 exact afl (dU (ha pos pins s σ H _ I h) fun us s1 ⟨vs, H1, I1, r1, q1⟩ => hc pins s1 σ H1 vs us Q I1 r1 q1) he vS
end
end L2
namespace HT
open PySem PyProof.Rows
section
open PySem.SeqAt
open PySem.AutoSeq1 (wpAny_loadPart')
open PySem.MeetsSeq PySem.MeetsSeq2 PySem.MeetsSeq3
end
section
variable {prog : Program} {w : World} {A : Around} {E : Value -> Shared -> Prop} {s : Shared}
noncomputable def zK (n d : Nat) : Option Int -> Nat
 | none => d
 | some v => if v < 0 then (v + (n : Int)).toNat else min v.toNat n
end
end HT
namespace L2
open PySem PySem.Spec PyProof.Rows
noncomputable abbrev TO := St -> Hp -> (Option Int -> Hp -> Prop) -> Prop
noncomputable def PO (X : Cx) (e : Option Expr) (t : TO) : Prop :=
 ∀ (pins : List (Addr × Obj)) (s : Shared) (σ : St) (H : Hp) (Q : Option Int -> Hp -> Prop), Inv X pins σ H s -> t σ H Q →
   wpAny (model X.prog X.w) X.A (evalPart e X.env) (fun u s' => ∃ o H', Inv X pins σ H' s' /\ IsPart u o /\ Q o H') X.xe s
noncomputable def Ov : TO := fun _ H Q => Q none H
noncomputable def W0 (t : TE) : TO := fun σ H Q => t σ H fun x H1 => ∃ i, x = .int i /\ Q (some i) H1
theorem intsAre_of {ns : List Int} : ∀ {us : List Value}, Vals (ns.map V.int) us -> IntsAre us ns := by
 induction ns with
 | nil => intro us r; rw [List.map_nil] at r; cases r; exact .nil
 | cons n ns ih =>
   intro us r
   rw [aew] at r
   cases r with
   | cons r1 r2 =>
     obtain ⟨t, e⟩ := r1
     subst e
     exact .cons n t (ih r2)
section
variable {X : Cx} {e : Expr} {te : TE} {lo hi : Option Expr} {tl th : TO} {pos p2 : Pos}
theorem Ow : PO X none Ov := by
 intro pins s σ H Q I h
 rw [evalPart_none]
 exact aeX ⟨none, H, I, .none, h⟩
theorem Ox (h : PE X e te) : PO X (some e) (W0 te) := by
 intro pins s σ H Q I hw
 rw [evalPart_some]
 refine dU (h pins s σ H _ I hw) fun u s1 zz => ?_
 obtain ⟨x, H1, I1, r1, q1⟩ := zz
 obtain ⟨i, rfl, q⟩ := q1
 obtain ⟨t, rfl⟩ := r1
 exact ⟨some i, H1, I1, .int i t, q⟩
noncomputable def ZR (X : Cx) (r : V -> Option Int -> Option Int -> Hp -> VK -> Prop) : Prop :=
 ∀ (pins : List (Addr × Obj)) (s : Shared) (σ : St) (H : Hp) (x : V) (v vl vu : Value) (lo hi : Option Int) (sl : Addr) (Q : VK), Inv X pins σ H s -> RelV x v -> s.heap.IsSliceOf sl vl vu .none -> IsPart vl lo -> IsPart vu hi -> r x lo hi H Q →
   ∃ T id, typeLookup (.type T) "__getitem__" = pure (some (.builtin id)) /\ s.TypeIs v T /\ wpAny (model X.prog X.w) X.A (getItem v (.ref sl)) (EP X pins σ Q) X.xe s
noncomputable def tSl (r : V -> Option Int -> Option Int -> Hp -> VK -> Prop) (te : TE) (tl th : TO) : TE := fun σ H Q => te σ H fun x H1 => tl σ H1 fun l H2 => th σ H2 fun u H3 => r x l u H3 Q
theorem Dd {r : V -> Option Int -> Option Int -> Hp -> VK -> Prop} (hr : ZR X r) (he : PE X e te) (hl : PO X lo tl) (hu : PO X hi th) : PE X (.Subscript e (.Slice lo hi none p2) pos) (tSl r te tl th) := by
 intro pins s σ H Q I h
 refine Subscript_ (dU (he pins s σ H _ I h) fun v s1 zz => ?_)
 obtain ⟨x, H1, I1, r1, q1⟩ := zz
 refine wpAny_Slice (dU (hl pins s1 σ H1 _ I1 q1) fun vl s2 ⟨l, H2, I2, pl, q2⟩ => dU (hu pins s2 σ H2 _ I2 q2) fun vu s3 zz => ?_)
 obtain ⟨u, H3, I3, pu, q3⟩ := zz
 rw [evalPart_none]
 refine aeX ?_
 have I4 : Inv X pins σ H3 { s3 with heap := s3.heap.push { cls := .type "slice", data := .fields #[vl, vu, .none] } } := I3.kept (t' := s3.toks) fun b ob q => aem _ q
 obtain ⟨T, id, hT, ht, hg⟩ := hr pins { s3 with heap := s3.heap.push { cls := .type "slice", data := .fields #[vl, vu, .none] } } σ H3 x v vl vu l u s3.heap.objs.size Q I4 r1 (Heap.IsSliceOf.new ..) pl pu q3
 show wpAny (model X.prog X.w) X.A (subscriptTail e (.Slice lo hi none p2) v (.ref s3.heap.objs.size)) (EP X pins σ Q) X.xe { s3 with heap := s3.heap.push { cls := .type "slice", data := .fields #[vl, vu, .none] } }
 exact tail_any (ops := [.ref s3.heap.objs.size, v]) ht hT hg (by with_unfolding_all rfl)
noncomputable def IQ (xs : List V) (lo hi : Option Int) : List V := (xs.drop (HT.zK xs.length 0 lo)).take (HT.zK xs.length xs.length hi - HT.zK xs.length 0 lo)
theorem De (xs : List V) (lo hi : Option Int) : (IQ xs lo hi).length <= xs.length := by
 unfold IQ
 rw [aft, List.length_drop]
 omega
end
noncomputable def IU (n : Nat) (i : Int) : Option Nat := if 0 <= i then (if i < n then some i.toNat else none) else if -(n : Int) <= i then some (i + n).toNat else none
noncomputable def zL {α : Type} (xs : List α) (i : Int) : Option α := (IU xs.length i).bind fun j => xs[j]?
theorem Az {n : Nat} {i : Int} {j : Nat} (h : IU n i = some j) : seqIndex? i n = some j /\ j < n /\ -(n : Int) <= i /\ i < n := by
 unfold IU at h
 by_cases h0 : 0 <= i
 . rw [aer h0] at h
   by_cases h1 : i < n
   . rw [aer h1] at h
     have e : i.toNat = j := aeH h
     exact ⟨by rw [seqIndex_of h0 h1, e], by omega, by omega, h1⟩
   . rw [aeq h1] at h; cases h
 . rw [aeq h0] at h
   by_cases h1 : -(n : Int) <= i
   . rw [aer h1] at h
     have e : (i + n).toNat = j := aeH h
     exact ⟨by rw [seqIndex_neg (by omega) h1, e], by omega, h1, by omega⟩
   . rw [aeq h1] at h; cases h
theorem AA {α : Type} {xs : List α} {i : Int} {v : α} (h : zL xs i = some v) : ∃ j, seqIndex? i xs.length = some j /\ xs[j]? = some v /\ j < xs.length /\ -(xs.length : Int) <= i /\ i < xs.length := by
 unfold zL at h
 cases e : IU xs.length i with
 | none => rw [e] at h; cases h
 | some j =>
   rw [e] at h
   obtain ⟨h1, h2, h3, h4⟩ := Az e
   exact ⟨j, h1, h, h2, h3, h4⟩
theorem aP {α : Type} {xs : List α} {j : Nat} {v : α} (h : xs[j]? = some v) : zL xs (j : Int) = some v := by
 have hj : j < xs.length := (aeD.mp h).1
 have e : IU xs.length (j : Int) = some j := by
   unfold IU
   rw [aer (by omega), aer (by omega)]; simp
 unfold zL; rw [e]; exact h
noncomputable def rR (b : Expr) : Prop := ∀ o i, subscripted b false o i = operate [o, i] (getItem o i)
noncomputable def YW (X : Cx) (r : R2) : Prop :=
 ∀ (value slice : Expr) (pins : List (Addr × Obj)) (s : Shared) (σ : St) (H : Hp) (x y : V) (v u : Value) (Q : VK), Inv X pins σ H s -> RelV x v -> RelV y u -> r x y H Q →
   subscripted slice false v u = operate [v, u] (getItem v u) -> wpAny (model X.prog X.w) X.A (subscriptTail value slice v u) (EP X pins σ Q) X.xe s
noncomputable def MtR (X : Cx) (id : String) (r : V -> List V -> Hp -> VK -> Prop) : Prop :=
 ∀ (pins : List (Addr × Obj)) (s : Shared) (σ : St) (H : Hp) (x : V) (xs : List V) (v : Value) (us : List Value) (Q : VK), Inv X pins σ H s -> RelV x v -> Vals xs us -> r x xs H Q →
   wpAny (model X.prog X.w) X.A (call (.builtin id) (v :: us)) (EP X pins σ Q) X.xe s
section
variable {X : Cx} {a b : Expr} {ta tb : TE} {pos : Pos}
theorem G0 {r : R2} (hr : YW X r) (ha : PE X a ta) (hb : PE X b tb) (hs : rR b) : PE X (.Subscript a b pos) (YT r ta tb) := by
 intro pins s σ H Q I h
 exact Subscript_ (Ti ha hb I h fun v u s2 x y H2 I2 rx ry q => hr a b pins s2 σ H2 x y v u Q I2 rx ry q (hs _ _))
noncomputable def ZS (K : PySem.W.Frag) : R2 := fun x y H Q => ∃ p xs i v, x = .ref p /\ y = .int i /\ qk K H p xs /\ zL xs i = some v /\ Q v H
noncomputable def ZT (K : PySem.W.Frag) : R2 := fun x y H Q => ∃ p xs i v, x = .ref p /\ y = .int i /\ wX K H p xs /\ zL xs i = some v /\ Q v H
noncomputable def ZU : R2 := fun x y H Q => ∃ z i c, x = .str z /\ y = .int i /\ z.length <= sizeLine /\ zL z.cps.toList i = some c /\ Q (.str ⟨#[c]⟩) H
theorem Oz : YW X (ZS X.K) := by
 intro value slice pins s σ H x y v u Q I rx ry h hs
 obtain ⟨p, xs, i, z, rfl, rfl, hq, he, q⟩ := h
 cases rx
 obtain ⟨t, rfl⟩ := ry
 obtain ⟨its, r, pl, hz⟩ := I.list hq
 obtain ⟨j, h1, h2, h3, h4, h5⟩ := AA he
 obtain ⟨w, ew, TN⟩ := r.get h2
 have hl := r.length
 have hn := uz
 have fin : EP X pins σ Q w s := ⟨z, H, I, TN, q⟩
 by_cases h0 : 0 <= i
 . have hj : i.toNat = j := by
     rw [seqIndex_of h0 h5] at h1
     exact aeH h1
   exact item_listR pl.isList h0 (by omega) (by rw [hj]; simpa using ew) fin hs
 . have hj : (i + (its.toArray.size : Int)).toNat = j := by
     rw [seqIndex_neg (by omega) h4] at h1
     rw [aeE, ← hl]
     exact aeH h1
   exact subscriptTail_builtinR (x := w) pl.isList.typeIs slot_list_getitem.lookup
     (wpAny_getItem_list_neg (Q := fun r s' => r = w /\ EP X pins σ Q r s') pl.isList (by omega) (by rw [List.size_toArray] <;> omega) (by omega) (by rw [hj]; simpa using ew) ⟨rfl, fin⟩) hs
theorem KD : YW X (ZT X.K) := by
 intro value slice pins s σ H x y v u Q I rx ry h hs
 obtain ⟨p, xs, i, z, rfl, rfl, hq, he, q⟩ := h
 cases rx
 obtain ⟨t, rfl⟩ := ry
 obtain ⟨its, r, pl, hz⟩ := I.tuple hq
 obtain ⟨j, h1, h2, h3, h4, h5⟩ := AA he
 obtain ⟨w, ew, TN⟩ := r.get h2
 have hl := r.length
 have hn := uz
 have fin : EP X pins σ Q w s := ⟨z, H, I, TN, q⟩
 exact subscriptTail_builtinR (x := w) pl.typeIs slot_tuple_getitem.lookup
   (getItem_tuple (j := j) (Q := fun r s' => r = w /\ EP X pins σ Q r s') pl (by omega) (by omega) (by rw [List.size_toArray, ← hl]; exact h1) (by simpa using ew) ⟨rfl, fin⟩) hs
theorem TQ : YW X ZU := by
 intro value slice pins s σ H x y v u Q I rx ry h hs
 obtain ⟨z, i, c, rfl, rfl, hz, he, q⟩ := h
 obtain ⟨t, rfl⟩ := rx
 obtain ⟨t', rfl⟩ := ry
 obtain ⟨j, h1, h2, h3, h4, h5⟩ := AA he
 have hl : z.cps.toList.length = z.length := by simp [Str.length]
 rw [hl] at h1 h4 h5
 have hn := uz
 exact tail_any (typeIs_str s z t) slot_str_getitem.lookup (getItem_str (c := c) (by
   have e1 : decide (i < -(2 ^ 63 : Int)) = false := aeA (by omega)
   have e2 : decide (i ≥ 2 ^ 63) = false := aeA (by omega)
   rw [e1, e2, Bool.or_false]) (by rw [h1]; simpa using h2) ⟨.str ⟨#[c]⟩, H, I.tok _, ⟨_, rfl⟩, q⟩) hs
theorem EE (its : List Value) (n j : Nat) (u : Value) : Obj.mapSeq (·.setIfInBounds j u) { cls := .type "list", data := .seq its.toArray n } = { cls := .type "list", data := .seq (its.set j u).toArray n } := by
 simp [Obj.mapSeq]
theorem Inv.lst {pins : List (Addr × Obj)} {σ : St} {H : Hp} {s : Shared} {p : Addr} {xs : List V} (I : Inv X pins σ H s) (h : H p = some (.lst xs)) :
   ∃ (its : List Value) (n : Nat), Vals xs its /\ s.heap.get? p = some { cls := .type "list", data := .seq its.toArray n } /\ xs.length <= sizeLine := by
 obtain ⟨z, its, n, r, e⟩ := I.fN p _ h
 exact ⟨its, n, r, e, z⟩
theorem Inv.TR {pins : List (Addr × Obj)} {σ : St} {H : Hp} {s : Shared} {p : Addr} {xs ys : List V} {its its' : List Value} {n n' : Nat} {f : Obj -> Obj} (I : Inv X pins σ H s) (h : H p = some (.lst xs))
   (ho : s.heap.get? p = some { cls := .type "list", data := .seq its.toArray n }) (hf : f { cls := .type "list", data := .seq its.toArray n } = { cls := .type "list", data := .seq its'.toArray n' }) (r : Vals ys its') (hz : ys.length <= sizeLine) (t : Nat) :
   Inv X pins σ (upd H p (.lst ys)) { s with heap := s.heap.update p f, toks := t } := by
 have e : (s.heap.update p f).get? p = some { cls := .type "list", data := .seq its'.toArray n' } := by
   rw [Heap.get?_update_self f ho (by rw [hf] <;> rfl), hf]
 refine I.write (x := p) (e := p) (by rw [h]; trivial) (.inl rfl) (fun b u hb q => (Heap.get?_update_other _ _ (afG hb)).trans q) ⟨_, e⟩ ?_
 exact ⟨hz, its', n', r, e⟩
noncomputable def W2 : V -> V -> V -> Hp -> (Hp -> Prop) -> Prop := fun o i v H Q => ∃ p xs k j, o = .ref p /\ i = .int k /\ H p = some (.lst xs) /\ IU xs.length k = some j /\ Q (upd H p (.lst (xs.set j v)))
theorem set_list : Wy X W2 := by
 intro pins s σ H o i v ov iv u Q I ro ri rv h
 obtain ⟨p, xs, k, j, rfl, rfl, hp, hj, q⟩ := h
 cases ro
 obtain ⟨t, rfl⟩ := ri
 obtain ⟨its, n, r, ho, hz⟩ := I.lst hp
 obtain ⟨h1, h2, h3, h4⟩ := Az hj
 have hl := r.length
 have hn := uz
 have I' : Inv X pins σ (upd H p (.lst (xs.set j v))) { s with heap := s.heap.update p (Obj.mapSeq (·.setIfInBounds j u)) } :=
   I.TR hp ho (EE its n j u) (r.set rv j) (by rw [List.length_set]; exact hz) s.toks
 by_cases h0 : 0 <= k
 . have hk : k.toNat = j := by
     rw [seqIndex_of h0 h4] at h1
     exact aeH h1
   exact PySem.W.ki_setAt ho h0 (by omega) (by rw [aeE, ← hl]; exact h4) (by rw [hk]; exact ⟨_, I', q⟩)
 . have hk : (k + (its.toArray.size : Int)).toNat = j := by
     rw [seqIndex_neg (by omega) h3] at h1
     rw [aeE, ← hl]
     exact aeH h1
   exact PySem.W.ki_setBack ho (by omega) (by rw [aeE, ← hl]; exact h3) (by omega) (by rw [hk]; exact ⟨_, I', q⟩)
theorem AF (lo hi : Option Int) (n : Nat) : (sliceBounds lo hi none n).1 = ((HT.zK n 0 lo : Nat) : Int) /\ (sliceBounds lo hi none n).2.1 = ((HT.zK n n hi : Nat) : Int) /\ (sliceBounds lo hi none n).2.2 = 1 := by
 refine ⟨?_, ?_, rfl⟩
 . cases lo with
   | none => simp [sliceBounds, HT.zK]
   | some i =>
     simp only [sliceBounds, HT.zK, Option.getD_none, show (1 : Int) > 0 by decide, if_true]
     by_cases h : i < 0
     . simp only [h, if_true] <;> omega
     . simp only [h, if_false] <;> omega
 . cases hi with
   | none => simp [sliceBounds, HT.zK]
   | some i =>
     simp only [sliceBounds, HT.zK, Option.getD_none, show (1 : Int) > 0 by decide, if_true]
     by_cases h : i < 0
     . simp only [h, if_true] <;> omega
     . simp only [h, if_false] <;> omega
theorem zM (its : List Value) (lo hi : Option Int) : slicePick its.toArray lo hi none = ((its.drop (HT.zK its.length 0 lo)).take (HT.zK its.length its.length hi - HT.zK its.length 0 lo)).toArray := by
 obtain ⟨h1, h2, h3⟩ := AF lo hi its.toArray.size
 unfold slicePick
 rw [h1, h2, h3]
 simp only [sliceRange_one, pick_run, aeE] <;> rfl
noncomputable def ZV (K : PySem.W.Frag) : V -> Option Int -> Option Int -> Hp -> VK -> Prop := fun x lo hi H Q => ∃ a xs, x = .ref a /\ qk K H a xs /\ ∀ p, H p = none -> Q (.ref p) (upd H p (.lst (IQ xs lo hi)))
theorem OB : ZR X (ZV X.K) := by
 intro pins s σ H x v vl vu lo hi sl Q I rx hs pl pu h
 obtain ⟨a, xs, rfl, hx, q⟩ := h
 cases rx
 obtain ⟨its, r, ht, hz⟩ := I.list hx
 have hlen := r.length
 refine ⟨"list", _, slot_list_getitem.lookup, ht.isList.typeIs, ?_⟩
 refine wpAny_getItem_list_slice ht.isList hs pl pu .none (by simp) ?_ (by rw [aeE] <;> omega)
 rw [zM, ← hlen]
 refine ⟨.ref s.heap.objs.size, _, I.laid (t' := s.toks) (o := .lst (IQ xs lo hi)) (fun b ob q => aem _ q) (ael _) ?_, rfl, q _ (I.fN.fresh (ael _))⟩
 exact ⟨aeZ (De xs lo hi) hz, _, 0, (r.drop (HT.zK xs.length 0 lo)).take (HT.zK xs.length xs.length hi - HT.zK xs.length 0 lo), aeK _ rfl⟩
noncomputable def qq : V -> Bool
 | .non => true
 | .bl _ => true
 | .int _ => true
 | .str _ => true
 | _ => false
noncomputable def KG : V -> V -> Bool
 | .non, .non => true
 | .bl a, .bl b => a == b
 | .bl a, .int b => (if a then 1 else 0) == b
 | .int a, .bl b => a == (if b then 1 else 0)
 | .int a, .int b => a == b
 | .str a, .str b => a == b
 | _, _ => false
theorem TV {A : Around} {s : Shared} {y x : V} {u v : Value} (ry : RelV y u) (rx : RelV x v) (fy : qq y = true) (fx : qq x = true) : SeqAt.EqAt A s u v (KG y x) := by
 cases y with
 | non =>
   cases ry
   cases x with
   | non => cases rx; exact SeqAt.EqAt.same _
   | bl b => cases rx; exact SeqAt.EqAt.none_bool b
   | int b => obtain ⟨t, rfl⟩ := rx; exact SeqAt.EqAt.none_int b t
   | str b => obtain ⟨t, rfl⟩ := rx; exact SeqAt.EqAt.none_str b t
   | _ => exact absurd (show false = true from fx) aep
 | bl a =>
   cases ry
   cases x with
   | non => cases rx; exact SeqAt.EqAt.bool_none a
   | bl b => cases rx; exact SeqAt.EqAt.bool_bool a b
   | int b => obtain ⟨t, rfl⟩ := rx; exact SeqAt.EqAt.bool_int a b t
   | str b => obtain ⟨t, rfl⟩ := rx; exact SeqAt.EqAt.bool_str a b t
   | _ => exact absurd (show false = true from fx) aep
 | int a =>
   obtain ⟨t', rfl⟩ := ry
   cases x with
   | non => cases rx; exact SeqAt.EqAt.int_none a t'
   | bl b => cases rx; exact SeqAt.EqAt.int_bool a t' b
   | int b => obtain ⟨t, rfl⟩ := rx; exact SeqAt.EqAt.int_int a t' b t
   | str b => obtain ⟨t, rfl⟩ := rx; exact SeqAt.EqAt.int_str a t' b t
   | _ => exact absurd (show false = true from fx) aep
 | str a =>
   obtain ⟨t', rfl⟩ := ry
   cases x with
   | non => cases rx; exact SeqAt.EqAt.str_none a t'
   | bl b => cases rx; exact SeqAt.EqAt.str_bool a t' b
   | int b => obtain ⟨t, rfl⟩ := rx; exact SeqAt.EqAt.str_int a t' b t
   | str b => obtain ⟨t, rfl⟩ := rx; exact SeqAt.EqAt.str_str a t' b t
   | _ => exact absurd (show false = true from fx) aep
 | _ => exact absurd (show false = true from fy) aep
noncomputable def EF (x : V) (u : Value) : Bool := match u with
 | .none => KG .non x
 | .bool b => KG (.bl b) x
 | .int i _ => KG (.int i) x
 | .str z _ => KG (.str z) x
 | _ => false
theorem KH {x y : V} {u : Value} (r : RelV y u) (f : qq y = true) : EF x u = KG y x := by
 cases y with
 | non => cases r; rfl
 | bl b => cases r; rfl
 | int i => obtain ⟨t, rfl⟩ := r; rfl
 | str z => obtain ⟨t, rfl⟩ := r; rfl
 | _ => exact absurd (show false = true from f) aep
theorem rS {x : V} : ∀ {xs : List V} {us : List Value}, Vals xs us -> xs.all qq = true -> us.any (EF x) = xs.any fun y => KG y x
 | _, _, .nil, _ => rfl
 | y :: xs, u :: us, .cons r t, f => by
   rw [afc, aev] at f
   rw [ae7, ae7, KH r f.1, rS t f.2]
theorem om {A : Around} {s : Shared} {x : V} {v : Value} (rx : RelV x v) (fx : qq x = true) : ∀ {xs : List V} {us : List Value}, Vals xs us -> xs.all qq = true -> ∀ u ∈ us, SeqAt.EqAt A s u v (EF x u)
 | _, _, .nil, _ => fun u hu => by cases hu
 | y :: xs, u :: us, .cons r t, f => fun u' hu => by
   rw [afc, aev] at f
   rcases aek.mp hu with rfl | hu
   . rw [KH r f.1]; exact TV r rx f.1 fx
   . exact om rx fx t f.2 u' hu
noncomputable def RG (x : V) (xs : List V) : Bool := xs.any fun y => KG y x
noncomputable def rIn (K : PySem.W.Frag) (neg : Bool) : R2 := fun x y H Q => ∃ p xs, y = .ref p /\ (qk K H p xs \/ wX K H p xs) /\ qq x = true /\ xs.all qq = true /\ Q (.bl (if neg then !RG x xs else RG x xs)) H
theorem pL : ql X (compareOp .In) (rIn X.K false) := by
 intro pins s σ H x y v u Q I rx ry h
 obtain ⟨p, xs, rfl, hq, fx, fs, q⟩ := h
 cases ry
 rcases hq with hq | hq
 . obtain ⟨its, r, pl, hz⟩ := I.list hq
   refine SeqAt.in_listAt (EF x) pl.isList (fun w hw => om rx fx r fs w (by simpa using hw)) ⟨.bl _, H, I, rfl, ?_⟩
   rw [show its.toArray.any (EF x) = its.any (EF x) by simp, rS r fs]
   exact q
 . obtain ⟨its, r, pl, hz⟩ := I.tuple hq
   refine SeqAt.in_tupleAt (EF x) pl (fun w hw => om rx fx r fs w (by simpa using hw)) ⟨.bl _, H, I, rfl, ?_⟩
   rw [show its.toArray.any (EF x) = its.any (EF x) by simp, rS r fs]
   exact q
theorem j5 : ql X (compareOp .NotIn) (rIn X.K true) := by
 intro pins s σ H x y v u Q I rx ry h
 obtain ⟨p, xs, rfl, hq, fx, fs, q⟩ := h
 cases ry
 rcases hq with hq | hq
 . obtain ⟨its, r, pl, hz⟩ := I.list hq
   refine SeqAt.notIn_listAt (EF x) pl.isList (fun w hw => om rx fx r fs w (by simpa using hw)) ⟨.bl _, H, I, rfl, ?_⟩
   rw [show its.toArray.any (EF x) = its.any (EF x) by simp, rS r fs]
   exact q
 . obtain ⟨its, r, pl, hz⟩ := I.tuple hq
   refine SeqAt.notIn_tupleAt (EF x) pl (fun w hw => om rx fx r fs w (by simpa using hw)) ⟨.bl _, H, I, rfl, ?_⟩
   rw [show its.toArray.any (EF x) = its.any (EF x) by simp, rS r fs]
   exact q
theorem AG : oh X (.builtin "len") (fun xs H Q => ∃ p ys, xs = [.ref p] /\ (qk X.K H p ys \/ wX X.K H p ys) /\ Q (.int ys.length) H) := by
 intro pins s σ H xs us Q I r h
 obtain ⟨p, ys, rfl, hq, q⟩ := h
 obtain ⟨u, rfl, rx⟩ := vals1 r
 cases rx
 have hn := uz
 rcases hq with hq | hq
 . obtain ⟨its, r', pl, hz⟩ := I.list hq
   have hlen := r'.length
   exact Calls.call_len_list pl.isList (by simp only [aeE] <;> omega) ⟨.int ys.length, H, I.tok _, ⟨s.toks + 1, by rw [aeE, hlen]⟩, q⟩
 . obtain ⟨its, r', pl, hz⟩ := I.tuple hq
   have hlen := r'.length
   exact len_tuple pl (by simp only [aeE] <;> omega) ⟨.int ys.length, H, I.tok _, ⟨s.toks + 1, by rw [aeE, hlen]⟩, q⟩
theorem AH : oh X (.builtin "len") (fun xs H Q => ∃ z, xs = [.str z] /\ z.length <= sizeLine /\ Q (.int z.length) H) := by
 intro pins s σ H xs us Q I r h
 obtain ⟨z, rfl, hz, q⟩ := h
 obtain ⟨u, rfl, t, rfl⟩ := vals1 r
 have hn := uz
 exact len_str (by omega) ⟨.int z.length, H, I.tok _, ⟨_, rfl⟩, q⟩
theorem rT : oh X (.type "list") (fun xs H Q => ∃ p ys, xs = [.ref p] /\ (qk X.K H p ys \/ wX X.K H p ys) /\ ∀ l, H l = none -> Q (.ref l) (upd H l (.lst ys))) := by
 intro pins s σ H xs us Q I r h
 obtain ⟨p, ys, rfl, hq, q⟩ := h
 obtain ⟨u, rfl, rx⟩ := vals1 r
 cases rx
 have fin : ∀ (its : List Value), Vals ys its -> ys.length <= sizeLine -> ∀ (h' : Heap) (c' : Nat), (∀ b o', s.heap.get? b = some o' -> h'.get? b = some o') →
     h'.get? s.heap.objs.size = some { cls := .type "list", dict := none, data := .seq its.toArray c', slots := #[] } -> EP X pins σ Q (.ref s.heap.objs.size) { s with heap := h' } := fun its r' hz h' c' kp e =>
   ⟨.ref s.heap.objs.size, _, I.laid (t' := s.toks) kp (ael _) (show fO X.prog X.w _ h' _ (.lst ys) from ⟨hz, its, c', r', e⟩), rfl, q _ (I.fN.fresh (ael _))⟩
 rcases hq with hq | hq
 . obtain ⟨its, r', pl, hz⟩ := I.list hq
   have hlen := r'.length
   obtain ⟨o, ho, hc, n, hd⟩ := pl.isList
   exact call_list_seq p (.inl rfl) ho hc hd (fun h' c' kp e => fin its r' hz h' c' kp e) (by simp only [aeE] <;> omega)
 . obtain ⟨its, r', pl, hz⟩ := I.tuple hq
   have hlen := r'.length
   obtain ⟨o, ho, hc, n, hd⟩ := pl
   exact call_list_seq p (.inr rfl) ho hc hd (fun h' c' kp e => fin its r' hz h' c' kp e) (by simp only [aeE] <;> omega)
theorem zN : oh X (.type "tuple") (fun xs H Q => ∃ p ys, xs = [.ref p] /\ ((qk X.K H p ys /\ ∀ l, H l = none -> Q (.ref l) (upd H l (.tup ys))) \/ (wX X.K H p ys /\ Q (.ref p) H))) := by
 intro pins s σ H xs us Q I r h
 obtain ⟨p, ys, rfl, h⟩ := h
 obtain ⟨u, rfl, rx⟩ := vals1 r
 cases rx
 rcases h with ⟨hq, q⟩ | ⟨hq, q⟩
 . obtain ⟨its, r', pl, hz⟩ := I.list hq
   have hlen := r'.length
   refine call_tuple_list pl.isList (fun h' kp => ?_) (by simp only [aeE] <;> omega)
   have I1 : Inv X pins σ H { s with heap := h' } := I.kept (t' := s.toks) kp
   have I2 : Inv X pins σ (upd H h'.objs.size (.tup ys)) { s with heap := h'.push { cls := .type "tuple", data := .seq its.toArray } } :=
     I1.laid (t' := s.toks) (fun b o e => aem _ e) (ael _) (show fO X.prog X.w _ _ _ (.tup ys) from ⟨hz, its, r', IsTup.new _ _⟩)
   exact ⟨.ref h'.objs.size, _, I2, rfl, q _ (I1.fN.fresh (ael _))⟩
 . obtain ⟨its, r', pl, hz⟩ := I.tuple hq
   exact call_tuple_same pl ⟨.ref p, H, I, rfl, q⟩
noncomputable def tyV (K : PySem.W.Frag) (T : String) (x : V) (H : Hp) : Prop := match x with
 | .str _ => T = "str"
 | .int _ => T = "int"
 | .ref p => (T = "list" /\ ∃ xs, qk K H p xs) \/ (T = "tuple" /\ ∃ o, K.lookup p = some o /\ o.cls = .type "tuple" /\ o.dict = none) ∨
     (T = "dict" /\ ((∃ aU, H p = some (.dK aU)) \/ ∃ aU, H p = some (.dT aU))) \/ (T = "set" /\ ∃ S n, H p = some (.set S n))
 | _ => False
theorem TX {pins : List (Addr × Obj)} {σ : St} {H : Hp} {s : Shared} {T : String} {x : V} {v : Value} (I : Inv X pins σ H s) (r : RelV x v) (ty : tyV X.K T x H) :
   s.TypeIs v T /\ ∀ a, v = .ref a -> ∃ ob, s.heap.get? a = some ob /\ ob.dict = none := by
 cases x with
 | str z =>
   obtain ⟨t, rfl⟩ := r
   cases (show T = "str" from ty)
   exact ⟨typeIs_str s z t, fun _ e => nomatch e⟩
 | int i =>
   obtain ⟨t, rfl⟩ := r
   cases (show T = "int" from ty)
   exact ⟨typeIs_int s i t, fun _ e => nomatch e⟩
 | ref p =>
   cases r
   rcases ty with ⟨rfl, xs, hq⟩ | ⟨rfl, o, hk, hc, hd⟩ | ⟨rfl, hk⟩ | ⟨rfl, S, n, hk⟩
   . obtain ⟨its, _, pl, _⟩ := I.list hq
     refine ⟨pl.isList.typeIs, fun a e => ?_⟩
     cases e
     obtain ⟨o, n, e, c, hd, _⟩ := pl
     exact ⟨o, e, hd⟩
   . refine ⟨⟨o, I.CP p o hk, hc⟩, fun a e => ?_⟩
     cases e
     exact ⟨o, I.CP _ o hk, hd⟩
   . have z : ∃ o, s.heap.get? p = some o /\ o.ExactDict := by
       rcases hk with ⟨aU, hk⟩ | ⟨aU, hk⟩
       . obtain ⟨_, _, _, _, o, _, _, e, ex, _⟩ := I.fN p _ hk
         exact ⟨o, e, ex⟩
       . obtain ⟨_, _, _, _, o, _, _, e, ex, _⟩ := I.fN p _ hk
         exact ⟨o, e, ex⟩
     obtain ⟨o, e, ex⟩ := z
     refine ⟨⟨o, e, ex.1⟩, fun a e2 => ?_⟩
     cases e2
     exact ⟨o, e, ex.2.1⟩
   . obtain ⟨o, _, _, _, e, ex, _⟩ := I.fN p _ hk
     refine ⟨⟨o, e, ex.1⟩, fun a e2 => ?_⟩
     cases e2
     exact ⟨o, e, ex.2.1⟩
 | _ => exact False.elim ty
noncomputable def tBM (K : PySem.W.Frag) (T : String) (r : V -> List V -> Hp -> VK -> Prop) (to : TE) (t : TA) : TE := fun σ H Q => to σ H fun x H1 => tyV K T x H1 /\ t σ H1 fun xs H2 => r x xs H2 Q
variable {o e : Expr} {es : List Expr} {to : TE} {t : TA} {name : Str} {apos Df : Pos} {T id : String} {r : V -> List V -> Hp -> VK -> Prop}
theorem W3 (pa : PlainAttrs T) (slot : Slot T name id) (hty : typeOf (.builtin id) = pure (.type "method_descriptor")) (hm : MtR X id r) (ho : PE X o to) (ha : PA X (e :: es) t)
   (Dg : attributeBase o name X.env (eval o X.env) = eval o X.env := by rfl)
   (KJ : ((backTo Df (starEach (e :: es) X.env)).all (fun x => !x.1) && (backToKw Df (keywordEach [] X.env)).all (fun x => x.1.isSome)
     && decide ((e :: es).length + ([] : List Keyword).length + (if ([] : List Keyword).isEmpty then 0 else 1) < 30)) = true := by rfl)
   (hline : (apos.endLine == Df.line) = true := by rfl) (hs : starEach (e :: es) X.env = (false, eval e X.env) :: starEach es X.env := by rfl) (TY : (backTo Df (starEach es X.env)).any (·.1) = false := by rfl) :
   PE X (.Call (.Attribute o name apos) (e :: es) [] Df) (tBM X.K T r to t) := by
 intro pins s σ H Q I h
 refine wpAny_Call_method_late Dg KJ hline rfl (dU (ho pins s σ H _ I h) fun v s1 zz => ?_)
 obtain ⟨x, H1, I1, r1, ty, q1⟩ := zz
 obtain ⟨h1, h2⟩ := TX I1 r1 ty
 refine ⟨T, id, pa, slot, hty, h1, h2, ?_⟩
 have hA := ha Df pins s1 σ H1 _ I1 q1
 rw [hs] at hA ⊢
 refine Calls.callWith_builtin (by show (false || (backTo Df (starEach es X.env)).any (·.1)) = false; rw [TY] <;> rfl) (Calls.evalArgs_plain ?_)
 exact dU hA fun us s2 ⟨vs, H2, I2, r2, q2⟩ => hm pins s2 σ H2 x vs v us Q I2 r1 r2 q2
end
noncomputable def MtM (X : Cx) (id : String) (r : V -> List V -> Hp -> VK -> Prop) : Prop :=
 ∀ (pins : List (Addr × Obj)) (s : Shared) (σ : St) (H : Hp) (x : V) (xs : List V) (v : Value) (us : List Value) (Q : VK), Inv X pins σ H s -> RelV x v -> Vals xs us -> r x xs H Q →
   wpAny (model X.prog X.w) X.A (call (.builtin id) (v :: us)) (EP X pins σ Q) X.xe s
theorem Vals.one {x : V} {us : List Value} (h : Vals [x] us) : ∃ u, us = [u] /\ RelV x u := by
 cases h with
 | cons r h => cases h; exact ⟨_, rfl, r⟩
theorem Vals.two {x y : V} {us : List Value} (h : Vals [x, y] us) : ∃ u v, us = [u, v] /\ RelV x u /\ RelV y v := by
 cases h with
 | cons r h => cases h with
   | cons q h => cases h; exact ⟨_, _, rfl, r, q⟩
section
variable {X : Cx} {pins : List (Addr × Obj)} {σ : St} {H : Hp} {s : Shared} {l b : Addr} {xs ys zs : List V}
theorem Inv.ZW {its its' : List Value} {n : Nat} {f : Array Value -> Array Value} {t' : Nat} (I : Inv X pins σ H s) (hH : H l = some (.lst xs))
   (e : s.heap.get? l = some { cls := .type "list", data := .seq its.toArray n }) (hf : f its.toArray = its'.toArray) (hv : Vals ys its') (hz : ys.length <= sizeLine) :
   Inv X pins σ (upd H l (.lst ys)) { s with heap := s.heap.update l (Obj.mapSeq f), toks := t' } := by
 have q := PySem.IsL.update e f
 rw [hf] at q
 refine I.write (x := l) (e := l) (by rw [hH]; exact trivial) (.inl rfl) (fun b' u hb hu => (Heap.get?_update_other s.heap (Obj.mapSeq f) (afG hb)).trans hu) ⟨_, q⟩ ?_
 exact ⟨hz, its', _, hv, q⟩
theorem Inv.ZX {its : List Value} {t' : Nat} (I : Inv X pins σ H s) (hv : Vals ys its) (hz : ys.length <= sizeLine) :
   Inv X pins σ (upd H s.heap.objs.size (.lst ys)) { s with heap := s.heap.push { cls := .type "list", data := .seq its.toArray }, toks := t' } :=
 I.laid (fun _ _ q => aem _ q) (ael _) ⟨hz, its, 0, hv, aeK _ rfl⟩
theorem Inv.fresh (I : Inv X pins σ H s) : H s.heap.objs.size = none := I.fN.fresh (ael _)
theorem Inv.ZY (I : Inv X pins σ H s) (hH : H l = some (.lst xs)) : xs.length <= sizeLine /\ ∃ (its : List Value) (n : Nat), Vals xs its /\ xs.length = its.length /\ s.heap.get? l = some { cls := .type "list", data := .seq its.toArray n } := by
 obtain ⟨z, its, n, r, e⟩ := I.fN l _ hH
 exact ⟨z, its, n, r, r.length, e⟩
end
section
variable {X : Cx}
noncomputable def OD : V -> List V -> Hp -> VK -> Prop := fun x vs H Q => ∃ l xs y, x = .ref l /\ vs = [y] /\ H l = some (.lst xs) /\ xs.length < sizeLine /\ Q .non (upd H l (.lst (xs ++ [y])))
theorem z0 : MtM X "list.append" OD := by
 intro pins s σ H x vs v us Q I rx rv h
 obtain ⟨l, xs, y, rfl, rfl, hH, hz, q⟩ := h
 cases rx
 obtain ⟨u, rfl, ru⟩ := rv.one
 obtain ⟨z, its, n, r, hl, e⟩ := I.ZY hH
 refine call_meets F.slot_list_append ⟨_, e, rfl⟩ F.entry_list_append (F.args_list_append_2 _ _) (PySem.list_append l its.toArray n u (by rw [aeE]; omega)) ⟨e, ?_⟩
 refine ⟨.non, _, I.ZW (its' := its ++ [u]) hH e (by simp) (r.append (.cons ru .nil)) ?_, rfl, q⟩
 rw [aex, List.length_singleton]
 omega
end
section
variable {prog : Program} {w : World} {A : Around} {E : Value -> Shared -> Prop} {s : Shared}
set_option maxRecDepth 100000 in
end
section
variable {X : Cx}
end
end L2
namespace Att
open PySem PySem.W PySem.Calls PyProof.Rows
theorem vU {P : Params} {h : Heap} : ∀ (ns : List Int) (vs : List Value), WellAll P h vs (ns.map WData.int) -> IntsAre vs ns := by
 intro ns
 induction ns with
 | nil =>
   intro vs w
   rw [List.map_nil] at w
   cases w
   exact .nil
 | cons n ns ih =>
   intro vs w
   rw [List.map_cons] at w
   cases w with
   | cons a b =>
     cases a
     exact .cons _ _ (ih _ b)
theorem IV {l : OpenLaw} {n : Nat} (hn : l.most = some n) {P : Params} {h : Heap} {args : List WData} {vals : List Value}
   (OG : l.row.toRowW.claim.pre args = true) (ZZ : WellAll P h vals args) :
   ∃ a vs ns, vals = [Value.ref a] /\ args = [WData.list (ns.map WData.int)] /\ h.get? a = some { cls := .type "list", data := .seq vs.toArray } /\ IntsAre vs ns /\ ns.length <= n := by
 have hsh : WShape.hasAll [] args [.list .int] = true := (pre_splitW OG).1
 have hc : l.pre.holds [] { args := args } = true := (pre_splitW OG).2
 obtain ⟨d, r, rfl, h1, h2⟩ := hasAllW_cons hsh
 obtain rfl := hasAllW_nil h2
 obtain ⟨xs, rfl, h3⟩ := hasW_list h1
 obtain ⟨ns, rfl⟩ := items_int h3
 have hlen : ns.length <= n := by
   unfold OpenLaw.pre at hc
   have h4 : (WTm.not (.lt (.lit (.int (n : Int))) (.len (.arg 0)))).holds [] { args := [.list (ns.map .int)] } = true := by
     have h4 := (holds_andW hc).1
     rw [hn] at h4
     exact h4
   have h5 := condW_of h4 (w_not (w_lt w_lit (w_len_list (w_arg rfl))))
   rw [List.length_map] at h5
   refine Nat.le_of_not_lt fun q => ?_
   have q' : (n : Int) < ((ns.length : Nat) : Int) := by omega
   first
     | (rw [decide_eq_true q'] at h5; exact absurd h5 (by decide))
     | (simp at h5; omega)
 cases ZZ with
 | cons w1 w2 =>
   cases w2
   cases w1 with
   | list ho IW => exact ⟨_, _, ns, rfl, rfl, ho, vU ns _ IW, hlen⟩
theorem IX (l : OpenLaw) (args : List WData) : l.row.toRowW.claim.post args (.bool true) args = true :=
 postW_of (r := l.row.toRowW) (X := (true == true))
   (show WShape.has [] (.bool true) .bool = true by first | rfl | decide | simp [WShape.has, WShape.arms, WShape.armsAll])
   (show (WTm.eq .res (.lit (.bool true))).value [] { args := args, res := some (.bool true), after := args } = some (.bool (true == true)) from w_eq_bool (w_res rfl) w_lit) rfl
theorem Dh {l : OpenLaw} {n : Nat} {q : Program} {loose : List Str} {XP : (Str -> Option Value) -> Heap -> Prop} {YP : World -> Heap -> Prop} {d : DefRec}
   (hn : l.most = some n) (W4 : d.params.defaults = [])
   (call : ∀ (w : World) (s₀ s₁ : Shared) (mg mb : Str -> Option Value) (fa : Addr) (o : Obj) (pm cd doc : Value) (a : Addr) (vs : List Value) (ns : List Int),
     Ground q loose [] XP w s₀ mg mb s₁.heap -> YP w s₁.heap →
     s₁.heap.get? fa = some o -> o.data = .func (docDef d.name d.params d.body d.scope pm cd doc) -> s₁.heap.CodeRec cd d.name -> mg d.name = some (.ref fa) →
     s₁.heap.get? a = some { cls := .type "list", data := .seq vs.toArray } -> IntsAre vs ns -> ns.length <= n -> s₁.gens = #[] →
     codeAny (model l.prog w) callerA (.call (.ref fa) ⟨[.ref a], []⟩) (fun r s' => r = .ok (.ret (.bool true)) /\ OldK s₁.heap s'.heap /\ s'.os = s₁.os /\ AllBare s'.gens) s₁) :
   WalkO q loose XP YP l.row.toRowW d [] (fun f vs => PySem.call f vs) := by
 intro w s₀ s₁ mg mb G Y fa o pm cd doc dV kV ho hd n8 hD W5 hg args vals as OG hlay hrd ZZ hlo
 obtain rfl : dV = .none := Dflts.none hD W4
 obtain rfl : kV = .none := Dflts.noKw hD
 obtain ⟨a, vs, ns, rfl, rfl, T3, hints, hlen⟩ := IV hn OG ZZ
 refine enter_call (codeAny_mono (call w s₀ s₁ mg mb fa o pm cd doc a vs ns G Y ho (fd_plain hd) n8 W5 T3 hints hlen hg) fun r s' hq => ?_)
 obtain ⟨rfl, h2, h3, h4⟩ := hq
 exact ⟨.inl ⟨.bool true, .bool true, [], rfl, fun _ => rfl, .bool true, IX l _, fun _ => ⟨List.Pairwise.nil, fun _ hm => (nomatch hm)⟩⟩, h2, h3, h4⟩
section
variable {prog : Program} {w : World} {A : Around} {E : Value -> Shared -> Prop} {s : Shared} {K : Frag}
noncomputable def ledger (h : Heap) (L d : Addr) : List (Addr × Obj) := (List.range h.objs.size).filterMap fun a => if a = L \/ a = d then none else (h.get? a).map fun o => (a, o)
end
end Att
namespace L2
open PySem PySem.Spec PyProof.Rows
theorem z6 : ∀ {vs : List Value} {ns : List Int}, IntsAre vs ns -> Vals (ns.map V.int) vs
 | _, _, .nil => .nil
 | _, _, .cons n t h => .cons ⟨t, rfl⟩ (z6 h)
noncomputable def Only (H : Hp) : Prop := ∀ b, H b = none \/ ∃ o xs, H b = some (.fh o (.lst xs))
theorem KL {P : Program} {w : World} {K : PySem.W.Frag} {mg mb : Str -> Option Value} {CX : J8} {k : Nat} {fa a : Addr} {fd : FuncData} {x : Str} {sp : Sp} {s₁ : Shared} {vs : List Value} {ns : List Int}
   (KX : K.In s₁.heap) (hns : s₁.heap.Ns mainGlobals mg) (hb : s₁.heap.Ns builtinsNs mb) (hbb : ∀ x : Str, x ≠ "__name__" -> mb x = bootBuiltins x) (Z0 : s₁.heap.NoLimit) (hg : s₁.gens = #[])
   (ha : s₁.heap.get? a = some { cls := .type "list", data := .seq vs.toArray }) (hi : IntsAre vs ns) (hl : ns.length <= sizeLine) (hr : gW k callerA)
   (F : ∀ base : Heap, K.In base -> base.Ns mainGlobals mg -> bT P w K mg base CX k fa fd [x] sp) (W6 : ∀ (s : Shared) (u : Value), BindsTo s fd ⟨[u], []⟩ [(x, u)])
   (RD : ∀ H : Hp, Only H -> qk K H a (ns.map V.int) -> sp [.ref a] H (fun v _ => v = .bl true) fun _ _ _ => False)
   (Z6 : ∀ H e s', CX [] H s₁ (fun _ _ _ => False) e s' -> False) :
   codeAny (model P w) callerA (.call (.ref fa) ⟨[.ref a], []⟩) (fun r s' => r = .ok (.ret (.bool true)) /\ OldK s₁.heap s'.heap /\ s'.os = s₁.os /\ AllBare s'.gens) s₁ := by
 have rv := z6 hi
 have Z7 := hi.length
 have core : ∀ H : Hp, Only H -> qk K H a (ns.map V.int) -> rN P w H s₁.heap -> (∀ b, H b ≠ none -> b = a) -> (H a ≠ none -> K.lookup a = none) →
     codeAny (model P w) callerA (.call (.ref fa) ⟨[.ref a], []⟩) (fun r s' => r = .ok (.ret (.bool true)) /\ OldK s₁.heap s'.heap /\ s'.os = s₁.os /\ AllBare s'.gens) s₁ := by
   intro H hO hS fN hA hK
   have G3 : ∀ {b : Addr} {o : Obj}, s₁.heap.get? b = some o -> H b = none -> (As s₁.heap H).get? b = some o := fun e n => Ke e n
   have WY : ∀ {b : Addr} {o : Obj} {es : Array DictEntry} {ep : Nat}, s₁.heap.get? b = some o -> o.data = .dict es ep -> H b = none := fun {b o es ep} e d => by
     cases q : H b with
     | none => rfl
     | some u =>
       have e' : b = a := hA b (by rw [q]; simp)
       subst e'
       rw [ha] at e; cases e
       have d' : Data.seq vs.toArray _ = Data.dict es ep := d
       cases d'
   have YX : ∀ {b : Addr} {m : Str -> Option Value}, s₁.heap.Ns b m -> (As s₁.heap H).Ns b m := fun {b m} ⟨o, es, ep, e, d, r⟩ => ⟨o, es, ep, G3 e (WY e d), d, r⟩
   have hKb : K.In (As s₁.heap H) := fun b o e => G3 (KX b o e) (by
     cases q : H b with
     | none => rfl
     | some u =>
       have e' : b = a := hA b (by rw [q]; simp)
       subst e'
       rw [hK (by rw [q]; simp)] at e; cases e)
   have hM : Mod K mg (As s₁.heap H) := ⟨hKb, YX hns, ⟨mb, YX hb, hbb⟩, let ⟨mc, h1, h2⟩ := Z0; ⟨mc, YX h1, h2⟩⟩
   have e0 : ED P w K mg (As s₁.heap H) callerA [] s₁ H := ⟨rfl, hM, fun b o e => N8 e, Nat.le_of_eq (Iw _ _), trivial, fun b hb => absurd (show b ∈ ([] : List Addr) from hb) (by simp), fN, .of_eq hg⟩
   refine afL ((F _ hKb (YX hns)).run callerA [] s₁ H ⟨[.ref a], []⟩ [.ref a] [.ref a] _ _ hr e0 (W6 s₁ (.ref a)) (.cons rfl .nil) (RD H hO hS)) fun r s' h => ?_
   cases r with
   | error e => exact (Z6 H e s' h).elim
   | ok fl =>
     cases fl with
     | next => exact False.elim h
     | brk => exact False.elim h
     | cont => exact False.elim h
     | ret u =>
       obtain ⟨v, H', os, bare, un, Z8, r', q⟩ := h
       have q' : v = .bl true := q
       subst q'
       obtain rfl : u = Value.bool true := r'
       refine ⟨rfl, OldK.of_keep fun b o e => ?_, os, bare⟩
       cases q : H b with
       | none => exact un.keep b o e q (by intro z; exact absurd (show b ∈ ([] : List Addr) from z) (by simp)) (by simp)
       | some u =>
         rcases hO b with z | ⟨ob, xs, z⟩
         . rw [q] at z; cases z
         . have z2 := un.fM b ob _ z
           obtain ⟨e1, _⟩ := fN b _ z
           obtain ⟨e2, _⟩ := Z8 b _ z2
           rw [e] at e1; cases e1
           exact e2
 cases hk : K.lookup a with
 | some o =>
   have e := KX a o hk
   rw [ha] at e
   cases e
   refine core (fun _ => none) (fun _ => .inl rfl) (.inr ⟨_, vs.toArray, _, hk, rfl, rfl, rfl, by rw [List.size_toArray, Z7]; exact hl, by simpa using rv⟩) (fun b u z => by have z' : (none : Option HO) = some u := z; cases z') (fun b z => absurd rfl z) fun z => absurd rfl z
 | none =>
   refine core (fun b => if b = a then some (.fh { cls := .type "list", data := .seq vs.toArray } (.lst (ns.map V.int))) else none) (fun b => ?_) (.inl (.inr ⟨{ cls := .type "list", data := .seq vs.toArray }, aer rfl⟩)) (fun b u z => ?_) (fun b z => ?_) fun _ => hk
   . by_cases hb : b = a
     . exact .inr ⟨_, _, aer hb⟩
     . exact .inl (aeq hb)
   . by_cases hb : b = a
     . have z' := (aer hb).symm.trans z
       cases z'
       subst hb
       exact ⟨ha, by rw [aea]; exact hl, vs, _, rv, ha⟩
     . have z' := (aeq hb).symm.trans z
       cases z'
   . by_cases hb : b = a
     . exact hb
     . exact absurd (aeq hb) z
theorem OI {l : PySem.W.OpenLaw} {n k : Nat} {q : Program} {loose : List Str} {XP : (Str -> Option Value) -> Heap -> Prop} {YP : World -> Heap -> Prop} {d : DefRec} {K : Params -> PySem.W.Frag} {CX : World -> J8} {sp : World -> Sp} {x : Str}
   (hn : l.most = some n) (YV : n <= sizeLine) (W4 : d.params.defaults = []) (hr : gW k callerA)
   (hY : ∀ (w : World) (h : Heap), YP w h -> (K w.params).In h)
   (F : ∀ (w : World) (mg : Str -> Option Value) (fa : Addr) (h : Heap), (K w.params).In h -> h.Ns mainGlobals mg -> mg d.name = some (.ref fa) →
     ∃ fd : FuncData, (∀ (s : Shared) (u : Value), BindsTo s fd ⟨[u], []⟩ [(x, u)]) ∧
       ∀ base : Heap, (K w.params).In base -> base.Ns mainGlobals mg -> bT l.prog w (K w.params) mg base (CX w) k fa fd [x] (sp w))
   (RD : ∀ (w : World) (H : Hp) (a : Addr) (ns : List Int), ns.length <= n -> Only H -> qk (K w.params) H a (ns.map V.int) -> sp w [.ref a] H (fun v _ => v = .bl true) fun _ _ _ => False)
   (Z6 : ∀ (w : World) (H : Hp) (s : Shared) (e : Value) (s' : Shared), CX w [] H s (fun _ _ _ => False) e s' -> False) :
   PySem.W.WalkO q loose XP YP l.row.toRowW d [] (fun f vs => PySem.call f vs) := by
 refine Att.Dh hn W4 fun w s₀ s₁ mg mb fa o pm cd doc a vs ns G Y ho hd n8 W5 T3 hints hlen hg => ?_
 have KX := hY w _ Y
 obtain ⟨fd, hb, hF⟩ := F w mg fa _ KX G.T.g W5
 exact KL KX G.T.g G.T.b G.T.builtins G.T.nolimit hg T3 hints (aeZ hlen YV) hr hF hb (fun H hO hS => RD w H a ns hlen hO hS) fun H e s' => Z6 w H s₁ e s'
noncomputable def inClass (s : Stmt) (j : Nat) : Stmt := match s with
 | .ClassDef _ _ _ body _ _ _ _ _ _ _ => body.getD j (.Pass ⟨0, 0, 0, 0⟩)
 | _ => .Pass ⟨0, 0, 0, 0⟩
noncomputable def wY (s : Stmt) : Arguments := match s with
 | .FunctionDef _ a _ _ _ _ _ _ _ _ => a
 | _ => { posonlyargs := [], args := [], vararg := none, kwonlyargs := [], kw_defaults := [], kwarg := none, defaults := [] }
noncomputable def jx (s : Stmt) : List Stmt := match s with
 | .FunctionDef _ _ b _ _ _ _ _ _ _ => b
 | _ => []
noncomputable def aq (s : Stmt) : Scope := match s with
 | .FunctionDef _ _ _ _ _ _ sc _ _ _ => sc
 | _ => { kind := .function, names := [], isGenerator := false, isCoroutine := false }
noncomputable abbrev jA : J8 := fun _ _ _ _ _ _ => False
noncomputable abbrev E0 : XK := fun _ _ _ => False
theorem Di {X : Cx} : Passes jA X E0 := fun _ _ _ _ _ _ _ h => h.elim
structure lN (K : PySem.W.Frag) (x qual : Str) (st : Stmt) (f : Addr) (fd : FuncData) : Prop where
 ex : ∃ (oc : Value) (od : Option Addr) (kV doc pm : Value) (an : Option Addr) (gf ct : Value) (Ou : Array (Option Value)),
   fd = PySem.W.fnOf x qual (wY st) (jx st) (aq st) .none kV doc pm an gf ct /\ K.lookup f = some ⟨oc, od, .func fd, Ou⟩ /\ PySem.W.codeIn K gf qual = true
 kp : PySem.W.keepIn K (.ref f) = true
section
variable {P : Program} {w : World} {K : PySem.W.Frag} {mg : Str -> Option Value} {base : Heap}
theorem lN.ok {x qual : Str} {st : Stmt} {f : Addr} {fd : FuncData} {N ps : List Str} {k : Nat} {sp : Sp} (F : lN K x qual st f fd) (S : aK N ps (aq st)) (len : ∀ vs H Q E, sp vs H Q E -> vs.length = ps.length)
   (KC : ∀ (gf : Value) (A : Around) (outer : List Env) (s : Shared) (H : Hp) (vs : List V) (Q : VK) (E : XK), gW k (A.deeper (envOfC qual (aq st) s.heap.objs.size f gf)) -> sp vs H Q E →
     ∃ t, GL (C9 jA P w K mg base N qual (aq st) f gf A outer s H E).V4 (jx st) t /\ t { nx := fun _ H' => Q .non H', rt := Q } (start N vs) H) : bT P w K mg base jA (k + 1) f fd ps sp := by
 obtain ⟨oc, od, kV, doc, pm, an, gf, ct, Ou, rfl, lk, n8⟩ := F.ex
 refine WZ lk n8 S len fun A outer s H vs Q E hr RD => ?_
 obtain ⟨t, h, q⟩ := KC gf A outer s H vs Q E hr RD
 exact ⟨t, h.V4, q⟩
theorem lN.binds {x qual : Str} {st : Stmt} {f : Addr} {fd : FuncData} {ps : List Str} (F : lN K x qual st f fd)
   (h : ∀ (kV doc pm : Value) (an : Option Addr) (gf ct : Value) (us : List Value), us.length = ps.length -> bindArgs (PySem.W.fnOf x qual (wY st) (jx st) (aq st) .none kV doc pm an gf ct) ⟨us, []⟩ = pure (ps.zip us)) : Binds K fd ps [] := by
 obtain ⟨oc, od, kV, doc, pm, an, gf, ct, Ou, rfl, lk, n8⟩ := F.ex
 exact .all (h kV doc pm an gf ct)
theorem bB {x qual : Str} {st : Stmt} {f : Addr} {oc : Value} {od an : Option Addr} {Ou : Array (Option Value)} {kV doc pm gf ct : Value} (l : K.lookup f = some ⟨oc, od, .func (PySem.W.fnOf x qual (wY st) (jx st) (aq st) .none kV doc pm an gf ct), Ou⟩)
   (c : PySem.W.codeIn K gf qual = true) (k : PySem.W.keepIn K (.ref f) = true) : lN K x qual st f (PySem.W.fnOf x qual (wY st) (jx st) (aq st) .none kV doc pm an gf ct) := ⟨⟨oc, od, kV, doc, pm, an, gf, ct, Ou, rfl, l, c⟩, k⟩
end
theorem cz {n : Nat} (h : n <= 1000) : n < sizeLine := Nat.lt_of_le_of_lt h (by decide)
section
variable {X : Cx}
end
theorem EG {A B : Prop} (h : B) : if false = true then A else B := by
 rw [aeq aep]
 exact h
theorem EH {A B : Prop} (h : A) : if true = true then A else B := by
 rw [aer rfl]
 exact h
noncomputable def aD (H H' : Hp) : Prop := ∀ b o, H b = some o -> H' b = some o
theorem aD.refl (H : Hp) : aD H H := fun _ _ h => h
theorem aD.trans {H H1 H2 : Hp} (a : aD H H1) (b : aD H1 H2) : aD H H2 := fun c o h => b c o (a c o h)
theorem aD.free {H H' : Hp} (e : aD H H') {l : Addr} (h : H' l = Option.none) : H l = Option.none := by
 cases q : H l with
 | none => rfl
 | some o =>
   rw [e l o q] at h
   cases h
theorem aD.seq {K : PySem.W.Frag} {H H' : Hp} {a : Addr} {xs : List V} (e : aD H H') (h : qk K H a xs) : qk K H' a xs := by
 rcases h with (h | ⟨o, h⟩) | h
 . exact .inl (.inl (e _ _ h))
 . exact .inl (.inr ⟨o, e _ _ h⟩)
 . exact .inr h
section
variable {κ : Type} [DecidableEq κ]
noncomputable def qC (aU : List (κ × V)) (k : κ) : Option V := (aU.find? fun kv => decide (kv.1 = k)).map (·.2)
noncomputable def putK (aU : List (κ × V)) (k : κ) (v : V) : List (κ × V) :=
 if (aU.any fun kv => decide (kv.1 = k)) = true then aU.map (fun kv => if kv.1 = k then (kv.1, v) else kv) else aU ++ [(k, v)]
theorem rV {p : κ × V} {r : List (κ × V)} {k : κ} (e : p.1 = k) : qC (p :: r) k = some p.2 := by simp [qC, afo, e]
theorem oq {p : κ × V} {r : List (κ × V)} {k : κ} (e : ¬ p.1 = k) : qC (p :: r) k = qC r k := by simp [qC, afo, e]
theorem Dj (k : κ) : ∀ aU : List (κ × V), (aU.any fun kv => decide (kv.1 = k)) = (qC aU k).isSome
 | [] => rfl
 | p :: r => by
   rw [ae7]
   by_cases e : p.1 = k
   . simp only [rV e, aej e, Bool.true_or, Option.isSome_some]
   . rw [oq e, aeA e, Bool.false_or]; exact Dj k r
theorem vo (aU : List (κ × V)) (k : κ) (v : V) : (putK aU k v).length <= aU.length + 1 := by
 unfold putK
 split
 . rw [aea]; omega
 . rw [aex, aeV, List.length_nil]; omega
theorem xJ.uB {o : Option V} {u : Option Value} (r : xJ o u) : o.isSome = u.isSome := by
 cases o with
 | none => cases u with
   | none => rfl
   | some _ => exact (show False from r).elim
 | some _ => cases u with
   | none => exact (show False from r).elim
   | some _ => rfl
theorem KV.val {aU : List (κ × V)} {vs : List (κ × Value)} (r : KV aU vs) (k : κ) : xJ (qC aU k) (valueAt vs k) := by
 unfold KV at r
 induction r with
 | nil => exact True.intro
 | @cons p q ps qs h t ih =>
   obtain ⟨h1, h2⟩ := h
   by_cases e : p.1 = k
   . have e' : q.1 = k := h1.symm.trans e
     have b : valueAt (q :: qs) k = some q.2 := by simp [valueAt, afo, e']
     rw [rV e, b]; exact h2
   . have e' : ¬ q.1 = k := fun z => e (h1.trans z)
     have b : valueAt (q :: qs) k = valueAt qs k := by simp [valueAt, afo, e']
     rw [oq e, b]; exact ih
theorem KV.any {aU : List (κ × V)} {vs : List (κ × Value)} (r : KV aU vs) (k : κ) : (aU.any fun kv => decide (kv.1 = k)) = vs.any fun kv => decide (kv.1 = k) := by
 unfold KV at r
 induction r with
 | nil => rfl
 | cons h t ih => rw [ae7, ae7, ih, h.1]
theorem KV.repl {aU : List (κ × V)} {vs : List (κ × Value)} (r : KV aU vs) (k : κ) {y : V} {u : Value} (ry : RelV y u) :
   KV (aU.map fun kv => if kv.1 = k then (kv.1, y) else kv) (vs.map fun kv => if kv.1 = k then (kv.1, u) else kv) := by
 unfold KV at r ⊢
 induction r with
 | nil => exact .nil
 | @cons p q ps qs h t ih =>
   rw [aew, aew]
   refine .cons ?_ ih
   obtain ⟨h1, h2⟩ := h
   by_cases e : p.1 = k
   . rw [aer e, aer (h1.symm.trans e)]; exact ⟨h1, ry⟩
   . rw [aeq e, aeq (fun z => e (h1.trans z))]; exact ⟨h1, h2⟩
theorem KV.put {aU : List (κ × V)} {vs : List (κ × Value)} (r : KV aU vs) (k : κ) {y : V} {u : Value} (ry : RelV y u) : KV (putK aU k y) (stored vs k u) := by
 unfold putK stored
 rw [r.any k]
 by_cases e : (vs.any fun kv => decide (kv.1 = k)) = true
 . rw [aer e, aer e]; exact r.repl k ry
 . rw [aeq e, aeq e]; exact Paired.snoc r ⟨rfl, ry⟩
theorem KV.length {aU : List (κ × V)} {vs : List (κ × Value)} (r : KV aU vs) : aU.length = vs.length := Paired.length r
end
theorem KN {P : Program} {w : World} {k : Key} {u : Value} (r : RelV (kV k) u) : (gj P w).is k u = true := by
 cases k with
 | inl i => obtain ⟨t, e⟩ := (show ∃ t, u = Value.int i t from r); subst e; exact CV P w i t
 | inr x => obtain ⟨t, e⟩ := (show ∃ t, u = Value.str x t from r); subst e; exact CW P w x t
theorem z7 {P : Program} {w : World} : ∀ {ks : List Key} {us : List Value}, Vals (ks.map kV) us -> ItemsAre (gj P w) ks us
 | [], _, r => by rw [List.map_nil] at r; cases r; exact .nil
 | k :: ks, _, r => by
   rw [aew] at r
   cases r with
   | cons h t => exact .cons (KN h) (z7 t)
noncomputable abbrev KT (H : Hp) : List (List Key × V) -> List (List Key × Addr × Value) -> Prop := Paired fun p q => p.1 = q.1 /\ H q.2.1 = some (.tup (p.1.map kV)) /\ RelV p.2 q.2.2
theorem KT.val {H : Hp} {aU : List (List Key × V)} {xs : List (List Key × Addr × Value)} (r : KT H aU xs) (k : List Key) : xJ (qC aU k) ((atKey xs k).map (·.2)) := by
 induction r with
 | nil => exact True.intro
 | @cons p q ps qs h t ih =>
   obtain ⟨h1, _, h2⟩ := h
   by_cases e : p.1 = k
   . have e' : q.1 = k := h1.symm.trans e
     have b : atKey (q :: qs) k = some q.2 := by simp [atKey, afo, e']
     rw [rV e, b]; exact h2
   . have e' : ¬ q.1 = k := fun z => e (h1.trans z)
     have b : atKey (q :: qs) k = atKey qs k := by simp [atKey, afo, e']
     rw [oq e, b]; exact ih
theorem KT.repl {H : Hp} {aU : List (List Key × V)} {xs : List (List Key × Addr × Value)} (r : KT H aU xs) (k : List Key) {y : V} {u : Value} (ry : RelV y u) :
   KT H (aU.map fun kv => if kv.1 = k then (kv.1, y) else kv) (xs.map (putAt k u)) := by
 induction r with
 | nil => exact .nil
 | @cons p q ps qs h t ih =>
   rw [aew, aew]
   refine .cons ?_ ih
   obtain ⟨h1, h2, h3⟩ := h
   unfold putAt
   by_cases e : p.1 = k
   . rw [aer e, aer (h1.symm.trans e)]; exact ⟨h1, h2, ry⟩
   . rw [aeq e, aeq (fun z => e (h1.trans z))]; exact ⟨h1, h2, h3⟩
theorem KT.put {H : Hp} {aU : List (List Key × V)} {xs : List (List Key × Addr × Value)} (r : KT H aU xs) (k : List Key) {b : Addr} {y : V} {u : Value} (hb : H b = some (.tup (k.map kV))) (ry : RelV y u) :
   KT H (putK aU k y) (storedH xs k b u) := by
 have e : (aU.any fun kv => decide (kv.1 = k)) = (atKey xs k).isSome := by
   rw [Dj, (r.val k).uB, Option.isSome_map]
 unfold putK storedH
 rw [e]
 by_cases q : (atKey xs k).isSome = true
 . rw [aer q, aer q]; exact r.repl k ry
 . rw [aeq q, aeq q]; exact Paired.snoc r ⟨rfl, hb, ry⟩
theorem KT.keeps {H H' : Hp} {aU : List (List Key × V)} {xs : List (List Key × Addr × Value)} (r : KT H aU xs) (ht : ∀ b ys, H b = some (.tup ys) -> H' b = some (.tup ys)) : KT H' aU xs :=
 Paired.Sy r fun _ _ z => ⟨z.1, ht _ _ z.2.1, z.2.2⟩
section
variable {P : Program} {w : World} {H : Hp} {h : Heap} {a : Addr}
theorem RH {u : HO} (ok : rN P w H h) (e : Rd H a u) : fO P w H h a u := e.ok ok
theorem RJ {aU : List (Key × V)} (ok : rN P w H h) (e : Rd H a (.dK aU)) : aU.length <= sizeLine /\ (a == sysModules) = false /\ ∃ vs, KV aU vs /\ h.DictOf (gj P w) a vs :=
 show fO P w H h a (.dK aU) from RH ok e
theorem W7 {aU : List (Key × V)} (ok : rN P w H h) (e : H a = some (.dK aU)) : aU.length <= sizeLine /\ (a == sysModules) = false /\ ∃ vs, KV aU vs /\ h.DictOf (gj P w) a vs := RJ ok (.inl e)
theorem EI {ks : List Key} (ok : rN P w H h) (e : H a = some (.tup (ks.map kV))) : (tupleKind (gj P w)).is h ks a := by
 obtain ⟨_, its, r, o, h1, h2, n, h3⟩ := (show fO P w H h a (.tup (ks.map kV)) from ok a _ e)
 exact ⟨o, its.toArray, n, h1, h2, h3, by simpa using z7 r⟩
theorem RK {aU : List (List Key × V)} (ok : rN P w H h) (e : Rd H a (.dT aU)) : aU.length <= sizeLine /\ (a == sysModules) = false ∧
   ∃ xs, KT H aU xs /\ h.DictOfH (tupleKind (gj P w)) a xs := by
 obtain ⟨z, y, xs, r, o, es, ep, h1, h2, h3, h4, h5⟩ := (show fO P w H h a (.dT aU) from RH ok e)
 refine ⟨z, y, xs, r, o, es, ep, h1, h2, h3, h4, fun x hx => ?_, h5⟩
 have all : ∀ {l : List (List Key × V)} {m : List (List Key × Addr × Value)}, KT H l m -> ∀ x ∈ m, (tupleKind (gj P w)).is h x.1 x.2.1 := by
   intro l m q
   induction q with
   | nil => intro x hx; exact nomatch hx
   | @cons p q ps qs hq t ih =>
     intro x hx
     rcases aek.mp hx with e | hx
     . subst e
       exact EI ok (by rw [← hq.1]; exact hq.2.1)
     . exact ih x hx
 exact all r x hx
theorem W8 {aU : List (List Key × V)} (ok : rN P w H h) (e : H a = some (.dT aU)) : aU.length <= sizeLine /\ (a == sysModules) = false ∧
   ∃ xs, KT H aU xs /\ h.DictOfH (tupleKind (gj P w)) a xs := RK ok (.inl e)
end
noncomputable def KP (H : Hp) (a : Addr) (y : V) (r : Option V) : Prop :=
 (∃ aU k, Rd H a (.dK aU) /\ y = kV k /\ r = qC aU k) \/ ∃ aU k b, Rd H a (.dT aU) /\ y = .ref b /\ H b = some (.tup (k.map kV)) /\ r = qC aU k
noncomputable def KQ (H : Hp) (a : Addr) (y v : V) (H' : Hp) : Prop :=
 (∃ aU k, H a = some (.dK aU) /\ y = kV k /\ aU.length < sizeLine /\ H' = upd H a (.dK (putK aU k v))) ∨
 ∃ aU k b, H a = some (.dT aU) /\ y = .ref b /\ H b = some (.tup (k.map kV)) /\ aU.length < sizeLine /\ H' = upd H a (.dT (putK aU k v))
theorem KP.k {H : Hp} {a : Addr} {aU : List (Key × V)} {k : Key} (e : H a = some (.dK aU)) : KP H a (kV k) (qC aU k) := .inl ⟨aU, k, .inl e, rfl, rfl⟩
theorem KQ.k {H : Hp} {a : Addr} {aU : List (Key × V)} {k : Key} {v : V} (e : H a = some (.dK aU)) (hl : aU.length < sizeLine) : KQ H a (kV k) v (upd H a (.dK (putK aU k v))) := .inl ⟨aU, k, e, rfl, hl, rfl⟩
section
variable {X : Cx} {pins : List (Addr × Obj)} {σ : St} {H : Hp} {s : Shared} {a : Addr} {y v : V} {u r : Value} {o : Option V} {A : Around} {E : Value -> Shared -> Prop}
theorem Inv.big (I : Inv X pins σ H s) : sysModules < s.heap.objs.size := by
 have h : mainGlobals < s.heap.objs.size := (I.mod.glob.keeps I.bk).lt
 exact Nat.lt_trans (by decide) h
theorem Z9 {Q : Value -> Shared -> Prop} (hu : A.units + 1 < cLine) (I : Inv X pins σ H s) (g : KP H a y o) (ry : RelV y u) (h : ∀ s', Inv X pins σ H s' -> Q (.bool o.isSome) s') :
   wpAny (model X.prog X.w) A (compareOp .In u (.ref a)) Q E s := by
 rcases g with ⟨aU, k, e, ey, l⟩ | ⟨aU, k, b, e, ey, eb, l⟩
 . subst ey
   obtain ⟨z, hd, vs, rel, dd⟩ := RJ I.fN e
   refine wpAny_in_of (KN ry) hd dd.mapOf ?_
   rw [← (rel.val k).uB, ← l]
   exact h _ (I.tok _)
 . subst ey
   cases (show u = Value.ref b from ry)
   obtain ⟨z, hd, xs, rel, dd⟩ := RK I.fN e
   refine wpAny_in_heap (tupleKind_room_in1 hu) (EI I.fN eb) hd dd ?_
   have q := (rel.val k).uB
   rw [Option.isSome_map] at q
   rw [← q, ← l]
   exact h _ (I.tok _)
theorem G4 {h' : Heap} {t' : Nat} {ob : HO} (I : Inv X pins σ H s) (mu : Wi (H a)) (hs : Heap.SameBut a s.heap h') (he : ∃ q, h'.get? a = some q) (new : fO X.prog X.w (upd H a ob) h' a ob) :
   Inv X pins σ (upd H a ob) { s with heap := h', toks := t' } :=
 I.write (x := a) (e := a) mu (.inl rfl) (fun b q hb z => (hs.2 b hb).trans z) he new
theorem T4 {P : Program} {w : World} {H' : Hp} {h' : Heap} {aU : List (Key × V)} {vs : List (Key × Value)} (z : aU.length <= sizeLine) (hd : (a == sysModules) = false) (rel : KV aU vs) (dd : h'.DictOf (gj P w) a vs) :
   fO P w H' h' a (.dK aU) := ⟨z, hd, vs, rel, dd⟩
theorem IY {H' : Hp} {Q : Unit -> Shared -> Prop} (hu : A.units + 1 < cLine) (I : Inv X pins σ H s) (g : KQ H a y v H') (ry : RelV y u) (rv : RelV v r) (h : ∀ s', Inv X pins σ H' s' -> Q () s') :
   wpAny (model X.prog X.w) A (setItem (.ref a) u r) Q E s := by
 rcases g with ⟨aU, k, e, ey, l, eH⟩ | ⟨aU, k, b, e, ey, eb, l, eH⟩
 . subst ey eH
   obtain ⟨z, hd, vs, rel, dd⟩ := W7 I.fN e
   have hz : vs.length <= sizeLine := by rw [← rel.length]; exact z
   have hl : (putK aU k v).length <= sizeLine := by have := vo aU k v; omega
   refine wpAny_setItem_pairs (hsz := hz) (KN ry) dd fun h' YY hs => h _ ?_
   have he : ∃ q, h'.get? a = some q := let ⟨q, _, _, hq, _⟩ := YY; ⟨q, hq⟩
   exact G4 I (by rw [e]; exact True.intro) hs he (T4 hl hd (rel.put k rv) YY)
 . subst ey eH
   cases (show u = Value.ref b from ry)
   obtain ⟨z, hd, xs, rel, dd⟩ := W8 I.fN e
   have hz : xs.length <= sizeLine := by rw [← Paired.length rel]; exact z
   have hl : (putK aU k v).length <= sizeLine := by have := vo aU k v; omega
   refine wpAny_setItem_heap (hsz := hz) (tupleKind_room_in1 hu) (EI I.fN eb) dd fun h' YY hs => h _ ?_
   obtain ⟨q, es, ep, hq, h2, h3, h4, _, h5⟩ := YY
   refine G4 I (by rw [e]; exact True.intro) hs ⟨q, hq⟩ ⟨hl, hd, _, (rel.put k eb rv).keeps fun c ys ec => ?_, q, es, ep, hq, h2, h3, h4, h5⟩
   rw [aB (Wh ec e (fun z => nomatch z))]
   exact ec
end
section
variable {X : Cx} {pins : List (Addr × Obj)} {σ : St} {H : Hp} {s : Shared} {a : Addr} {aU : List (Key × V)} {k : Key} {u : Value} {A : Around} {E : Value -> Shared -> Prop}
end
noncomputable def aac (ty td : TE) : TE := fun σ H Q => ty σ H fun y H1 => td σ H1 fun x H2 => ∃ a o, x = .ref a /\ KP H2 a y o /\ Q (.bl o.isSome) H2
noncomputable def W9 (td ty tv : TE) : TS := fun D σ H => tv σ H fun v H1 => td σ H1 fun x H2 => ty σ H2 fun y H3 => ∃ a H4, x = .ref a /\ KQ H3 a y v H4 /\ D.nx σ H4
section
variable {X : Cx} {o i e value : Expr} {pos pos' ZN : Pos} {td ty tv : TE}
theorem T5 (hu : X.A.units + 1 < cLine) (hi : PE X i ty) (ho : PE X o td) : PC X .In i o (aac ty td) := by
 intro pins s σ H Q I h
 refine dU (hi pins s σ H _ I h) fun iv s1 ⟨y, H1, I1, ry, q1⟩ => dU (ho pins s1 σ H1 _ I1 q1) fun u s2 zz => ?_
 obtain ⟨x, H2, I2, rx, a, ov, ex, g, q2⟩ := zz
 subst ex
 obtain rfl : u = Value.ref a := rx
 exact Z9 hu I2 g ry fun s3 I3 => ⟨.bl ov.isSome, H2, I3, rfl, q2⟩
theorem OJ (hu : X.A.units + 1 < cLine) (ho : PE X o td) (hi : PE X i ty) (hv : PE X value tv) (hs : swapsWith value (some (.Subscript o i pos')) pos.line X.env = pure false) :
   PS X (.Assign [.Subscript o i pos'] value pos) (W9 td ty tv) := by
 intro pins s σ H D I h
 refine wpAny_Assign_Subscript (dU (hv pins s σ H _ I h) fun r s1 ⟨v, H1, I1, rv, q1⟩ => dU (ho pins s1 σ H1 _ I1 q1) fun u s2 ⟨x, H2, I2, rx, q2⟩ => dU (hi pins s2 σ H2 _ I2 q2) fun iv s3 zz => ?_) hs
 obtain ⟨y, H3, I3, ry, a, H4, ex, g, q3⟩ := zz
 subst ex
 obtain rfl : u = Value.ref a := rx
 exact IY hu I3 g ry rv fun s4 I4 => ⟨σ, H4, I4, q3⟩
end
theorem KR {P : Program} {w : World} {H : Hp} (h : Heap) (hb : sysModules < h.objs.size) : fO P w H (h.push { cls := .type "dict", data := .dict #[] }) h.objs.size (.dK []) :=
 ⟨aey _, afv.mpr (afG (aeM hb)), [], .nil, Heap.DictOf.new h⟩
noncomputable def T6 : TE := fun _ H Q => ∀ p, H p = none -> Q (.ref p) (upd H p (.dK []))
section
variable {X : Cx} {pos : Pos}
theorem KS : PE X (.Dict [] [] pos) T6 := fun pins s σ H Q I h =>
 wpAny_Dict_empty ⟨.ref s.heap.objs.size, _, I.laid (a := s.heap.objs.size) (o := .dK []) (t' := s.toks) (fun _ _ q => aem _ q) (ael _) (KR s.heap I.big), rfl, h _ (I.fN.fresh (ael _))⟩
end
section
variable {X : Cx} {pins : List (Addr × Obj)} {σ : St} {H : Hp} {s : Shared} {a : Addr} {y d : V} {u r : Value} {o : Option V} {A : Around} {E : Value -> Shared -> Prop}
end
section
variable {X : Cx} {o e f : Expr} {apos Df : Pos} {td ty tx : TE}
end
section
variable {X : Cx} {pins : List (Addr × Obj)} {σ : St} {H : Hp} {s : Shared} {a : Addr} {aU : List (Key × V)} {A : Around} {E : Value -> Shared -> Prop}
end
section
variable {X : Cx} {pins : List (Addr × Obj)} {σ : St} {H : Hp} {s : Shared} {a : Addr} {y : V} {u : Value} {A : Around} {E : Value -> Shared -> Prop}
end
end L2
namespace L3
open PySem PySem.Spec PyProof.Rows L2
inductive D where
 | non | bl (b : Bool) | int (i : Int) | str (x : Str)
 | tup (ds : List D) | lst (ds : List D) | ins (c : Str) (fs : List (Str × D)) | pM (aU : List (Key × D))
 | dct (aU : List (List Key × D))
 | any
 | val (v : V)
inductive T where
 | sh (d : D) | tup (ts : List T) | lst (ts : List T) | ins (c : Str) (fs : List (Str × T)) | pM (aU : List (Key × D)) | dct (aU : List (List Key × T))
 | pin (x : Addr) (t : T)
mutual
noncomputable def T.fh : T -> D
 | .sh d => d
 | .tup ts => .tup (fM ts)
 | .lst ts => .lst (fM ts)
 | .ins c fs => .ins c (qm fs)
 | .pM aU => .pM aU
 | .dct aU => .dct (KW aU)
 | .pin _ t => t.fh
noncomputable def T.fM : List T -> List D
 | [] => []
 | t :: ts => t.fh :: T.fM ts
noncomputable def T.qm : List (Str × T) -> List (Str × D)
 | [] => []
 | (x, t) :: fs => (x, t.fh) :: T.qm fs
noncomputable def T.KW : List (List Key × T) -> List (List Key × D)
 | [] => []
 | (x, t) :: fs => (x, t.fh) :: T.KW fs
end
variable (K : PySem.W.Frag) (CL : Str -> Addr)
mutual
inductive bq (Z : Hp) : D -> V -> Prop where
 | non : bq Z .non .non
 | bl (b : Bool) : bq Z (.bl b) (.bl b)
 | int (i : Int) : bq Z (.int i) (.int i)
 | str (x : Str) : bq Z (.str x) (.str x)
 | any (v : V) : bq Z .any v
 | val (v : V) : bq Z (.val v) v
 | tup {a : Addr} {vs : List V} {ds : List D} : wX K Z a vs -> aE Z ds vs -> bq Z (.tup ds) (.ref a)
 | lst {a : Addr} {vs : List V} {ds : List D} : qk K Z a vs -> aE Z ds vs -> bq Z (.lst ds) (.ref a)
 | ins {a dx : Addr} {c : Str} {gs : List (Str × V)} {fs : List (Str × D)} : Z a = some (.ins (CL c) dx gs) -> qt Z fs gs -> bq Z (.ins c fs) (.ref a)
 | pM {a : Addr} {gs : List (Key × V)} {fs : List (Key × D)} : Z a = some (.dK gs) -> bC Z fs gs -> bq Z (.pM fs) (.ref a)
 | dct {a : Addr} {gs : List (List Key × V)} {fs : List (List Key × D)} : Z a = some (.dT gs) -> xM Z fs gs -> bq Z (.dct fs) (.ref a)
inductive aE (Z : Hp) : List D -> List V -> Prop where
 | nil : aE Z [] []
 | cons {d : D} {v : V} {ds : List D} {vs : List V} : bq Z d v -> aE Z ds vs -> aE Z (d :: ds) (v :: vs)
inductive qt (Z : Hp) : List (Str × D) -> List (Str × V) -> Prop where
 | nil : qt Z [] []
 | cons {x : Str} {d : D} {v : V} {ds : List (Str × D)} {vs : List (Str × V)} : bq Z d v -> qt Z ds vs -> qt Z ((x, d) :: ds) ((x, v) :: vs)
inductive bC (Z : Hp) : List (Key × D) -> List (Key × V) -> Prop where
 | nil : bC Z [] []
 | cons {x : Key} {d : D} {v : V} {ds : List (Key × D)} {vs : List (Key × V)} : bq Z d v -> bC Z ds vs -> bC Z ((x, d) :: ds) ((x, v) :: vs)
inductive xM (Z : Hp) : List (List Key × D) -> List (List Key × V) -> Prop where
 | nil : xM Z [] []
 | cons {x : List Key} {d : D} {v : V} {ds : List (List Key × D)} {vs : List (List Key × V)} : bq Z d v -> xM Z ds vs -> xM Z ((x, d) :: ds) ((x, v) :: vs)
end
mutual
inductive cU (H Z : Hp) : T -> V -> List Addr -> Prop where
 | sh {d : D} {v : V} : bq K CL Z d v -> cU H Z (.sh d) v []
 | tup {a : Addr} {vs : List V} {ts : List T} {fp : List Addr} : Z a = some (.tup vs) -> aL H Z ts vs fp -> cU H Z (.tup ts) (.ref a) fp
 | lst {a : Addr} {vs : List V} {ts : List T} {fp : List Addr} : H a = some (.lst vs) -> aL H Z ts vs fp -> cU H Z (.lst ts) (.ref a) (a :: fp)
 | ins {a dx : Addr} {c : Str} {gs : List (Str × V)} {fs : List (Str × T)} {fp : List Addr} : H a = some (.ins (CL c) dx gs) -> dz H Z fs gs fp -> cU H Z (.ins c fs) (.ref a) (a :: fp)
 | pM {a : Addr} {gs : List (Key × V)} {aU : List (Key × D)} : H a = some (.dK gs) -> bC K CL Z aU gs -> cU H Z (.pM aU) (.ref a) [a]
 | dct {a : Addr} {gs : List (List Key × V)} {aU : List (List Key × T)} {fp : List Addr} : H a = some (.dT gs) -> vp H Z aU gs fp -> cU H Z (.dct aU) (.ref a) (a :: fp)
 | pin {x : Addr} {t : T} {fp : List Addr} : cU H Z t (.ref x) fp -> cU H Z (.pin x t) (.ref x) fp
inductive aL (H Z : Hp) : List T -> List V -> List Addr -> Prop where
 | nil : aL H Z [] [] []
 | cons {t : T} {v : V} {ts : List T} {vs : List V} {fp gp : List Addr} : cU H Z t v fp -> aL H Z ts vs gp -> aL H Z (t :: ts) (v :: vs) (fp ++ gp)
inductive dz (H Z : Hp) : List (Str × T) -> List (Str × V) -> List Addr -> Prop where
 | nil : dz H Z [] [] []
 | cons {x : Str} {t : T} {v : V} {ts : List (Str × T)} {vs : List (Str × V)} {fp gp : List Addr} : cU H Z t v fp -> dz H Z ts vs gp -> dz H Z ((x, t) :: ts) ((x, v) :: vs) (fp ++ gp)
inductive vp (H Z : Hp) : List (List Key × T) -> List (List Key × V) -> List Addr -> Prop where
 | nil : vp H Z [] [] []
 | cons {x : List Key} {t : T} {v : V} {ts : List (List Key × T)} {vs : List (List Key × V)} {fp gp : List Addr} : cU H Z t v fp -> vp H Z ts vs gp -> vp H Z ((x, t) :: ts) ((x, v) :: vs) (fp ++ gp)
end
inductive gI (H Z : Hp) : List (Option T) -> L2.St -> List Addr -> Prop where
 | nil : gI H Z [] [] []
 | skip {o : Option V} {δ : List (Option T)} {σ : L2.St} {fp : List Addr} : gI H Z δ σ fp -> gI H Z (none :: δ) (o :: σ) fp
 | cons {t : T} {v : V} {δ : List (Option T)} {σ : L2.St} {fp gp : List Addr} : cU K CL H Z t v fp -> gI H Z δ σ gp -> gI H Z (some t :: δ) (some v :: σ) (fp ++ gp)
section
variable {K : PySem.W.Frag} {CL : Str -> Addr}
theorem aD.RL {H H' : Hp} {a : Addr} {xs : List V} (e : aD H H') (h : wX K H a xs) : wX K H' a xs := by
 rcases h with (h | ⟨o, h⟩) | h
 . exact .inl (.inl (e _ _ h))
 . exact .inl (.inr ⟨o, e _ _ h⟩)
 . exact .inr h
theorem bq.mono {Z Z' : Hp} (e : aD Z Z') {d : D} {v : V} (h : bq K CL Z d v) : bq K CL Z' d v :=
 bq.rec (motive_1 := fun d v _ => bq K CL Z' d v) (motive_2 := fun d v _ => aE K CL Z' d v) (motive_3 := fun d v _ => qt K CL Z' d v) (motive_4 := fun d v _ => bC K CL Z' d v) (motive_5 := fun d v _ => xM K CL Z' d v)
   .non .bl .int .str .any .val (fun h _ r => .tup (aD.RL e h) r) (fun h _ r => .lst (e.seq h) r) (fun h _ r => .ins (e _ _ h) r) (fun h _ r => .pM (e _ _ h) r) (fun h _ r => .dct (e _ _ h) r) .nil (fun _ _ h r => .cons h r) .nil (fun _ _ h r => .cons h r) .nil (fun _ _ h r => .cons h r) .nil (fun _ _ h r => .cons h r) h
theorem bC.mono {Z Z' : Hp} (e : aD Z Z') {d : List (Key × D)} {v : List (Key × V)} (h : bC K CL Z d v) : bC K CL Z' d v :=
 bC.rec (motive_1 := fun d v _ => bq K CL Z' d v) (motive_2 := fun d v _ => aE K CL Z' d v) (motive_3 := fun d v _ => qt K CL Z' d v) (motive_4 := fun d v _ => bC K CL Z' d v) (motive_5 := fun d v _ => xM K CL Z' d v)
   .non .bl .int .str .any .val (fun h _ r => .tup (aD.RL e h) r) (fun h _ r => .lst (e.seq h) r) (fun h _ r => .ins (e _ _ h) r) (fun h _ r => .pM (e _ _ h) r) (fun h _ r => .dct (e _ _ h) r) .nil (fun _ _ h r => .cons h r) .nil (fun _ _ h r => .cons h r) .nil (fun _ _ h r => .cons h r) .nil (fun _ _ h r => .cons h r) h
theorem cU.mono {H H' Z Z' : Hp} (e : aD Z Z') {t : T} {v : V} {fp : List Addr} (k : ∀ a ∈ fp, H' a = H a) (h : cU K CL H Z t v fp) : cU K CL H' Z' t v fp :=
 cU.rec (motive_1 := fun t v fp _ => (∀ a ∈ fp, H' a = H a) -> cU K CL H' Z' t v fp) (motive_2 := fun t v fp _ => (∀ a ∈ fp, H' a = H a) -> aL K CL H' Z' t v fp) (motive_3 := fun t v fp _ => (∀ a ∈ fp, H' a = H a) -> dz K CL H' Z' t v fp) (motive_4 := fun t v fp _ => (∀ a ∈ fp, H' a = H a) -> vp K CL H' Z' t v fp)
   (fun h _ => .sh (h.mono e)) (fun h _ r k => .tup (e _ _ h) (r k)) (fun h _ r k => .lst ((k _ aef).trans h) (r fun a ha => k a (aeh _ ha))) (fun h _ r k => .ins ((k _ aef).trans h) (r fun a ha => k a (aeh _ ha))) (fun h f k => .pM ((k _ aef).trans h) (bC.mono e f)) (fun h _ r k => .dct ((k _ aef).trans h) (r fun a ha => k a (aeh _ ha))) (fun _ r k => .pin (r k)) (fun _ => .nil) (fun _ _ h r k => .cons (h fun a ha => k a (aei _ ha)) (r fun a ha => k a (aeb _ ha))) (fun _ => .nil) (fun _ _ h r k => .cons (h fun a ha => k a (aei _ ha)) (r fun a ha => k a (aeb _ ha))) (fun _ => .nil) (fun _ _ h r k => .cons (h fun a ha => k a (aei _ ha)) (r fun a ha => k a (aeb _ ha))) h k
theorem aL.mono {H H' Z Z' : Hp} (e : aD Z Z') {t : List T} {v : List V} {fp : List Addr} (k : ∀ a ∈ fp, H' a = H a) (h : aL K CL H Z t v fp) : aL K CL H' Z' t v fp :=
 aL.rec (motive_1 := fun t v fp _ => (∀ a ∈ fp, H' a = H a) -> cU K CL H' Z' t v fp) (motive_2 := fun t v fp _ => (∀ a ∈ fp, H' a = H a) -> aL K CL H' Z' t v fp) (motive_3 := fun t v fp _ => (∀ a ∈ fp, H' a = H a) -> dz K CL H' Z' t v fp) (motive_4 := fun t v fp _ => (∀ a ∈ fp, H' a = H a) -> vp K CL H' Z' t v fp)
   (fun h _ => .sh (h.mono e)) (fun h _ r k => .tup (e _ _ h) (r k)) (fun h _ r k => .lst ((k _ aef).trans h) (r fun a ha => k a (aeh _ ha))) (fun h _ r k => .ins ((k _ aef).trans h) (r fun a ha => k a (aeh _ ha))) (fun h f k => .pM ((k _ aef).trans h) (bC.mono e f)) (fun h _ r k => .dct ((k _ aef).trans h) (r fun a ha => k a (aeh _ ha))) (fun _ r k => .pin (r k)) (fun _ => .nil) (fun _ _ h r k => .cons (h fun a ha => k a (aei _ ha)) (r fun a ha => k a (aeb _ ha))) (fun _ => .nil) (fun _ _ h r k => .cons (h fun a ha => k a (aei _ ha)) (r fun a ha => k a (aeb _ ha))) (fun _ => .nil) (fun _ _ h r k => .cons (h fun a ha => k a (aei _ ha)) (r fun a ha => k a (aeb _ ha))) h k
theorem dz.mono {H H' Z Z' : Hp} (e : aD Z Z') {t : List (Str × T)} {v : List (Str × V)} {fp : List Addr} (k : ∀ a ∈ fp, H' a = H a) (h : dz K CL H Z t v fp) : dz K CL H' Z' t v fp :=
 dz.rec (motive_1 := fun t v fp _ => (∀ a ∈ fp, H' a = H a) -> cU K CL H' Z' t v fp) (motive_2 := fun t v fp _ => (∀ a ∈ fp, H' a = H a) -> aL K CL H' Z' t v fp) (motive_3 := fun t v fp _ => (∀ a ∈ fp, H' a = H a) -> dz K CL H' Z' t v fp) (motive_4 := fun t v fp _ => (∀ a ∈ fp, H' a = H a) -> vp K CL H' Z' t v fp)
   (fun h _ => .sh (h.mono e)) (fun h _ r k => .tup (e _ _ h) (r k)) (fun h _ r k => .lst ((k _ aef).trans h) (r fun a ha => k a (aeh _ ha))) (fun h _ r k => .ins ((k _ aef).trans h) (r fun a ha => k a (aeh _ ha))) (fun h f k => .pM ((k _ aef).trans h) (bC.mono e f)) (fun h _ r k => .dct ((k _ aef).trans h) (r fun a ha => k a (aeh _ ha))) (fun _ r k => .pin (r k)) (fun _ => .nil) (fun _ _ h r k => .cons (h fun a ha => k a (aei _ ha)) (r fun a ha => k a (aeb _ ha))) (fun _ => .nil) (fun _ _ h r k => .cons (h fun a ha => k a (aei _ ha)) (r fun a ha => k a (aeb _ ha))) (fun _ => .nil) (fun _ _ h r k => .cons (h fun a ha => k a (aei _ ha)) (r fun a ha => k a (aeb _ ha))) h k
theorem cU.there {H Z : Hp} {t : T} {v : V} {fp : List Addr} (h : cU K CL H Z t v fp) : ∀ a ∈ fp, ∃ o, H a = some o :=
 cU.rec (motive_1 := fun t v fp _ => ∀ a ∈ fp, ∃ o, H a = some o) (motive_2 := fun t v fp _ => ∀ a ∈ fp, ∃ o, H a = some o) (motive_3 := fun t v fp _ => ∀ a ∈ fp, ∃ o, H a = some o) (motive_4 := fun t v fp _ => ∀ a ∈ fp, ∃ o, H a = some o)
   (fun _ a ha => absurd ha aeF) (fun _ _ r => r) (fun h _ r a ha => (aek.mp ha).elim (fun q => ⟨_, q ▸ h⟩) (r a)) (fun h _ r a ha => (aek.mp ha).elim (fun q => ⟨_, q ▸ h⟩) (r a)) (fun h _ a ha => (aek.mp ha).elim (fun q => ⟨_, q ▸ h⟩) (fun q => absurd q aeF)) (fun h _ r a ha => (aek.mp ha).elim (fun q => ⟨_, q ▸ h⟩) (r a)) (fun _ r => r) (fun a ha => absurd ha aeF) (fun _ _ h r a ha => (aen.mp ha).elim (h a) (r a)) (fun a ha => absurd ha aeF) (fun _ _ h r a ha => (aen.mp ha).elim (h a) (r a)) (fun a ha => absurd ha aeF) (fun _ _ h r a ha => (aen.mp ha).elim (h a) (r a)) h
theorem aL.there {H Z : Hp} {t : List T} {v : List V} {fp : List Addr} (h : aL K CL H Z t v fp) : ∀ a ∈ fp, ∃ o, H a = some o :=
 aL.rec (motive_1 := fun t v fp _ => ∀ a ∈ fp, ∃ o, H a = some o) (motive_2 := fun t v fp _ => ∀ a ∈ fp, ∃ o, H a = some o) (motive_3 := fun t v fp _ => ∀ a ∈ fp, ∃ o, H a = some o) (motive_4 := fun t v fp _ => ∀ a ∈ fp, ∃ o, H a = some o)
   (fun _ a ha => absurd ha aeF) (fun _ _ r => r) (fun h _ r a ha => (aek.mp ha).elim (fun q => ⟨_, q ▸ h⟩) (r a)) (fun h _ r a ha => (aek.mp ha).elim (fun q => ⟨_, q ▸ h⟩) (r a)) (fun h _ a ha => (aek.mp ha).elim (fun q => ⟨_, q ▸ h⟩) (fun q => absurd q aeF)) (fun h _ r a ha => (aek.mp ha).elim (fun q => ⟨_, q ▸ h⟩) (r a)) (fun _ r => r) (fun a ha => absurd ha aeF) (fun _ _ h r a ha => (aen.mp ha).elim (h a) (r a)) (fun a ha => absurd ha aeF) (fun _ _ h r a ha => (aen.mp ha).elim (h a) (r a)) (fun a ha => absurd ha aeF) (fun _ _ h r a ha => (aen.mp ha).elim (h a) (r a)) h
theorem cU.fh {H Z Z' : Hp} (e : aD Z Z') {t : T} {v : V} {fp : List Addr} (k : ∀ a ∈ fp, Z' a = H a) (h : cU K CL H Z t v fp) : bq K CL Z' t.fh v :=
 cU.rec (motive_1 := fun t v fp _ => (∀ a ∈ fp, Z' a = H a) -> bq K CL Z' t.fh v) (motive_2 := fun t v fp _ => (∀ a ∈ fp, Z' a = H a) -> aE K CL Z' (T.fM t) v) (motive_3 := fun t v fp _ => (∀ a ∈ fp, Z' a = H a) -> qt K CL Z' (T.qm t) v) (motive_4 := fun t v fp _ => (∀ a ∈ fp, Z' a = H a) -> xM K CL Z' (T.KW t) v)
   (fun h _ => by rw [T.fh]; exact h.mono e) (fun h _ r k => by rw [T.fh]; exact .tup (wX.of (e _ _ h)) (r k)) (fun h _ r k => by rw [T.fh]; exact .lst (qk.of ((k _ aef).trans h)) (r fun a ha => k a (aeh _ ha))) (fun h _ r k => by rw [T.fh]; exact .ins ((k _ aef).trans h) (r fun a ha => k a (aeh _ ha))) (fun h f k => by rw [T.fh]; exact .pM ((k _ aef).trans h) (bC.mono e f)) (fun h _ r k => by rw [T.fh]; exact .dct ((k _ aef).trans h) (r fun a ha => k a (aeh _ ha))) (fun _ r k => by rw [T.fh]; exact r k) (fun _ => by rw [T.fM]; exact .nil) (fun _ _ h r k => by rw [T.fM]; exact .cons (h fun a ha => k a (aei _ ha)) (r fun a ha => k a (aeb _ ha))) (fun _ => by rw [T.qm]; exact .nil) (fun _ _ h r k => by rw [T.qm]; exact .cons (h fun a ha => k a (aei _ ha)) (r fun a ha => k a (aeb _ ha))) (fun _ => by rw [T.KW]; exact .nil) (fun _ _ h r k => by rw [T.KW]; exact .cons (h fun a ha => k a (aei _ ha)) (r fun a ha => k a (aeb _ ha))) h k
theorem aE.ind {Z : Hp} {P : List D -> List V -> Prop} (n : P [] []) (c : ∀ {d : D} {v : V} {ds : List D} {vs : List V}, bq K CL Z d v -> aE K CL Z ds vs -> P ds vs -> P (d :: ds) (v :: vs)) {ds : List D} {vs : List V} (h : aE K CL Z ds vs) : P ds vs :=
 aE.rec (motive_1 := fun _ _ _ => True) (motive_2 := fun d v _ => P d v) (motive_3 := fun _ _ _ => True) (motive_4 := fun _ _ _ => True) (motive_5 := fun _ _ _ => True)
   trivial (fun _ => trivial) (fun _ => trivial) (fun _ => trivial) (fun _ => trivial) (fun _ => trivial) (fun _ _ _ => trivial) (fun _ _ _ => trivial) (fun _ _ _ => trivial) (fun _ _ _ => trivial) (fun _ _ _ => trivial) n (fun a b _ i => c a b i) trivial (fun _ _ _ _ => trivial) trivial (fun _ _ _ _ => trivial) trivial (fun _ _ _ _ => trivial) h
theorem bC.ind {Z : Hp} {P : List (Key × D) -> List (Key × V) -> Prop} (n : P [] []) (c : ∀ {x : Key} {d : D} {v : V} {ds : List (Key × D)} {vs : List (Key × V)}, bq K CL Z d v -> bC K CL Z ds vs -> P ds vs -> P ((x, d) :: ds) ((x, v) :: vs)) {ds : List (Key × D)} {vs : List (Key × V)} (h : bC K CL Z ds vs) : P ds vs :=
 bC.rec (motive_1 := fun _ _ _ => True) (motive_2 := fun _ _ _ => True) (motive_3 := fun _ _ _ => True) (motive_4 := fun d v _ => P d v) (motive_5 := fun _ _ _ => True)
   trivial (fun _ => trivial) (fun _ => trivial) (fun _ => trivial) (fun _ => trivial) (fun _ => trivial) (fun _ _ _ => trivial) (fun _ _ _ => trivial) (fun _ _ _ => trivial) (fun _ _ _ => trivial) (fun _ _ _ => trivial) trivial (fun _ _ _ _ => trivial) trivial (fun _ _ _ _ => trivial) n (fun a b _ i => c a b i) trivial (fun _ _ _ _ => trivial) h
theorem aL.ind {H Z : Hp} {P : List T -> List V -> List Addr -> Prop} (n : P [] [] []) (c : ∀ {t : T} {v : V} {ts : List T} {vs : List V} {fp gp : List Addr}, cU K CL H Z t v fp -> aL K CL H Z ts vs gp -> P ts vs gp -> P (t :: ts) (v :: vs) (fp ++ gp)) {ts : List T} {vs : List V} {fp : List Addr} (h : aL K CL H Z ts vs fp) : P ts vs fp :=
 aL.rec (motive_1 := fun _ _ _ _ => True) (motive_2 := fun d v f _ => P d v f) (motive_3 := fun _ _ _ _ => True) (motive_4 := fun _ _ _ _ => True)
   (fun _ => trivial) (fun _ _ _ => trivial) (fun _ _ _ => trivial) (fun _ _ _ => trivial) (fun _ _ => trivial) (fun _ _ _ => trivial) (fun _ _ => trivial) n (fun a b _ i => c a b i) trivial (fun _ _ _ _ => trivial) trivial (fun _ _ _ _ => trivial) h
theorem dz.ind {H Z : Hp} {P : List (Str × T) -> List (Str × V) -> List Addr -> Prop} (n : P [] [] []) (c : ∀ {x : Str} {t : T} {v : V} {ts : List (Str × T)} {vs : List (Str × V)} {fp gp : List Addr}, cU K CL H Z t v fp -> dz K CL H Z ts vs gp -> P ts vs gp -> P ((x, t) :: ts) ((x, v) :: vs) (fp ++ gp)) {ts : List (Str × T)} {vs : List (Str × V)} {fp : List Addr} (h : dz K CL H Z ts vs fp) : P ts vs fp :=
 dz.rec (motive_1 := fun _ _ _ _ => True) (motive_2 := fun _ _ _ _ => True) (motive_3 := fun d v f _ => P d v f) (motive_4 := fun _ _ _ _ => True)
   (fun _ => trivial) (fun _ _ _ => trivial) (fun _ _ _ => trivial) (fun _ _ _ => trivial) (fun _ _ => trivial) (fun _ _ _ => trivial) (fun _ _ => trivial) trivial (fun _ _ _ _ => trivial) n (fun a b _ i => c a b i) trivial (fun _ _ _ _ => trivial) h
theorem aE.length {Z : Hp} {d : List D} {v : List V} (h : aE K CL Z d v) : d.length = v.length :=
 aE.ind (P := fun d v => d.length = v.length) rfl (fun _ _ i => congrArg (· + 1) i) h
theorem aL.length {H Z : Hp} {d : List T} {v : List V} {fp : List Addr} (h : aL K CL H Z d v fp) : d.length = v.length :=
 aL.ind (P := fun d v _ => d.length = v.length) rfl (fun _ _ i => congrArg (· + 1) i) h
theorem aE.get {Z : Hp} : ∀ {ds : List D} {vs : List V} {i : Nat} {d : D}, aE K CL Z ds vs -> ds[i]? = some d -> ∃ v, vs[i]? = some v /\ bq K CL Z d v
 | _, _, _, _, .nil, e => by simp at e
 | _, _, 0, _, .cons r _, e => by simp at e; subst e; exact ⟨_, rfl, r⟩
 | _, _, i + 1, d, .cons _ t, e => by
   obtain ⟨u, h1, h2⟩ := aE.get (i := i) (d := d) t (by simpa using e)
   exact ⟨u, by simpa using h1, h2⟩
theorem aE.OL {Z : Hp} : ∀ {ds : List D} {vs : List V} {i : Nat} {v : V}, aE K CL Z ds vs -> vs[i]? = some v -> ∃ d, ds[i]? = some d /\ bq K CL Z d v
 | _, _, _, _, .nil, e => by simp at e
 | _, _, 0, _, .cons r _, e => by simp at e; subst e; exact ⟨_, rfl, r⟩
 | _, _, i + 1, d, .cons _ t, e => by
   obtain ⟨u, h1, h2⟩ := aE.OL (i := i) (v := d) t (by simpa using e)
   exact ⟨u, by simpa using h1, h2⟩
theorem gI.get {H Z : Hp} : ∀ {δ : List (Option T)} {σ : L2.St} {fp : List Addr} {i : Nat} {t : T}, gI K CL H Z δ σ fp -> δ[i]? = some (some t) →
   ∃ v f1 f2 f3, σ[i]? = some (some v) /\ fp = f1 ++ (f2 ++ f3) /\ cU K CL H Z t v f2 ∧
     (∀ {H' Z' : Hp} {t' : T} {v' : V} {g : List Addr}, aD Z Z' -> (∀ a ∈ f1 ++ f3, H' a = H a) -> cU K CL H' Z' t' v' g -> gI K CL H' Z' (δ.set i (some t')) (σ.set i (some v')) (f1 ++ (g ++ f3))) ∧
     (∀ {o : Option V}, gI K CL H Z (δ.set i none) (σ.set i o) (f1 ++ f3)) := by
 intro δ σ fp i t h
 have mono : ∀ {H H' Z Z' : Hp} {δ : List (Option T)} {σ : L2.St} {fp : List Addr}, aD Z Z' -> (∀ a ∈ fp, H' a = H a) -> gI K CL H Z δ σ fp -> gI K CL H' Z' δ σ fp := by
   intro H H' Z Z' δ σ fp e k r
   induction r with
   | nil => exact .nil
   | skip _ ih => exact .skip (ih k)
   | cons r _ ih => exact .cons (r.mono e fun a ha => k a (aei _ ha)) (ih fun a ha => k a (aeb _ ha))
 induction h generalizing i with
 | nil => intro e; simp at e
 | @skip o δ σ fp r ih =>
   cases i with
   | zero => intro e; simp at e
   | succ i =>
     intro e
     obtain ⟨v, f1, f2, f3, h1, h2, h3, h4, h5⟩ := ih (i := i) (by simpa using e)
     exact ⟨v, f1, f2, f3, by simpa using h1, h2, h3, fun e k q => .skip (h4 e k q), .skip h5⟩
 | @cons t0 v0 δ σ fp gp r0 r ih =>
   cases i with
   | zero =>
     intro e
     simp at e
     subst e
     refine ⟨v0, [], fp, gp, rfl, rfl, r0, fun {H' Z' t' v' g} e k q => gI.cons (fp := g) (gp := gp) q (mono (fp := gp) e (fun a ha => k a (by simpa using ha)) r), .skip (by simpa using r)⟩
   | succ i =>
     intro e
     obtain ⟨v, f1, f2, f3, h1, h2, h3, h4, h5⟩ := ih (i := i) (by simpa using e)
     refine ⟨v, fp ++ f1, f2, f3, by simpa using h1, by rw [h2, List.append_assoc], h3, fun {H' Z' t' v' g} e k q => ?_, fun {o} => ?_⟩
     . rw [aed]
       exact .cons (r0.mono e fun a ha => k a (by simp [ha])) (h4 e (fun a ha => k a (by rw [aed]; exact aeb _ ha)) q)
     . rw [aed]
       exact .cons r0 h5
theorem gI.mono {H H' Z Z' : Hp} {δ : List (Option T)} {σ : L2.St} {fp : List Addr} (e : aD Z Z') (k : ∀ a ∈ fp, H' a = H a) (r : gI K CL H Z δ σ fp) : gI K CL H' Z' δ σ fp := by
 induction r with
 | nil => exact .nil
 | skip _ ih => exact .skip (ih k)
 | cons r _ ih => exact .cons (r.mono e fun a ha => k a (aei _ ha)) (ih fun a ha => k a (aeb _ ha))
theorem gI.there {H Z : Hp} {δ : List (Option T)} {σ : L2.St} {fp : List Addr} (r : gI K CL H Z δ σ fp) : ∀ a ∈ fp, ∃ o, H a = some o := by
 induction r with
 | nil => intro a ha; cases ha
 | skip _ ih => exact ih
 | cons r _ ih => exact fun a ha => (aen.mp ha).elim (r.there a) (ih a)
theorem gI.put {H Z : Hp} {δ : List (Option T)} {σ : L2.St} {fp : List Addr} (r : gI K CL H Z δ σ fp) {t : T} {v : V} {g : List Addr} (q : cU K CL H Z t v g) :
   ∀ {i : Nat}, i < δ.length -> ∃ f, gI K CL H Z (δ.set i (some t)) (σ.set i (some v)) f /\ ∃ f', f'.Sublist fp /\ f.Perm (g ++ f') := by
 induction r with
 | nil => intro i hi; simp at hi
 | @skip o δ σ fp r ih =>
   intro i hi
   cases i with
   | zero => exact ⟨g ++ fp, .cons q r, fp, aeG _, afN _⟩
   | succ i =>
     obtain ⟨f, h1, f', h2, h3⟩ := ih (i := i) (by simpa using hi)
     exact ⟨f, .skip h1, f', h2, h3⟩
 | @cons t0 v0 δ σ fp gp r0 r ih =>
   intro i hi
   cases i with
   | zero => exact ⟨g ++ gp, .cons q r, gp, ae5 _ _, afN _⟩
   | succ i =>
     obtain ⟨f, h1, f', h2, h3⟩ := ih (i := i) (by simpa using hi)
     refine ⟨fp ++ f, .cons r0 h1, fp ++ f', aeL (aeG _) h2, ?_⟩
     refine (aeT fp h3).trans ?_
     rw [← aed, ← aed]
     exact List.Perm.append_right f' aeP
end
noncomputable def KY (X : Cx) (e : Expr) : TE := fun σ H Q => ∀ (pins : List (Addr × Obj)) (s : Shared), Inv X pins σ H s -> wpAny (model X.prog X.w) X.A (eval e X.env) (EP X pins σ Q) X.xe s
noncomputable def OO (X : Cx) (e : Expr) : TT := fun σ H Q => ∀ (pins : List (Addr × Obj)) (s : Shared), Inv X pins σ H s -> wpAny (model X.prog X.w) X.A (isTrue e X.env (eval e X.env)) (TP X pins σ Q) X.xe s
noncomputable def KZ (X : Cx) (es : List Expr) : TA := fun σ H Q => ∀ (pos : Pos) (pins : List (Addr × Obj)) (s : Shared), Inv X pins σ H s -> wpAny (model X.prog X.w) X.A (spliced (backTo pos (starEach es X.env))) (AP X pins σ Q) X.xe s
noncomputable def T7 (X : Cx) (st : Stmt) : TS := fun D σ H => ∀ (pins : List (Addr × Obj)) (s : Shared), Inv X pins σ H s -> wpAny (model X.prog X.w) X.A (exec st X.env) (SP X pins D) X.xe s
noncomputable def T8 (X : Cx) (st : List Stmt) : TS := fun D σ H => ∀ (pins : List (Addr × Obj)) (s : Shared), Inv X pins σ H s -> wpAny (model X.prog X.w) X.A (execs st X.env) (SP X pins D) X.xe s
section
variable {X : Cx}
theorem dB {e : Expr} : PE X e (KY X e) := fun pins s _ _ _ I h => h pins s I
theorem RM {e : Expr} : PT X e (OO X e) := fun pins s _ _ _ I h => h pins s I
theorem N2 {e : List Expr} : PA X e (KZ X e) := fun pos pins s _ _ _ I h => h pos pins s I
theorem psS {e : Stmt} : PS X e (T7 X e) := fun pins s _ _ _ I h => h pins s I
theorem OQ {e : List Stmt} : GL X e (T8 X e) := fun pins s _ _ _ I h => h pins s I
theorem cC {e : Expr} {t : TE} (h : PE X e t) {σ : L2.St} {H : Hp} {Q : VK} (q : t σ H Q) : KY X e σ H Q := fun pins s I => h pins s σ H Q I q
theorem xN {e : Expr} {t : TT} (h : PT X e t) {σ : L2.St} {H : Hp} {Q : Bool -> Hp -> Prop} (q : t σ H Q) : OO X e σ H Q := fun pins s I => h pins s σ H Q I q
theorem IZ {e : List Expr} {t : TA} (h : PA X e t) {σ : L2.St} {H : Hp} {Q : List V -> Hp -> Prop} (q : t σ H Q) : KZ X e σ H Q := fun pos pins s I => h pos pins s σ H Q I q
theorem xO {e : Stmt} {t : TS} (h : PS X e t) {σ : L2.St} {H : Hp} {D : Ends} (q : t D σ H) : T7 X e D σ H := fun pins s I => h pins s σ H D I q
theorem Xa {e : List Stmt} {t : TS} (h : GL X e t) {σ : L2.St} {H : Hp} {D : Ends} (q : t D σ H) : T8 X e D σ H := fun pins s I => h pins s σ H D I q
end
noncomputable def notStar : Expr -> Bool
 | .Starred _ _ => false
 | _ => true
theorem bR {e : Expr} {es : List Expr} {env : Env} (h : notStar e = true) : starEach (e :: es) env = (false, eval e env) :: starEach es env := by
 cases e <;> first | rfl | (cases h)
structure Bx where
 B : Hp
 Z : Hp
noncomputable def nV : HO -> Bool
 | .tup _ => true
 | .fh _ _ => true
 | _ => false
noncomputable def G5 (x : Str) : Bool := x.cps[0]? == some 35
noncomputable def aad (x : Str) : Str := ⟨x.cps.extract 1 x.cps.size⟩
noncomputable def ou (CL : Str -> Addr) (Z : Hp) : Prop := ∀ x, G5 x = true -> CL x ≠ 0 -> Z (CL x) = some (.tabs (aad x))
structure bJ (K : PySem.W.Frag) (CL : Str -> Addr) (b : Bx) (H Z : Hp) (δ : List (Option T)) (σ : L2.St) (ts : List T) (vs : List V) : Prop where
 rep : ∃ fp gp, gI K CL H Z δ σ fp /\ aL K CL H Z ts vs gp /\ (fp ++ gp).Nodup /\ ∀ a ∈ fp ++ gp, Z a = none /\ b.B a = none
 bh : aD b.B H
 zz : aD b.Z Z
 zh : aD Z H
 new : ∀ a o, Z a = some o -> b.Z a = none -> b.B a = none
 tp : ∀ a o, H a = some o -> nV o = true -> Z a = some o
 tab : ou CL b.Z
section
variable {K : PySem.W.Frag} {CL : Str -> Addr} {b : Bx} {H H' Z Z' : Hp} {δ δ' : List (Option T)} {σ σ' : L2.St} {ts ts' : List T} {vs vs' : List V} {t : T} {v : V}
theorem ou.mono {A B : Hp} (h : ou CL A) (e : aD A B) : ou CL B := fun x hx h0 => e _ _ (h x hx h0)
theorem bJ.T9 (S : bJ K CL b H Z δ σ ts vs) : ou CL Z := S.tab.mono S.zz
theorem bJ.OS (S : bJ K CL b H Z δ σ ts vs) : ou CL H := S.T9.mono S.zh
theorem Ua {A B : Hp} (e : aD A B) {a : Addr} (h : B a = none) : A a = none := e.free h
theorem aD.upd {H : Hp} {p : Addr} {o : HO} (h : H p = none) : aD H (upd H p o) := fun b u e => by rw [aB (bx e h)]; exact e
theorem bJ.view (S : bJ K CL b H Z δ σ (t :: ts) (v :: vs)) : bq K CL H t.fh v := by
 obtain ⟨fp, gp, _, r, _, _⟩ := S.rep
 cases r with
 | cons r _ => exact r.fh S.zh fun _ _ => rfl
theorem bJ.pop (S : bJ K CL b H Z δ σ (t :: ts) (v :: vs)) : bJ K CL b H Z δ σ ts vs := by
 obtain ⟨fp, gp, e, r, nd, k⟩ := S.rep
 cases r with
 | @cons _ _ _ _ f1 f2 r1 r2 =>
   refine ⟨⟨fp, f2, e, r2, nd.sublist (aeL (aeG _) (ae5 _ _)), fun a ha => k a ?_⟩, S.bh, S.zz, S.zh, S.new, S.tp, S.tab⟩
   rcases aen.mp ha with h | h
   . exact aei _ h
   . exact aeb _ (aeb _ h)
theorem bJ.push {d : D} (S : bJ K CL b H Z δ σ ts vs) (r : bq K CL Z d v) : bJ K CL b H Z δ σ (.sh d :: ts) (v :: vs) := by
 obtain ⟨fp, gp, e, r2, nd, k⟩ := S.rep
 exact ⟨⟨fp, [] ++ gp, e, .cons (.sh r) r2, nd, k⟩, S.bh, S.zz, S.zh, S.new, S.tp, S.tab⟩
theorem bJ.K0 (S : bJ K CL b H Z δ σ (t :: ts) (v :: vs)) : ∃ Z', aD Z Z' /\ bJ K CL b H Z' δ σ (.sh t.fh :: ts) (v :: vs) := by
 classical
 obtain ⟨fp, gp, e, r, nd, k⟩ := S.rep
 cases r with
 | @cons _ _ _ _ f1 f2 r1 r2 =>
   have nZ : ∀ a ∈ f1, Z a = none /\ b.B a = none := fun a ha => k a (aeb _ (aei _ ha))
   have sz : aD Z (fun a => if a ∈ f1 then H a else Z a) := fun a o q => by
     by_cases ha : a ∈ f1
     . rw [(nZ a ha).1] at q; cases q
     . show (if a ∈ f1 then H a else Z a) = some o
       rw [aeq ha]; exact q
   have Xb := ae0.mp nd
   have dj : ∀ a ∈ fp ++ f2, a ∉ f1 := fun a ha h1 => by
     rcases aen.mp ha with h | h
     . exact Xb.2.2 a h a (aei _ h1) rfl
     . exact (ae0.mp Xb.2.1).2.2 a h1 a h rfl
   refine ⟨fun a => if a ∈ f1 then H a else Z a, sz, ⟨⟨fp, [] ++ f2, e.mono sz (fun _ _ => rfl), .cons (.sh (r1.fh sz fun a ha => aer ha)) (r2.mono sz fun _ _ => rfl), ?_, fun a ha => ?_⟩, S.bh, S.zz.trans sz, fun a o q => ?_, fun a o q z => ?_, fun a o q i => ?_, S.tab⟩⟩
   . exact nd.sublist (aeL (aeG _) (ae5 _ _))
   . have K1 : a ∈ fp ++ f2 := ha
     refine ⟨?_, (k a ?_).2⟩
     . show (if a ∈ f1 then H a else Z a) = none
       rw [aeq (dj a K1)]
       refine (k a ?_).1
       rcases aen.mp K1 with h | h
       . exact aei _ h
       . exact aeb _ (aeb _ h)
     . rcases aen.mp K1 with h | h
       . exact aei _ h
       . exact aeb _ (aeb _ h)
   . have q' : (if a ∈ f1 then H a else Z a) = some o := q
     by_cases ha : a ∈ f1
     . rw [aer ha] at q'; exact q'
     . rw [aeq ha] at q'; exact S.zh a o q'
   . have q' : (if a ∈ f1 then H a else Z a) = some o := q
     by_cases ha : a ∈ f1
     . exact (nZ a ha).2
     . rw [aeq ha] at q'; exact S.new a o q' z
   . exact sz a o (S.tp a o q i)
theorem bJ.OU {i : Nat} (S : bJ K CL b H Z δ σ ts vs) (hi : δ[i]? = some (some t)) : ∃ v Z', σ[i]? = some (some v) /\ aD Z Z' /\ bJ K CL b H Z' (δ.set i (some (.sh t.fh))) σ (.sh t.fh :: ts) (v :: vs) := by
 classical
 obtain ⟨fp, gp, e, r, nd, k⟩ := S.rep
 obtain ⟨v, f1, f2, f3, hv, vq, rt, put, _⟩ := e.get hi
 subst vq
 have nZ : ∀ a ∈ f2, Z a = none /\ b.B a = none := fun a ha => k a (by simp [ha])
 have sz : aD Z (fun a => if a ∈ f2 then H a else Z a) := fun a o q => by
   by_cases ha : a ∈ f2
   . rw [(nZ a ha).1] at q; cases q
   . show (if a ∈ f2 then H a else Z a) = some o
     rw [aeq ha]; exact q
 have dj : ∀ a ∈ (f1 ++ f3) ++ gp, a ∉ f2 := fun a ha h2 => by
   have hp : ((f1 ++ (f2 ++ f3)) ++ gp).Perm (f2 ++ ((f1 ++ f3) ++ gp)) := by
     rw [← aed, ← aed]
     refine (List.perm_append_right_iff gp).mpr ?_
     rw [← aed]
     exact (List.perm_append_right_iff f3).mpr aeP
   exact (ae0.mp (hp.nodup_iff.mp nd)).2.2 a h2 a ha rfl
 have rF : bq K CL (fun a => if a ∈ f2 then H a else Z a) t.fh v := rt.fh sz fun a ha => aer ha
 have Ub : σ.set i (some v) = σ := by
   apply List.ext_getElem?
   intro j
   rw [List.getElem?_set]
   split
   . rename_i h; subst h
     split
     . exact hv.symm
     . rename_i h2; rw [List.getElem?_eq_none (by omega)]
   . rfl
 have e2 : gI K CL H (fun a => if a ∈ f2 then H a else Z a) (δ.set i (some (.sh t.fh))) σ (f1 ++ ([] ++ f3)) := by
   have := put (H' := H) (t' := .sh t.fh) (v' := v) (g := []) sz (fun _ _ => rfl) (.sh rF)
   rwa [Ub] at this
 refine ⟨v, fun a => if a ∈ f2 then H a else Z a, hv, sz, ⟨⟨f1 ++ ([] ++ f3), [] ++ gp, e2, .cons (.sh rF) (r.mono sz fun _ _ => rfl), ?_, fun a ha => ?_⟩, S.bh, S.zz.trans sz, fun a o q => ?_, fun a o q z => ?_, fun a o q i => sz a o (S.tp a o q i), S.tab⟩⟩
 . exact nd.sublist (aeL (aeL (aeG _) (ae5 _ _)) (aeG _))
 . have K1 : a ∈ (f1 ++ f3) ++ gp := ha
   have hm : a ∈ (f1 ++ (f2 ++ f3)) ++ gp := by
     simp only [aen] at K1 ⊢
     rcases K1 with (h | h) | h
     . exact .inl (.inl h)
     . exact .inl (.inr (.inr h))
     . exact .inr h
   refine ⟨?_, (k a hm).2⟩
   show (if a ∈ f2 then H a else Z a) = none
   rw [aeq (dj a K1)]
   exact (k a hm).1
 . have q' : (if a ∈ f2 then H a else Z a) = some o := q
   by_cases ha : a ∈ f2
   . rw [aer ha] at q'; exact q'
   . rw [aeq ha] at q'; exact S.zh a o q'
 . have q' : (if a ∈ f2 then H a else Z a) = some o := q
   by_cases ha : a ∈ f2
   . exact (nZ a ha).2
   . rw [aeq ha] at q'; exact S.new a o q' z
theorem bJ.move {i : Nat} (S : bJ K CL b H Z δ σ ts vs) (hi : δ[i]? = some (some t)) : ∃ v, σ[i]? = some (some v) /\ bJ K CL b H Z (δ.set i none) σ (t :: ts) (v :: vs) := by
 obtain ⟨fp, gp, e, r, nd, k⟩ := S.rep
 obtain ⟨v, f1, f2, f3, hv, vq, rt, _, del⟩ := e.get hi
 subst vq
 have Ub : σ.set i (some v) = σ := by
   apply List.ext_getElem?
   intro j
   rw [List.getElem?_set]
   split
   . rename_i h; subst h
     split
     . exact hv.symm
     . rename_i h2; rw [List.getElem?_eq_none (by omega)]
   . rfl
 have hp : ((f1 ++ (f2 ++ f3)) ++ gp).Perm ((f1 ++ f3) ++ (f2 ++ gp)) := by
   have h1 : (f2 ++ f3).Perm (f3 ++ f2) := aeP
   have h2 := (aeT f1 h1).append_right gp
   simp only [aed] at h2 ⊢
   exact h2
 refine ⟨v, hv, ⟨⟨f1 ++ f3, f2 ++ gp, ?_, .cons rt r, hp.nodup_iff.mp nd, fun a ha => k a (hp.mem_iff.mpr ha)⟩, S.bh, S.zz, S.zh, S.new, S.tp, S.tab⟩⟩
 have := del (o := some v)
 rwa [Ub] at this
theorem bJ.look {i : Nat} (S : bJ K CL b H Z δ σ ts vs) (hi : δ[i]? = some (some t)) : ∃ v, σ[i]? = some (some v) /\ bq K CL H t.fh v := by
 obtain ⟨fp, gp, e, r, nd, k⟩ := S.rep
 obtain ⟨v, f1, f2, f3, hv, vq, rt, _, _⟩ := e.get hi
 exact ⟨v, hv, rt.fh S.zh fun _ _ => rfl⟩
theorem bJ.RN {i : Nat} {d : D} (S : bJ K CL b H Z δ σ ts vs) (hi : δ[i]? = some (some (.sh d))) : ∃ v, σ[i]? = some (some v) /\ bq K CL Z d v := by
 obtain ⟨fp, gp, e, r, nd, k⟩ := S.rep
 obtain ⟨v, f1, f2, f3, hv, vq, rt, _, _⟩ := e.get hi
 cases rt with
 | sh h => exact ⟨v, hv, h⟩
theorem bJ.set {i : Nat} (S : bJ K CL b H Z δ σ (t :: ts) (v :: vs)) (hi : i < δ.length) : bJ K CL b H Z (δ.set i (some t)) (σ.set i (some v)) ts vs := by
 obtain ⟨fp, gp, e, r, nd, k⟩ := S.rep
 cases r with
 | @cons _ _ _ _ f1 f2 r1 r2 =>
   obtain ⟨f, h1, f', h2, h3⟩ := e.put r1 hi
   have hp : (f ++ f2).Perm (f' ++ (f1 ++ f2)) := by
     refine (h3.append_right f2).trans ?_
     rw [← aed]
     exact aeP.append_right f2
   have Xc : (f' ++ (f1 ++ f2)).Sublist (fp ++ (f1 ++ f2)) := aeL h2 (aeG _)
   exact ⟨⟨f, f2, h1, r2, hp.nodup_iff.mpr (nd.sublist Xc), fun a ha => k a (Xc.subset (hp.mem_iff.mp ha))⟩, S.bh, S.zz, S.zh, S.new, S.tp, S.tab⟩
end
mutual
noncomputable def D.nM : D -> Bool
 | .tup ds => D.bZ ds
 | .lst _ => false
 | .ins _ _ => false
 | .pM _ => false
 | .dct _ => false
 | .any => false
 | _ => true
noncomputable def D.bZ : List D -> Bool
 | [] => true
 | d :: ds => d.nM && D.bZ ds
end
mutual
noncomputable def T.clean : T -> Bool
 | .sh d => d.nM
 | .tup ts => T.gJ ts
 | .lst ts => T.gJ ts
 | .ins _ fs => T.bV fs
 | .pM aU => D.bZ (aU.map (·.2))
 | .dct aU => T.AI aU
 | .pin _ t => t.clean
noncomputable def T.gJ : List T -> Bool
 | [] => true
 | t :: ts => t.clean && T.gJ ts
noncomputable def T.bV : List (Str × T) -> Bool
 | [] => true
 | (_, t) :: ts => t.clean && T.bV ts
noncomputable def T.AI : List (List Key × T) -> Bool
 | [] => true
 | (_, t) :: ts => t.clean && T.AI ts
end
noncomputable def bS (X : Cx) (CL : Str -> Addr) (b : Bx) (e : Expr) (δ : List (Option T)) (t : T) (δ' : List (Option T)) : Prop :=
 ∀ (H Z : Hp) (σ : L2.St) (ts : List T) (vs : List V) (Q : VK), bJ X.K CL b H Z δ σ ts vs -> (∀ v H' Z', aD Z Z' -> aD H H' -> bJ X.K CL b H' Z' δ' σ (t :: ts) (v :: vs) -> Q v H') -> KY X e σ H Q
noncomputable def cG (X : Cx) (CL : Str -> Addr) (b : Bx) (e : Expr) (δ : List (Option T)) (d : D) (δ' : List (Option T)) : Prop :=
 ∀ (H Z : Hp) (σ : L2.St) (ts : List T) (vs : List V) (Q : VK), bJ X.K CL b H Z δ σ ts vs -> (∀ v H' Z', aD Z Z' -> aD H H' -> bJ X.K CL b H' Z' δ' σ ts vs -> bq X.K CL H' d v -> Q v H') -> KY X e σ H Q
noncomputable def pN (X : Cx) (CL : Str -> Addr) (b : Bx) (e : Expr) (δ : List (Option T)) (p : Bool) (δ' : List (Option T)) : Prop :=
 ∀ (H Z : Hp) (σ : L2.St) (ts : List T) (vs : List V) (Q : Bool -> Hp -> Prop), bJ X.K CL b H Z δ σ ts vs -> (∀ H' Z', aD Z Z' -> aD H H' -> bJ X.K CL b H' Z' δ' σ ts vs -> Q p H') -> OO X e σ H Q
noncomputable def EJ (X : Cx) (CL : Str -> Addr) (b : Bx) (es : List Expr) (δ : List (Option T)) (tl : List T) (δ' : List (Option T)) : Prop :=
 ∀ (H Z : Hp) (σ : L2.St) (ts : List T) (vs : List V) (Q : List V -> Hp -> Prop), bJ X.K CL b H Z δ σ ts vs →
   (∀ us H' Z', us.length = tl.length -> aD Z Z' -> aD H H' -> bJ X.K CL b H' Z' δ' σ (tl.reverse ++ ts) (us.reverse ++ vs) -> Q us H') -> KZ X es σ H Q
noncomputable def RP (X : Cx) (CL : Str -> Addr) (b : Bx) (es : List Expr) (δ : List (Option T)) (ds : List D) (δ' : List (Option T)) : Prop :=
 ∀ (H Z : Hp) (σ : L2.St) (ts : List T) (vs : List V) (Q : List V -> Hp -> Prop), bJ X.K CL b H Z δ σ ts vs →
   (∀ us H' Z', aD Z Z' -> aD H H' -> bJ X.K CL b H' Z' δ' σ ts vs -> aE X.K CL H' ds us -> Q us H') -> KZ X es σ H Q
structure cH where
 nx : List (Option T) -> Prop
 rt : T -> List (Option T) -> Prop
 bk : List (Option T) -> Prop := fun _ => False
 ct : List (Option T) -> Prop := fun _ => False
structure Meets (K : PySem.W.Frag) (CL : Str -> Addr) (b : Bx) (Z : Hp) (ts : List T) (vs : List V) (D : cH) (E : Ends) : Prop where
 nx : ∀ δ' σ' H' Z', aD Z Z' -> bJ K CL b H' Z' δ' σ' ts vs -> D.nx δ' -> E.nx σ' H'
 rt : ∀ t v H' Z' δ' σ', aD Z Z' -> bJ K CL b H' Z' δ' σ' (t :: ts) (v :: vs) -> D.rt t δ' -> E.rt v H'
 bk : ∀ δ' σ' H' Z', aD Z Z' -> bJ K CL b H' Z' δ' σ' ts vs -> D.bk δ' -> E.bk σ' H'
 ct : ∀ δ' σ' H' Z', aD Z Z' -> bJ K CL b H' Z' δ' σ' ts vs -> D.ct δ' -> E.ct σ' H'
noncomputable def RQ (X : Cx) (CL : Str -> Addr) (b : Bx) (st : Stmt) (δ : List (Option T)) (D : cH) : Prop :=
 ∀ (H Z : Hp) (σ : L2.St) (ts : List T) (vs : List V) (E : Ends), bJ X.K CL b H Z δ σ ts vs -> Meets X.K CL b Z ts vs D E -> T7 X st E σ H
noncomputable def gk (X : Cx) (CL : Str -> Addr) (b : Bx) (st : List Stmt) (δ : List (Option T)) (D : cH) : Prop :=
 ∀ (H Z : Hp) (σ : L2.St) (ts : List T) (vs : List V) (E : Ends), bJ X.K CL b H Z δ σ ts vs -> Meets X.K CL b Z ts vs D E -> T8 X st E σ H
section
variable {K : PySem.W.Frag} {CL : Str -> Addr} {b : Bx} {H H' Z Z' : Hp} {δ δ' : List (Option T)} {σ σ' : L2.St} {ts ts' : List T} {vs vs' : List V} {t : T} {v : V}
theorem Meets.mono {D : cH} {E : Ends} (M : Meets K CL b Z ts vs D E) (e : aD Z Z') : Meets K CL b Z' ts vs D E :=
 ⟨fun _ _ _ _ s => M.nx _ _ _ _ (e.trans s), fun _ _ _ _ _ _ s => M.rt _ _ _ _ _ _ (e.trans s), fun _ _ _ _ s => M.bk _ _ _ _ (e.trans s), fun _ _ _ _ s => M.ct _ _ _ _ (e.trans s)⟩
theorem G6 {a : Addr} {xs : List V} (zh : ∀ a o, H a = some o -> nV o = true -> Z a = some o) (h : wX K H a xs) : wX K Z a xs := by
 rcases h with (h | ⟨o, h⟩) | h
 . exact .inl (.inl (zh _ _ h rfl))
 . exact .inl (.inr ⟨o, zh _ _ h rfl⟩)
 . exact .inr h
theorem bq.nM (zh : ∀ a o, H a = some o -> nV o = true -> Z a = some o) {d : D} {v : V} (k : d.nM = true) (h : bq K CL H d v) : bq K CL Z d v :=
 bq.rec (motive_1 := fun d v _ => d.nM = true -> bq K CL Z d v) (motive_2 := fun d v _ => D.bZ d = true -> aE K CL Z d v) (motive_3 := fun d v _ => True) (motive_4 := fun d v _ => True) (motive_5 := fun d v _ => True)
   (fun _ => .non) (fun b _ => .bl b) (fun b _ => .int b) (fun b _ => .str b) (fun _ k => by rw [D.nM] at k; cases k) (fun b _ => .val b) (fun h _ r k => .tup (G6 zh h) (r (by rw [D.nM] at k; exact k))) (fun _ _ _ k => by rw [D.nM] at k; cases k) (fun _ _ _ k => by rw [D.nM] at k; cases k) (fun _ _ _ k => by rw [D.nM] at k; cases k) (fun _ _ _ k => by rw [D.nM] at k; cases k) (fun _ => .nil) (fun _ _ h r k => by rw [D.bZ, aev] at k; exact .cons (h k.1) (r k.2)) trivial (fun _ _ _ _ => trivial) trivial (fun _ _ _ _ => trivial) trivial (fun _ _ _ _ => trivial) h k
theorem aE.nM (zh : ∀ a o, H a = some o -> nV o = true -> Z a = some o) {d : List D} {v : List V} (k : D.bZ d = true) (h : aE K CL H d v) : aE K CL Z d v :=
 aE.rec (motive_1 := fun d v _ => d.nM = true -> bq K CL Z d v) (motive_2 := fun d v _ => D.bZ d = true -> aE K CL Z d v) (motive_3 := fun d v _ => True) (motive_4 := fun d v _ => True) (motive_5 := fun d v _ => True)
   (fun _ => .non) (fun b _ => .bl b) (fun b _ => .int b) (fun b _ => .str b) (fun _ k => by rw [D.nM] at k; cases k) (fun b _ => .val b) (fun h _ r k => .tup (G6 zh h) (r (by rw [D.nM] at k; exact k))) (fun _ _ _ k => by rw [D.nM] at k; cases k) (fun _ _ _ k => by rw [D.nM] at k; cases k) (fun _ _ _ k => by rw [D.nM] at k; cases k) (fun _ _ _ k => by rw [D.nM] at k; cases k) (fun _ => .nil) (fun _ _ h r k => by rw [D.bZ, aev] at k; exact .cons (h k.1) (r k.2)) trivial (fun _ _ _ _ => trivial) trivial (fun _ _ _ _ => trivial) trivial (fun _ _ _ _ => trivial) h k
theorem bC.clean {Z1 : Hp} (zi : ∀ {d : D} {v : V}, d.nM = true -> bq K CL Z1 d v -> bq K CL Z d v) {aU : List (Key × D)} {gs : List (Key × V)} (k : D.bZ (aU.map (·.2)) = true) (h : bC K CL Z1 aU gs) : bC K CL Z aU gs :=
 bC.ind (P := fun aU gs => D.bZ (aU.map (·.2)) = true -> bC K CL Z aU gs) (fun _ => .nil) (fun h _ i k => by rw [aew, D.bZ, aev] at k; exact .cons (zi k.1 h) (i k.2)) h k
theorem cU.clean {Z1 : Hp} (zh : ∀ a xs, Z1 a = some (.tup xs) -> Z a = some (.tup xs)) (zi : ∀ {d : D} {v : V}, d.nM = true -> bq K CL Z1 d v -> bq K CL Z d v) {t : T} {v : V} {fp : List Addr} (k : t.clean = true) (h : cU K CL H Z1 t v fp) : cU K CL H Z t v fp :=
 cU.rec (motive_1 := fun t v fp _ => t.clean = true -> cU K CL H Z t v fp) (motive_2 := fun t v fp _ => T.gJ t = true -> aL K CL H Z t v fp) (motive_3 := fun t v fp _ => T.bV t = true -> dz K CL H Z t v fp) (motive_4 := fun t v fp _ => T.AI t = true -> vp K CL H Z t v fp)
   (fun h k => .sh (zi (by rw [T.clean] at k; exact k) h)) (fun h _ r k => .tup (zh _ _ h) (r (by rw [T.clean] at k; exact k))) (fun h _ r k => .lst h (r (by rw [T.clean] at k; exact k))) (fun h _ r k => .ins h (r (by rw [T.clean] at k; exact k))) (fun h f k => .pM h (bC.clean zi (by rw [T.clean] at k; exact k) f)) (fun h _ r k => .dct h (r (by rw [T.clean] at k; exact k))) (fun _ r k => .pin (r (by rw [T.clean] at k; exact k))) (fun _ => .nil) (fun _ _ h r k => by rw [T.gJ, aev] at k; exact .cons (h k.1) (r k.2)) (fun _ => .nil) (fun _ _ h r k => by rw [T.bV, aev] at k; exact .cons (h k.1) (r k.2)) (fun _ => .nil) (fun _ _ h r k => by rw [T.AI, aev] at k; exact .cons (h k.1) (r k.2)) h k
theorem bJ.back {W W' : Hp} {fp : List Addr} (S : bJ K CL b H Z δ σ ts vs) (hh : aD H H') (zw : aD Z W) (ww : aD W W') (wh : aD W' H') (new : ∀ a o, W' a = some o -> W a = none -> H a = none)
   (tp : ∀ a o, H' a = some o -> nV o = true -> W' a = some o) (r : cU K CL H' W' t v fp) (nd : fp.Nodup) (own : ∀ a ∈ fp, W' a = none /\ H a = none) (c : W = Z \/ t.clean = true) :
   ∃ Z', aD Z Z' /\ bJ K CL b H' Z' δ σ (t :: ts) (v :: vs) := by
 classical
 let Z' : Hp := fun a => if (H a).isSome = true then Z a else W' a
 have zs : ∀ {a : Addr} {o : HO}, H a = some o -> Z' a = Z a := fun {a o} e => by
   show (if (H a).isSome = true then Z a else W' a) = Z a
   rw [aer (by rw [e]; rfl)]
 have zn : ∀ {a : Addr}, H a = none -> Z' a = W' a := fun {a} e => by
   show (if (H a).isSome = true then Z a else W' a) = W' a
   rw [aeq (by rw [e]; simp)]
 have sz : aD Z Z' := fun a o q => by rw [zs (S.zh a o q)]; exact q
 have zw' : ∀ a o, Z' a = some o -> W' a = some o := fun a o q => by
   cases e : H a with
   | none => rw [zn e] at q; exact q
   | some u => rw [zs e] at q; exact ww a o (zw a o q)
 have ztp : ∀ a o, H' a = some o -> nV o = true -> Z' a = some o := fun a o q i => by
   cases e : H a with
   | none => rw [zn e]; exact tp a o q i
   | some u =>
     rw [zs e]
     have := hh a u e
     rw [q] at this; cases this
     exact S.tp a o e i
 have r' : cU K CL H' Z' t v fp := by
   rcases c with c | c
   . have : Z' = W' := by
       funext a
       cases e : H a with
       | none => exact zn e
       | some u =>
         rw [zs e]
         cases q : W' a with
         | none =>
           cases q2 : Z a with
           | none => rfl
           | some o => rw [ww a o (zw a o q2)] at q; cases q
         | some o =>
           cases q2 : W a with
           | none => rw [new a o q q2] at e; cases e
           | some o2 =>
             have := ww a o2 q2
             rw [q] at this; cases this
             rw [← c]; exact q2
     rw [this]; exact r
   . refine cU.clean (fun a xs h => ?_) (fun {d v} k h => ?_) c r
     . exact ztp a _ (wh a _ h) rfl
     . exact bq.nM (H := H') ztp k (h.mono wh)
 obtain ⟨f0, g0, e0, r0, nd0, k0⟩ := S.rep
 have old : ∀ a ∈ f0 ++ g0, ∃ o, H a = some o := fun a ha => (aen.mp ha).elim (e0.there a) (r0.there a)
 have keep : ∀ a ∈ f0 ++ g0, H' a = H a := fun a ha => by
   obtain ⟨o, e⟩ := old a ha
   rw [e]; exact hh a o e
 refine ⟨Z', sz, ⟨⟨f0, fp ++ g0, e0.mono sz (fun a ha => keep a (aei _ ha)), .cons r' (r0.mono sz fun a ha => keep a (aeb _ ha)), ?_, fun a ha => ?_⟩, S.bh.trans hh, S.zz.trans sz, fun a o q => wh a o (zw' a o q), fun a o q z => ?_, ztp, S.tab⟩⟩
 . have hp : (f0 ++ (fp ++ g0)).Perm (fp ++ (f0 ++ g0)) := by
     rw [← aed, ← aed]
     exact aeP.append_right g0
   refine hp.nodup_iff.mpr (ae0.mpr ⟨nd, nd0, fun a ha c hc e => ?_⟩)
   subst e
   obtain ⟨o, q⟩ := old a hc
   rw [(own a ha).2] at q; cases q
 . have : a ∈ f0 ++ g0 \/ a ∈ fp := by
     simp only [aen] at ha ⊢
     rcases ha with h | h | h
     . exact .inl (.inl h)
     . exact .inr h
     . exact .inl (.inr h)
   rcases this with h | h
   . obtain ⟨o, q⟩ := old a h
     exact ⟨by rw [zs q]; exact (k0 a h).1, (k0 a h).2⟩
   . exact ⟨by rw [zn (own a h).2]; exact (own a h).1, S.bh.free (own a h).2⟩
 . cases e : H a with
   | none => exact S.bh.free e
   | some u => rw [zs e] at q; exact S.new a o q z
end
section
variable {X : Cx} {CL : Str -> Addr} {b : Bx} {δ δ1 δ2 δ3 : List (Option T)} {e e1 e2 : Expr} {t t1 t2 : T} {d d1 d2 : D} {pos : Pos}
theorem RT (h : bS X CL b e δ t δ1) : cG X CL b e δ t.fh δ1 := fun H Z σ ts vs Q S k => h H Z σ ts vs Q S fun v H' Z' z s S' => k v H' Z' z s S'.pop S'.view
theorem ai (h : bS X CL b e δ (.sh d) δ1) : cG X CL b e δ d δ1 := by have := RT h; rwa [T.fh] at this
theorem dg (h : cG X CL b e δ d δ1) (i : d.nM = true) : bS X CL b e δ (.sh d) δ1 := fun H Z σ ts vs Q S k => h H Z σ ts vs Q S fun v H' Z' z s S' r => k v H' Z' z s (S'.push (bq.nM S'.tp i r))
theorem AJ (h : bS X CL b e δ t δ1) : bS X CL b e δ (.sh t.fh) δ1 := fun H Z σ ts vs Q S k => h H Z σ ts vs Q S fun v H' Z' z s S' => by
 obtain ⟨Z2, z2, S2⟩ := S'.K0
 exact k v H' Z2 (z.trans z2) s S2
theorem ak {i : Int} {j : Nat} : bS X CL b (.Constant (.int i) j pos) δ (.sh (.int i)) δ := fun H Z σ ts vs Q S k => cC SJ (k _ _ Z (.refl _) (.refl _) (S.push (.int i)))
theorem nO {i : Bool} {j : Nat} : bS X CL b (.Constant (.bool i) j pos) δ (.sh (.bl i)) δ := fun H Z σ ts vs Q S k => cC Wq (k _ _ Z (.refl _) (.refl _) (S.push (.bl i)))
theorem cN {x : Str} {j : Nat} : bS X CL b (.Constant (.str x) j pos) δ (.sh (.str x)) δ := fun H Z σ ts vs Q S k => cC SK (k _ _ Z (.refl _) (.refl _) (S.push (.str x)))
section
variable (i : Nat) {x : Str} (hi : X.N[i]? = some x := by rfl) (hv : V3 X.env.scope x := by first | exact Or.inl rfl | exact Or.inr (Or.inl rfl) | exact Or.inr (Or.inr rfl)) (hd : (x == ("__debug__" : Str)) = false := by decide) (n8 : (x == ("__classdict__" : Str)) = false := by decide)
include hi hv hd n8
theorem Uc (h : δ[i]? = some (some (.sh d)) := by rfl) : bS X CL b (.Name x pos) δ (.sh d) δ := fun H Z σ ts vs Q S k => by
 obtain ⟨v, e, r⟩ := S.RN h
 exact cC (mE hi hv hd n8) ⟨v, e, k v H Z (.refl _) (.refl _) (S.push r)⟩
theorem OV (h : δ[i]? = some (some t) := by rfl) : bS X CL b (.Name x pos) δ (.sh t.fh) (δ.set i (some (.sh t.fh))) := fun H Z σ ts vs Q S k => by
 obtain ⟨v, Z', e, z, S'⟩ := S.OU h
 exact cC (mE hi hv hd n8) ⟨v, e, k v H Z' z (.refl _) S'⟩
theorem OW (h : δ[i]? = some (some t) := by rfl) : bS X CL b (.Name x pos) δ t (δ.set i none) := fun H Z σ ts vs Q S k => by
 obtain ⟨v, e, S'⟩ := S.move h
 exact cC (mE hi hv hd n8) ⟨v, e, k v H Z (.refl _) (.refl _) S'⟩
theorem Ud (h : δ[i]? = some (some t) := by rfl) : cG X CL b (.Name x pos) δ t.fh δ := fun H Z σ ts vs Q S k => by
 obtain ⟨v, e, r⟩ := S.look h
 exact cC (mE hi hv hd n8) ⟨v, e, k v H Z (.refl _) (.refl _) S r⟩
end
noncomputable def OX : D -> Option V
 | .non => some .non
 | .bl b => some (.bl b)
 | .int i => some (.int i)
 | .str x => some (.str x)
 | _ => none
theorem bq.sc {K : PySem.W.Frag} {Z : Hp} {d : D} {v w : V} (r : bq K CL Z d v) (h : OX d = some w) : v = w := by
 cases r <;> first | (exact aeH h) | (cases h)
theorem OY {K : PySem.W.Frag} {Z : Hp} {d : D} {w : V} (h : OX d = some w) : bq K CL Z d w := by
 cases d <;> first | (cases h; constructor) | (cases h)
theorem ow {op : Operator} {r : R2} {w1 w2 w : V} (ho : ql X (binaryOp op) r) (h1 : cG X CL b e1 δ d1 δ1) (h2 : cG X CL b e2 δ1 d2 δ2) (s1 : OX d1 = some w1) (s2 : OX d2 = some w2) (s3 : OX d = some w)
   (hr : ∀ (H : Hp) (Q : VK), Q w H -> r w1 w2 H Q) : bS X CL b (.BinOp e1 op e2 pos) δ (.sh d) δ2 := fun H Z σ ts vs Q S k => by
 refine cC (Rz ho dB dB) (h1 H Z σ ts vs _ S fun v1 H1 Z1 z1 k1 S1 r1 => h2 H1 Z1 σ ts vs _ S1 fun v2 H2 Z2 z2 k2 S2 r2 => ?_)
 rw [r1.sc s1, r2.sc s2]
 exact hr H2 Q (k w H2 Z2 (z1.trans z2) (k1.trans k2) (S2.push (OY s3)))
theorem fu {i j : Int} (h1 : cG X CL b e1 δ (.int i) δ1) (h2 : cG X CL b e2 δ1 (.int j) δ2) : bS X CL b (.BinOp e1 .Add e2 pos) δ (.sh (.int (i + j))) δ2 := ow Tp h1 h2 rfl rfl rfl fun _ _ q => ⟨i, j, rfl, rfl, q⟩
theorem gX {i j : Int} (h1 : cG X CL b e1 δ (.int i) δ1) (h2 : cG X CL b e2 δ1 (.int j) δ2) : bS X CL b (.BinOp e1 .Sub e2 pos) δ (.sh (.int (i - j))) δ2 := ow Tq h1 h2 rfl rfl rfl fun _ _ q => ⟨i, j, rfl, rfl, q⟩
theorem EK {i j : Int} (h1 : cG X CL b e1 δ (.int i) δ1) (h2 : cG X CL b e2 δ1 (.int j) δ2) (c : Om i j) : bS X CL b (.BinOp e1 .Mult e2 pos) δ (.sh (.int (i * j))) δ2 := ow Tr h1 h2 rfl rfl rfl fun _ _ q => ⟨i, j, rfl, rfl, c, q⟩
theorem bF {i j : Int} (h1 : cG X CL b e1 δ (.int i) δ1) (h2 : cG X CL b e2 δ1 (.int j) δ2) (c : 0 < j) : bS X CL b (.BinOp e1 .Mod e2 pos) δ (.sh (.int (i % j))) δ2 := ow Tt h1 h2 rfl rfl rfl fun _ _ q => ⟨i, j, rfl, rfl, c, q⟩
theorem bW {i j : Int} (h1 : cG X CL b e1 δ (.int i) δ1) (h2 : cG X CL b e2 δ1 (.int j) δ2) (c : WM i j) : bS X CL b (.BinOp e1 .FloorDiv e2 pos) δ (.sh (.int (i / j))) δ2 := ow Oo h1 h2 rfl rfl rfl fun _ _ q => ⟨i, j, rfl, rfl, c, q⟩
theorem iF {i j : Int} (h1 : cG X CL b e1 δ (.int i) δ1) (h2 : cG X CL b e2 δ1 (.int j) δ2) (c : WN i j) : bS X CL b (.BinOp e1 .Pow e2 pos) δ (.sh (.int (i ^ j.toNat))) δ2 := ow Tv h1 h2 rfl rfl rfl fun _ _ q => ⟨i, j, rfl, rfl, c, q⟩
theorem xP {x y : Str} (h1 : cG X CL b e1 δ (.str x) δ1) (h2 : cG X CL b e2 δ1 (.str y) δ2) (c : x.length + y.length <= sizeLine) : bS X CL b (.BinOp e1 .Add e2 pos) δ (.sh (.str (x ++ y))) δ2 := ow Ey h1 h2 rfl rfl rfl fun _ _ q => ⟨x, y, rfl, rfl, c, q⟩
theorem vt {op : CmpOp} {r : R2} {p : Bool} {w1 w2 : V} (ho : ql X (compareOp op) r) (h1 : cG X CL b e1 δ d1 δ1) (h2 : cG X CL b e2 δ1 d2 δ2) (s1 : OX d1 = some w1) (s2 : OX d2 = some w2)
   (hr : ∀ (H : Hp) (Q : VK), Q (.bl p) H -> r w1 w2 H Q) (hm : behindInMarks op e2 = false) : pN X CL b (.Compare e1 [op] [e2] pos) δ p δ2 /\ bS X CL b (.Compare e1 [op] [e2] pos) δ (.sh (.bl p)) δ2 := by
 constructor
 . intro H Z σ ts vs Q S k
   refine xN (pK ho dB dB hm) (h1 H Z σ ts vs _ S fun v1 H1 Z1 z1 k1 S1 r1 => h2 H1 Z1 σ ts vs _ S1 fun v2 H2 Z2 z2 k2 S2 r2 => ?_)
   rw [r1.sc s1, r2.sc s2]
   exact hr H2 _ ⟨p, rfl, k H2 Z2 (z1.trans z2) (k1.trans k2) S2⟩
 . intro H Z σ ts vs Q S k
   refine cC (pJ ho dB dB hm) (h1 H Z σ ts vs _ S fun v1 H1 Z1 z1 k1 S1 r1 => h2 H1 Z1 σ ts vs _ S1 fun v2 H2 Z2 z2 k2 S2 r2 => ?_)
   rw [r1.sc s1, r2.sc s2]
   exact hr H2 _ (k _ H2 Z2 (z1.trans z2) (k1.trans k2) (S2.push (.bl p)))
theorem Xd {w1 w2 : V} (h1 : cG X CL b e1 δ d1 δ1) (h2 : cG X CL b e2 δ1 d2 δ2) (s1 : OX d1 = some w1) (s2 : OX d2 = some w2) (sc : Tz w1 w2 = true) :
   pN X CL b (.Compare e1 [.Eq] [e2] pos) δ (decide (w1 = w2)) δ2 /\ bS X CL b (.Compare e1 [.Eq] [e2] pos) δ (.sh (.bl (decide (w1 = w2)))) δ2 := vt Kq h1 h2 s1 s2 (fun _ _ q => ⟨sc, q⟩) (oi _)
theorem kH {i j : Int} (h1 : cG X CL b e1 δ (.int i) δ1) (h2 : cG X CL b e2 δ1 (.int j) δ2) : pN X CL b (.Compare e1 [.Eq] [e2] pos) δ (decide (i = j)) δ2 /\ bS X CL b (.Compare e1 [.Eq] [e2] pos) δ (.sh (.bl (decide (i = j)))) δ2 :=
 vt Kq h1 h2 rfl rfl (fun _ _ q => ⟨rfl, by rw [show decide (V.int i = V.int j) = decide (i = j) by simp]; exact q⟩) (oi _)
theorem lF {i j : Int} (h1 : cG X CL b e1 δ (.int i) δ1) (h2 : cG X CL b e2 δ1 (.int j) δ2) : pN X CL b (.Compare e1 [.NotEq] [e2] pos) δ (!decide (i = j)) δ2 /\ bS X CL b (.Compare e1 [.NotEq] [e2] pos) δ (.sh (.bl (!decide (i = j)))) δ2 :=
 vt RA h1 h2 rfl rfl (fun _ _ q => ⟨rfl, by rw [show decide (V.int i = V.int j) = decide (i = j) by simp]; exact q⟩) (oi _)
theorem oz {i j : Str} (h1 : cG X CL b e1 δ (.str i) δ1) (h2 : cG X CL b e2 δ1 (.str j) δ2) : pN X CL b (.Compare e1 [.Eq] [e2] pos) δ (decide (i = j)) δ2 /\ bS X CL b (.Compare e1 [.Eq] [e2] pos) δ (.sh (.bl (decide (i = j)))) δ2 :=
 vt Kq h1 h2 rfl rfl (fun _ _ q => ⟨rfl, by rw [show decide (V.str i = V.str j) = decide (i = j) by simp]; exact q⟩) (oi _)
theorem EL {i j : Str} (h1 : cG X CL b e1 δ (.str i) δ1) (h2 : cG X CL b e2 δ1 (.str j) δ2) : pN X CL b (.Compare e1 [.NotEq] [e2] pos) δ (!decide (i = j)) δ2 /\ bS X CL b (.Compare e1 [.NotEq] [e2] pos) δ (.sh (.bl (!decide (i = j)))) δ2 :=
 vt RA h1 h2 rfl rfl (fun _ _ q => ⟨rfl, by rw [show decide (V.str i = V.str j) = decide (i = j) by simp]; exact q⟩) (oi _)
theorem G7 {i j : Int} (h1 : cG X CL b e1 δ (.int i) δ1) (h2 : cG X CL b e2 δ1 (.int j) δ2) : pN X CL b (.Compare e1 [.Lt] [e2] pos) δ (decide (i < j)) δ2 /\ bS X CL b (.Compare e1 [.Lt] [e2] pos) δ (.sh (.bl (decide (i < j)))) δ2 := vt GU h1 h2 rfl rfl (fun _ _ q => ⟨i, j, rfl, rfl, q⟩) (oi _)
theorem K2 {i j : Int} (h1 : cG X CL b e1 δ (.int i) δ1) (h2 : cG X CL b e2 δ1 (.int j) δ2) : pN X CL b (.Compare e1 [.Gt] [e2] pos) δ (decide (j < i)) δ2 /\ bS X CL b (.Compare e1 [.Gt] [e2] pos) δ (.sh (.bl (decide (j < i)))) δ2 := vt WQ h1 h2 rfl rfl (fun _ _ q => ⟨i, j, rfl, rfl, q⟩) (oi _)
end
section
variable {K : PySem.W.Frag} {CL : Str -> Addr} {H Z : Hp}
theorem aL.split : ∀ {as bs : List T} {us ws : List V} {gp : List Addr}, as.length = us.length -> aL K CL H Z (as ++ bs) (us ++ ws) gp -> ∃ g1 g2, gp = g1 ++ g2 /\ aL K CL H Z as us g1 /\ aL K CL H Z bs ws g2
 | [], _, [], _, gp, _, r => ⟨[], gp, rfl, .nil, r⟩
 | [], _, _ :: _, _, _, h, _ => by simp at h
 | _ :: _, _, [], _, _, h, _ => by simp at h
 | a :: as, bs, u :: us, ws, gp, h, r => by
   cases r with
   | @cons _ _ _ _ f1 f2 r1 r2 =>
     obtain ⟨g1, g2, e, h1, h2⟩ := aL.split (as := as) (us := us) (by simpa using h) r2
     exact ⟨f1 ++ g1, g2, by rw [e, aed], .cons r1 h1, h2⟩
theorem aL.app {as bs : List T} {us ws : List V} {g1 g2 : List Addr} (h : aL K CL H Z as us g1) (q : aL K CL H Z bs ws g2) : aL K CL H Z (as ++ bs) (us ++ ws) (g1 ++ g2) :=
 aL.ind (P := fun as us g1 => aL K CL H Z (as ++ bs) (us ++ ws) (g1 ++ g2)) q (fun r _ i => by rw [aed]; exact .cons r i) h
theorem aL.rev : ∀ {as : List T} {us : List V} {g : List Addr}, aL K CL H Z as.reverse us.reverse g -> ∃ g', aL K CL H Z as us g' /\ g'.Perm g
 | [], [], g, r => by
   have r' : aL K CL H Z [] [] g := r
   cases r'
   exact ⟨[], .nil, afN _⟩
 | [], u :: us, g, r => by have := r.length; simp at this
 | a :: as, [], g, r => by have := r.length; simp at this
 | a :: as, u :: us, g, r => by
   rw [afq, afq] at r
   have hl := r.length
   obtain ⟨g1, g2, e, r1, r2⟩ := aL.split (by simp at hl ⊢; omega) r
   subst e
   obtain ⟨g', r', p⟩ := aL.rev r1
   cases r2 with
   | @cons _ _ _ _ f1 f2 q1 q2 =>
     cases q2
     refine ⟨f1 ++ g', .cons q1 r', ?_⟩
     rw [aeY]
     exact (aeT f1 p).trans aeP
theorem aL.toF : ∀ {ds : List D} {us : List V} {g : List Addr}, aL K CL H Z (ds.map T.sh) us g -> aE K CL Z ds us /\ g = []
 | [], _, _, r => by
   have r' : aL K CL H Z [] _ _ := r
   cases r'
   exact ⟨.nil, rfl⟩
 | d :: ds, _, _, r => by
   have r' : aL K CL H Z (T.sh d :: ds.map T.sh) _ _ := r
   cases r' with
   | cons r1 r2 =>
     cases r1 with
     | sh h =>
       obtain ⟨q, e⟩ := aL.toF r2
       exact ⟨.cons h q, by rw [e]; rfl⟩
theorem j6 : ∀ (ds : List D), T.fM (ds.map T.sh) = ds
 | [] => rfl
 | d :: ds => by rw [aew, T.fM, j6 ds, T.fh]
end
section
variable {K : PySem.W.Frag} {CL : Str -> Addr} {b : Bx} {H H' Z Z' : Hp} {δ δ' : List (Option T)} {σ σ' : L2.St} {ts tl : List T} {vs us : List V} {t : T} {v : V}
theorem bJ.K3 {p : Addr} (S : bJ K CL b H Z δ σ (tl.reverse ++ ts) (us.reverse ++ vs)) (hl : us.length = tl.length) (hp : H p = none) :
   aD Z (upd Z p (.tup us)) /\ aD H (upd H p (.tup us)) /\ bJ K CL b (upd H p (.tup us)) (upd Z p (.tup us)) δ σ (.tup tl :: ts) (.ref p :: vs) := by
 obtain ⟨fp, gp, e, r, nd, k⟩ := S.rep
 obtain ⟨g1, g2, eg, r1, r2⟩ := aL.split (by simp [hl]) r
 subst eg
 obtain ⟨g', r', pm⟩ := r1.rev
 have zp : Z p = none := S.zh.free hp
 have sz : aD Z (upd Z p (.tup us)) := aD.upd zp
 have sh : aD H (upd H p (.tup us)) := aD.upd hp
 have keep : ∀ a ∈ fp ++ (g1 ++ g2), a ≠ p := fun a ha => by
   have : ∃ o, H a = some o := by
     rcases aen.mp ha with h | h
     . exact e.there a h
     . exact r.there a h
   obtain ⟨o, q⟩ := this
   exact bx q hp
 have RV : (fp ++ (g' ++ g2)).Perm (fp ++ (g1 ++ g2)) := (pm.append_right g2).append_left fp
 have kk : ∀ a ∈ fp ++ (g' ++ g2), a ≠ p := fun a ha => keep a (RV.mem_iff.mp ha)
 refine ⟨sz, sh, ⟨⟨fp, g' ++ g2, e.mono sz (fun a ha => aB (keep a (aei _ ha))), .cons (.tup aQ (r'.mono sz fun a ha => aB (kk a (by simp [ha])))) (r2.mono sz fun a ha => aB (keep a (by simp [ha]))), RV.nodup_iff.mpr nd, fun a ha => ?_⟩, S.bh.trans sh, S.zz.trans sz, fun a o q => ?_, fun a o q z => ?_, fun a o q i => ?_, S.tab⟩⟩
 . exact ⟨by rw [aB (kk a ha)]; exact (k a (RV.mem_iff.mp ha)).1, (k a (RV.mem_iff.mp ha)).2⟩
 . by_cases ha : a = p
   . subst ha; rw [aQ] at q ⊢; exact q
   . rw [aB ha] at q ⊢; exact S.zh a o q
 . by_cases ha : a = p
   . subst ha; exact S.bh.free hp
   . rw [aB ha] at q; exact S.new a o q z
 . by_cases ha : a = p
   . subst ha; rw [aQ] at q ⊢; exact q
   . rw [aB ha] at q ⊢; exact S.tp a o q i
theorem bJ.uC {p : Addr} {g0 : List Addr} (S : bJ K CL b H Z δ σ (tl.reverse ++ ts) (us.reverse ++ vs)) (hl : us.length = tl.length) (hp : H p = none) :
   aD H (upd H p (.lst us)) /\ bJ K CL b (upd H p (.lst us)) Z δ σ (.lst tl :: ts) (.ref p :: vs) := by
 obtain ⟨fp, gp, e, r, nd, k⟩ := S.rep
 obtain ⟨g1, g2, eg, r1, r2⟩ := aL.split (by simp [hl]) r
 subst eg
 obtain ⟨g', r', pm⟩ := r1.rev
 have zp : Z p = none := S.zh.free hp
 have sh : aD H (upd H p (.lst us)) := aD.upd hp
 have keep : ∀ a ∈ fp ++ (g1 ++ g2), a ≠ p := fun a ha => by
   have : ∃ o, H a = some o := by
     rcases aen.mp ha with h | h
     . exact e.there a h
     . exact r.there a h
   obtain ⟨o, q⟩ := this
   exact bx q hp
 have RV : (fp ++ (g' ++ g2)).Perm (fp ++ (g1 ++ g2)) := (pm.append_right g2).append_left fp
 have kk : ∀ a ∈ fp ++ (g' ++ g2), a ≠ p := fun a ha => keep a (RV.mem_iff.mp ha)
 have pm3 : (fp ++ ((p :: g') ++ g2)).Perm (p :: (fp ++ (g' ++ g2))) := by
   rw [aeB]; exact afk
 refine ⟨sh, ⟨⟨fp, (p :: g') ++ g2, e.mono (.refl _) (fun a ha => aB (keep a (aei _ ha))), .cons (.lst aQ (r'.mono (.refl _) fun a ha => aB (kk a (by simp [ha])))) (r2.mono (.refl _) fun a ha => aB (keep a (by simp [ha]))), ?_, fun a ha => ?_⟩, S.bh.trans sh, S.zz, S.zh.trans sh, S.new, fun a o q i => ?_, S.tab⟩⟩
 . refine pm3.nodup_iff.mpr (ae9.mpr ⟨fun h => kk p h rfl, RV.nodup_iff.mpr nd⟩)
 . rcases aek.mp (pm3.mem_iff.mp ha) with h | h
   . subst h; exact ⟨zp, S.bh.free hp⟩
   . exact k a (RV.mem_iff.mp h)
 . by_cases ha : a = p
   . subst ha; rw [aQ] at q; cases q; cases i
   . rw [aB ha] at q; exact S.tp a o q i
end
section
variable {X : Cx} {CL : Str -> Addr} {b : Bx} {δ δ1 δ2 δ3 : List (Option T)} {e e1 e2 e3 : Expr} {es : List Expr} {t t1 t2 : T} {d d1 d2 : D} {tl : List T} {ds : List D} {p q : Bool} {pos : Pos}
theorem eG : EJ X CL b [] δ [] δ := fun H Z σ ts vs Q S k => IZ gH (k [] H Z rfl (.refl _) (.refl _) S)
theorem c5 (h1 : bS X CL b e δ t δ1) (h2 : EJ X CL b es δ1 tl δ2) (hs : starEach (e :: es) X.env = (false, eval e X.env) :: starEach es X.env := by exact bR rfl) : EJ X CL b (e :: es) δ (t :: tl) δ2 := fun H Z σ ts vs Q S k =>
 IZ (cy dB N2 hs) (h1 H Z σ ts vs _ S fun v H1 Z1 z1 k1 S1 => h2 H1 Z1 σ _ _ _ S1 fun us H2 Z2 hl z2 k2 S2 => k (v :: us) H2 Z2 (by simp [hl]) (z1.trans z2) (k1.trans k2) (by
   rw [afq, afq, aed, aed]
   exact S2))
theorem aF : RP X CL b [] δ [] δ := fun H Z σ ts vs Q S k => IZ gH (k [] H Z (.refl _) (.refl _) S .nil)
theorem aj (h1 : cG X CL b e δ d δ1) (h2 : RP X CL b es δ1 ds δ2) (hs : starEach (e :: es) X.env = (false, eval e X.env) :: starEach es X.env := by exact bR rfl) : RP X CL b (e :: es) δ (d :: ds) δ2 := fun H Z σ ts vs Q S k =>
 IZ (cy dB N2 hs) (h1 H Z σ ts vs _ S fun v H1 Z1 z1 k1 S1 r1 => h2 H1 Z1 σ _ _ _ S1 fun us H2 Z2 z2 k2 S2 r2 => k (v :: us) H2 Z2 (z1.trans z2) (k1.trans k2) S2 (.cons (r1.mono k2) r2))
theorem K4 {j : Nat} (h : EJ X CL b es δ tl δ1) (hl : tl.length <= sizeLine) : bS X CL b (.Tuple es j pos) δ (.tup tl) δ1 := fun H Z σ ts vs Q S k =>
 cC (TH N2) (h H Z σ ts vs _ S fun us H1 Z1 hu z1 k1 S1 => ⟨by rw [hu]; exact hl, fun p hp => by
   obtain ⟨a, c, S2⟩ := S1.K3 hu hp
   exact k _ _ _ (z1.trans a) (k1.trans c) S2⟩)
theorem j7 {j : Nat} (h : EJ X CL b es δ (ds.map T.sh) δ1) (hl : ds.length <= sizeLine) : bS X CL b (.Tuple es j pos) δ (.sh (.tup ds)) δ1 := by
 have := AJ (K4 (pos := pos) (j := j) h (by simpa using hl))
 rwa [T.fh, j6] at this
theorem dh (h : EJ X CL b es δ tl δ1) (hl : tl.length <= sizeLine) : bS X CL b (.List es pos) δ (.lst tl) δ1 := fun H Z σ ts vs Q S k =>
 cC (TJ N2) (h H Z σ ts vs _ S fun us H1 Z1 hu z1 k1 S1 => ⟨by rw [hu]; exact hl, fun p hp => by
   obtain ⟨c, S2⟩ := S1.uC (g0 := []) hu hp
   exact k _ _ _ z1 (k1.trans c) S2⟩)
theorem jB (h : bS X CL b e δ (.sh (.bl p)) δ1) (he : ∀ whole, isTrue e X.env whole = (do let v ← whole; standAt e.pos; holding [v] (truthy v)) := by intro _; rfl) : pN X CL b e δ p δ1 := fun H Z σ ts vs Q S k =>
 xN (SM dB he) (h H Z σ ts vs _ S fun v H1 Z1 z1 k1 S1 => ⟨p, by have := S1.view; rw [T.fh] at this; exact this.sc rfl, k H1 Z1 z1 k1 S1.pop⟩)
theorem fP (h : pN X CL b e δ p δ1) : pN X CL b (.UnaryOp .Not e pos) δ (!p) δ1 := fun H Z σ ts vs Q S k => xN (SR RM) (h H Z σ ts vs _ S fun H1 Z1 z1 k1 S1 => k H1 Z1 z1 k1 S1)
noncomputable def Ue (X : Cx) (e : Expr) : TT := fun σ H Q => ∀ (whole : Sem Value) (pins : List (Addr × Obj)) (s : Shared), Inv X pins σ H s -> wpAny (model X.prog X.w) X.A (isTrue e X.env whole) (TP X pins σ Q) X.xe s
theorem pwS {e : Expr} : PW X e (Ue X e) := fun whole pins s _ _ _ I h => h whole pins s I
noncomputable def Ug (X : Cx) (CL : Str -> Addr) (b : Bx) (e : Expr) (δ : List (Option T)) (p : Bool) (δ' : List (Option T)) : Prop :=
 ∀ (H Z : Hp) (σ : L2.St) (ts : List T) (vs : List V) (Q : Bool -> Hp -> Prop), bJ X.K CL b H Z δ σ ts vs -> (∀ H' Z', aD Z Z' -> aD H H' -> bJ X.K CL b H' Z' δ' σ ts vs -> Q p H') -> Ue X e σ H Q
theorem OZ {t : TT} (h : PW X e t) {σ : L2.St} {H : Hp} {Q : Bool -> Hp -> Prop} (q : t σ H Q) : Ue X e σ H Q := fun whole pins s I => h whole pins s σ H Q I q
theorem vV (h : Ug X CL b e δ p δ1) : pN X CL b e δ p δ1 := fun H Z σ ts vs Q S k pins s I => h H Z σ ts vs Q S k _ pins s I
theorem G8 (h : pN X CL b e δ p δ1) : Ug X CL b (.BoolOp .And [e] pos) δ p δ1 := fun H Z σ ts vs Q S k => OZ (Oe RM) (h H Z σ ts vs _ S k)
theorem lG (h : pN X CL b e δ p δ1) : Ug X CL b (.BoolOp .Or [e] pos) δ p δ1 := fun H Z σ ts vs Q S k => OZ (SN RM) (h H Z σ ts vs _ S k)
theorem K5 (h : pN X CL b e δ p δ1) (h2 : p = true -> Ug X CL b (.BoolOp .And (e2 :: es) pos) δ1 q δ1) : Ug X CL b (.BoolOp .And (e :: e2 :: es) pos) δ (p && q) δ1 := fun H Z σ ts vs Q S k =>
 OZ (SQ RM pwS) (h H Z σ ts vs _ S fun H1 Z1 z1 k1 S1 => by
   cases p with
   | true => exact EH (h2 rfl H1 Z1 σ ts vs _ S1 fun H2 Z2 z2 k2 S2 => k H2 Z2 (z1.trans z2) (k1.trans k2) S2)
   | false => exact EG (k H1 Z1 z1 k1 S1))
theorem kI (h : pN X CL b e δ p δ1) (h2 : p = false -> Ug X CL b (.BoolOp .Or (e2 :: es) pos) δ1 q δ1) : Ug X CL b (.BoolOp .Or (e :: e2 :: es) pos) δ (p || q) δ1 := fun H Z σ ts vs Q S k =>
 OZ (Ws RM pwS) (h H Z σ ts vs _ S fun H1 Z1 z1 k1 S1 => by
   cases p with
   | true => exact EH (k H1 Z1 z1 k1 S1)
   | false => exact EG (h2 rfl H1 Z1 σ ts vs _ S1 fun H2 Z2 z2 k2 S2 => k H2 Z2 (z1.trans z2) (k1.trans k2) S2))
theorem oA {op : BoolOp} (h : bS X CL b e δ t δ1) : bS X CL b (.BoolOp op [e] pos) δ t δ1 := fun H Z σ ts vs Q S k => cC (SV dB) (h H Z σ ts vs _ S k)
theorem mG (h : bS X CL b e δ (.sh (.bl p)) δ1) (h2 : p = true -> bS X CL b (.BoolOp .And (e2 :: es) pos) δ1 (.sh (.bl q)) δ1) : bS X CL b (.BoolOp .And (e :: e2 :: es) pos) δ (.sh (.bl (p && q))) δ1 := fun H Z σ ts vs Q S k =>
 cC (SW dB dB) (h H Z σ ts vs _ S fun v H1 Z1 z1 k1 S1 => by
   have hv : v = .bl p := by have := S1.view; rw [T.fh] at this; exact this.sc rfl
   refine ⟨p, hv, ?_⟩
   cases p with
   | true => exact EH (h2 rfl H1 Z1 σ ts vs _ S1.pop fun v H2 Z2 z2 k2 S2 => k v H2 Z2 (z1.trans z2) (k1.trans k2) S2)
   | false => exact EG (k _ H1 Z1 z1 k1 (S1.pop.push (.bl false))))
theorem Xe (h : bS X CL b e δ (.sh (.bl p)) δ1) (h2 : p = false -> bS X CL b (.BoolOp .Or (e2 :: es) pos) δ1 (.sh (.bl q)) δ1) : bS X CL b (.BoolOp .Or (e :: e2 :: es) pos) δ (.sh (.bl (p || q))) δ1 := fun H Z σ ts vs Q S k =>
 cC (Wu dB dB) (h H Z σ ts vs _ S fun v H1 Z1 z1 k1 S1 => by
   have hv : v = .bl p := by have := S1.view; rw [T.fh] at this; exact this.sc rfl
   refine ⟨p, hv, ?_⟩
   cases p with
   | true => exact EH (k _ H1 Z1 z1 k1 (S1.pop.push (.bl true)))
   | false => exact EG (h2 rfl H1 Z1 σ ts vs _ S1.pop fun v H2 Z2 z2 k2 S2 => k v H2 Z2 (z1.trans z2) (k1.trans k2) S2))
theorem K6 (h : pN X CL b e δ p δ1) (h1 : p = true -> bS X CL b e1 δ1 t δ2) (h2 : p = false -> bS X CL b e2 δ1 t δ2) : bS X CL b (.IfExp e e1 e2 pos) δ t δ2 := fun H Z σ ts vs Q S k =>
 cC (Km RM dB dB) (h H Z σ ts vs _ S fun H1 Z1 z1 k1 S1 => by
   cases p with
   | true => exact EH (h1 rfl H1 Z1 σ ts vs _ S1 fun v H2 Z2 z2 k2 S2 => k v H2 Z2 (z1.trans z2) (k1.trans k2) S2)
   | false => exact EG (h2 rfl H1 Z1 σ ts vs _ S1 fun v H2 Z2 z2 k2 S2 => k v H2 Z2 (z1.trans z2) (k1.trans k2) S2))
theorem AK {K : PySem.W.Frag} {Z : Hp} {vs : List V} {k : Int} (r : aE K CL Z ds vs) (h : zL ds k = some d) : ∃ v, zL vs k = some v /\ bq K CL Z d v := by
 unfold zL at h ⊢
 rw [← r.length]
 cases e : IU ds.length k with
 | none => rw [e] at h; cases h
 | some j =>
   rw [e] at h
   exact r.get h
theorem b9 {k : Int} (h1 : cG X CL b e1 δ (.tup ds) δ1) (h2 : cG X CL b e2 δ1 (.int k) δ2) (hk : zL ds k = some d) (hs : rR e2 := by exact fun _ _ => rfl) : cG X CL b (.Subscript e1 e2 pos) δ d δ2 := fun H Z σ ts vs Q S kk =>
 cC (G0 KD dB dB hs) (h1 H Z σ ts vs _ S fun v1 H1 Z1 z1 k1 S1 r1 => h2 H1 Z1 σ ts vs _ S1 fun v2 H2 Z2 z2 k2 S2 r2 => by
   have Xf := r1.mono k2
   cases Xf with
   | tup hq rr =>
     obtain ⟨v, hv, rv⟩ := AK rr hk
     exact ⟨_, _, k, v, rfl, r2.sc rfl, hq, hv, kk v H2 Z2 (z1.trans z2) (k1.trans k2) S2 rv⟩)
theorem bG {k : Int} (h1 : cG X CL b e1 δ (.lst ds) δ1) (h2 : cG X CL b e2 δ1 (.int k) δ2) (hk : zL ds k = some d) (hs : rR e2 := by exact fun _ _ => rfl) : cG X CL b (.Subscript e1 e2 pos) δ d δ2 := fun H Z σ ts vs Q S kk =>
 cC (G0 Oz dB dB hs) (h1 H Z σ ts vs _ S fun v1 H1 Z1 z1 k1 S1 r1 => h2 H1 Z1 σ ts vs _ S1 fun v2 H2 Z2 z2 k2 S2 r2 => by
   have Xf := r1.mono k2
   cases Xf with
   | lst hq rr =>
     obtain ⟨v, hv, rv⟩ := AK rr hk
     exact ⟨_, _, k, v, rfl, r2.sc rfl, hq, hv, kk v H2 Z2 (z1.trans z2) (k1.trans k2) S2 rv⟩)
theorem K7 {k : Int} {x : Str} {c : Nat} (h1 : cG X CL b e1 δ (.str x) δ1) (h2 : cG X CL b e2 δ1 (.int k) δ2) (hl : x.length <= sizeLine) (hk : zL x.cps.toList k = some c) (hs : rR e2 := by exact fun _ _ => rfl) : bS X CL b (.Subscript e1 e2 pos) δ (.sh (.str ⟨#[c]⟩)) δ2 := fun H Z σ ts vs Q S kk =>
 cC (G0 TQ dB dB hs) (h1 H Z σ ts vs _ S fun v1 H1 Z1 z1 k1 S1 r1 => h2 H1 Z1 σ ts vs _ S1 fun v2 H2 Z2 z2 k2 S2 r2 =>
   ⟨x, k, c, r1.sc rfl, r2.sc rfl, hl, hk, kk _ H2 Z2 (z1.trans z2) (k1.trans k2) (S2.push (.str _))⟩)
theorem K8 {k : Int} (h1 : bS X CL b e1 δ (.sh (.tup ds)) δ1) (h2 : cG X CL b e2 δ1 (.int k) δ2) (hk : zL ds k = some d) (hs : rR e2 := by exact fun _ _ => rfl) : bS X CL b (.Subscript e1 e2 pos) δ (.sh d) δ2 := fun H Z σ ts vs Q S kk =>
 cC (G0 KD dB dB hs) (h1 H Z σ ts vs _ S fun v1 H1 Z1 z1 k1 S1 => h2 H1 Z1 σ _ _ _ S1 fun v2 H2 Z2 z2 k2 S2 r2 => by
   obtain ⟨fp, gp, _, r, _, _⟩ := S2.rep
   cases r with
   | cons r _ =>
     cases r with
     | sh r =>
       cases r with
       | tup hq rr =>
         obtain ⟨v, hv, rv⟩ := AK rr hk
         exact ⟨_, _, k, v, rfl, r2.sc rfl, aD.RL S2.zh hq, hv, kk v H2 Z2 (z1.trans z2) (k1.trans k2) (S2.pop.push rv)⟩)
end
section
variable {K : PySem.W.Frag} {CL : Str -> Addr} {b : Bx} {H H' Z Z' : Hp} {δ δ' : List (Option T)} {σ σ' : L2.St} {ts tl : List T} {vs us : List V} {t : T} {v : V}
theorem bJ.xQ : ∀ {ds : List D} {us : List V} {ts : List T} {vs : List V}, aE K CL Z ds us -> bJ K CL b H Z δ σ ts vs -> bJ K CL b H Z δ σ ((ds.map T.sh).reverse ++ ts) (us.reverse ++ vs)
 | _, _, _, _, .nil, S => S
 | _, _, ts, vs, .cons (d := d) (v := v) (ds := ds) (vs := us) r t, S => by
   rw [aew, afq, afq, aed, aed]
   exact bJ.xQ t (S.push r)
theorem bJ.drops (S : bJ K CL b H Z δ σ (tl ++ ts) (us ++ vs)) (hl : us.length = tl.length) : bJ K CL b H Z δ σ ts vs := by
 induction tl generalizing us with
 | nil =>
   cases us with
   | nil => exact S
   | cons _ _ => simp at hl
 | cons t tl ih =>
   cases us with
   | nil => simp at hl
   | cons u us => exact ih S.pop (by simpa using hl)
theorem bJ.O1 {ds : List D} (S : bJ K CL b H Z δ σ ((ds.map T.sh).reverse ++ ts) (us.reverse ++ vs)) (hl : us.length = ds.length) : aE K CL Z ds us := by
 obtain ⟨fp, gp, e, r, nd, k⟩ := S.rep
 obtain ⟨g1, g2, eg, r1, r2⟩ := aL.split (by simp [hl]) r
 obtain ⟨g', r', pm⟩ := r1.rev
 exact r'.toF.1
end
section
variable {X : Cx} {CL : Str -> Addr} {b : Bx} {δ δ1 δ2 δ3 : List (Option T)} {e e1 e2 e3 : Expr} {es : List Expr} {t t1 t2 : T} {d d1 d2 : D} {tl : List T} {ds : List D} {p q : Bool} {pos pp : Pos}
theorem G9 (hm : X.mg "len" = none) (h : cG X CL b e δ (.lst ds) δ1) (hg : Gl X "len" := by rfl) (hs : starEach [e] X.env = (false, eval e X.env) :: starEach [] X.env := by exact bR rfl) (vS : (backTo pos (starEach ([] : List Expr) X.env)).any (·.1) = false := by rfl) : bS X CL b (.Call (.Name "len" pp) [e] [] pos) δ (.sh (.int ds.length)) δ1 := fun H Z σ ts vs Q S k =>
 cC (oj AG hg hm PySem.boot_len (cy dB gH hs) (he := hs)) (h H Z σ ts vs _ S fun v H1 Z1 z1 k1 S1 r => by
   cases r with
   | lst hq rr => exact ⟨_, _, rfl, .inl hq, by rw [← rr.length]; exact k _ H1 Z1 z1 k1 (S1.push (.int _))⟩)
theorem O2 {x : Str} (hm : X.mg "len" = none) (h : cG X CL b e δ (.str x) δ1) (hl : x.length <= sizeLine) (hg : Gl X "len" := by rfl) (hs : starEach [e] X.env = (false, eval e X.env) :: starEach [] X.env := by exact bR rfl) : bS X CL b (.Call (.Name "len" pp) [e] [] pos) δ (.sh (.int x.length)) δ1 := fun H Z σ ts vs Q S k =>
 cC (oj AH hg hm PySem.boot_len (cy dB gH hs) (he := hs)) (h H Z σ ts vs _ S fun v H1 Z1 z1 k1 S1 r => ⟨x, by rw [r.sc rfl], hl, k _ H1 Z1 z1 k1 (S1.push (.int _))⟩)
theorem K9 (hm : X.mg "list" = none) (h : bS X CL b e δ (.sh (.lst ds)) δ1) (hg : Gl X "list" := by rfl) (hv : bootBuiltins "list" = some (.type "list") := by rfl) (hs : starEach [e] X.env = (false, eval e X.env) :: starEach [] X.env := by exact bR rfl) : bS X CL b (.Call (.Name "list" pp) [e] [] pos) δ (.lst (ds.map T.sh)) δ1 := fun H Z σ ts vs Q S k =>
 cC (lR rT hg hm hv (cy dB gH hs) (he := hs)) (h H Z σ ts vs _ S fun v H1 Z1 z1 k1 S1 => by
   obtain ⟨fp, gp, _, r, _, _⟩ := S1.rep
   cases r with
   | cons r _ =>
     cases r with
     | sh r =>
       cases r with
       | lst hq rr =>
         refine ⟨_, _, rfl, .inl (S1.zh.seq hq), fun l hl => ?_⟩
         obtain ⟨c, S2⟩ := (bJ.xQ rr S1.pop).uC (g0 := []) (by simp [rr.length]) hl
         exact k _ _ _ z1 (k1.trans c) S2)
theorem jC (hm : X.mg "list" = none) (h : cG X CL b e δ (.lst ds) δ1) (hi : D.bZ ds = true) (hg : Gl X "list" := by rfl) (hv : bootBuiltins "list" = some (.type "list") := by rfl) (hs : starEach [e] X.env = (false, eval e X.env) :: starEach [] X.env := by exact bR rfl) : bS X CL b (.Call (.Name "list" pp) [e] [] pos) δ (.lst (ds.map T.sh)) δ1 := fun H Z σ ts vs Q S k =>
 cC (lR rT hg hm hv (cy dB gH hs) (he := hs)) (h H Z σ ts vs _ S fun v H1 Z1 z1 k1 S1 r => by
   cases r with
   | lst hq rr =>
     refine ⟨_, _, rfl, .inl hq, fun l hl => ?_⟩
     obtain ⟨c, S2⟩ := (bJ.xQ (aE.nM S1.tp hi rr) S1).uC (g0 := []) (by simp [rr.length]) hl
     exact k _ _ _ z1 (k1.trans c) S2)
noncomputable def lu (K : PySem.W.Frag) (CL : Str -> Addr) {A : Type} (n : Nat) (arg : A -> List D) (Pre : A -> Prop) (res : A -> T) : Sp := fun vs H Q _ =>
 ∃ (W : Hp) (a : A), aD W H /\ (∀ c o, H c = some o -> nV o = true -> W c = some o) /\ aE K CL W (arg a) vs /\ (arg a).length = n /\ Pre a /\ ou CL W ∧
   ∀ v H' W' fp, aD H H' -> aD W W' -> aD W' H' -> (∀ c o, W' c = some o -> W c = none -> H c = none) -> (∀ c o, H' c = some o -> nV o = true -> W' c = some o) →
     cU K CL H' W' (res a) v fp -> fp.Nodup -> (∀ c ∈ fp, W' c = none /\ H c = none) -> Q v H'
section
variable {A : Type} {k n : Nat} {f : Addr} {fd : FuncData} {ps : List Str} {arg : A -> List D} {Pre : A -> Prop} {res : A -> T} {x : Str}
theorem O4 (a : A) (F : bT X.prog X.w X.K X.mg X.base jA k f fd ps (lu X.K CL n arg Pre res)) (hr : gW k X.A) (hm : X.mg x = some (.ref f)) (hk : PySem.W.keepIn X.K (.ref f) = true) (hb : Binds X.K fd ps [])
   (h : RP X CL b (e :: es) δ (arg a) δ1) (hn : (arg a).length = n) (hp : Pre a) (hc : (res a).clean = true) (hg : Gl X x)
   (vR : (x == ("__debug__" : Str)) = false := by decide) (he : starEach (e :: es) X.env = (false, eval e X.env) :: starEach es X.env := by exact bR rfl) (vS : (backTo pos (starEach es X.env)).any (·.1) = false := by rfl) :
   bS X CL b (.Call (.Name x pp) (e :: es) [] pos) δ (res a) δ1 := fun H Z σ ts vs Q S kk =>
 cC (GX F hr hg hm hk hb .nil Di N2 vR he vS) (h H Z σ ts vs _ S fun us H1 Z1 z1 k1 S1 r => by
   rw [aeY]
   refine ⟨H1, a, .refl _, fun _ _ q _ => q, r, hn, hp, S1.OS, fun v H' W' fp hh ww wh nw tp rt nd own => ?_⟩
   obtain ⟨Z', z', S'⟩ := S1.back hh S1.zh ww wh nw tp rt nd own (.inr hc)
   exact kk v H' Z' (z1.trans z') (k1.trans hh) S')
theorem La (a : A) (F : bT X.prog X.w X.K X.mg X.base jA k f fd ps (lu X.K CL n arg Pre res)) (hr : gW k X.A) (hm : X.mg x = some (.ref f)) (hk : PySem.W.keepIn X.K (.ref f) = true) (hb : Binds X.K fd ps [])
   (h : EJ X CL b (e :: es) δ ((arg a).map T.sh) δ1) (hn : (arg a).length = n) (hp : Pre a) (hg : Gl X x)
   (vR : (x == ("__debug__" : Str)) = false := by decide) (he : starEach (e :: es) X.env = (false, eval e X.env) :: starEach es X.env := by exact bR rfl) (vS : (backTo pos (starEach es X.env)).any (·.1) = false := by rfl) :
   bS X CL b (.Call (.Name x pp) (e :: es) [] pos) δ (res a) δ1 := fun H Z σ ts vs Q S kk =>
 cC (GX F hr hg hm hk hb .nil Di N2 vR he vS) (h H Z σ ts vs _ S fun us H1 Z1 hl z1 k1 S1 => by
   rw [aeY]
   have hl' : us.length = (arg a).length := by rw [hl, aea]
   have S2 := S1.drops (by simp [hl'])
   refine ⟨Z1, a, S1.zh, S1.tp, S1.O1 hl', hn, hp, S1.T9, fun v H' W' fp hh ww wh nw tp rt nd own => ?_⟩
   obtain ⟨Z', z', S'⟩ := S2.back hh (.refl _) ww wh nw tp rt nd own (.inl rfl)
   exact kk v H' Z' (z1.trans z') (k1.trans hh) S')
end
variable {D D' : cH} {st : Stmt} {gi Xg : List Stmt}
theorem Meets.to {K : PySem.W.Frag} {Z : Hp} {ts : List T} {vs : List V} {E : Ends} (M : Meets K CL b Z ts vs D E) (h1 : ∀ δ, D'.nx δ -> D.nx δ) (h2 : ∀ t δ, D'.rt t δ -> D.rt t δ) (h3 : ∀ δ, D'.bk δ -> D.bk δ) (h4 : ∀ δ, D'.ct δ -> D.ct δ) : Meets K CL b Z ts vs D' E :=
 ⟨fun _ _ _ _ s S k => M.nx _ _ _ _ s S (h1 _ k), fun _ _ _ _ _ _ s S k => M.rt _ _ _ _ _ _ s S (h2 _ _ k), fun _ _ _ _ s S k => M.bk _ _ _ _ s S (h3 _ k), fun _ _ _ _ s S k => M.ct _ _ _ _ s S (h4 _ k)⟩
theorem az (h : D.nx δ) : gk X CL b [] δ D := fun H Z σ ts vs E S M => Xa Og (M.nx δ σ H Z (.refl _) S h)
theorem eK (h : RQ X CL b st δ { D with nx := fun δ1 => gk X CL b gi δ1 D }) : gk X CL b (st :: gi) δ D := fun H Z σ ts vs E S M =>
 Xa (Kn psS OQ) (h H Z σ ts vs _ S ⟨fun δ' σ' H' Z' s S' k => k H' Z' σ' ts vs E S' (M.mono s), M.rt, M.bk, M.ct⟩)
theorem Uh (h : bS X CL b e δ t δ1) (k : D.rt t δ1) : RQ X CL b (.Return (some e) pos) δ D := fun H Z σ ts vs E S M => xO (SX dB) (h H Z σ ts vs _ S fun v H1 Z1 z1 k1 S1 => M.rt t v H1 Z1 δ1 σ z1 S1 k)
theorem Xh (h : pN X CL b e δ p δ1) (h1 : p = true -> gk X CL b gi δ1 D) (h2 : p = false -> gk X CL b Xg δ1 D) : RQ X CL b (.If e gi Xg pos) δ D := fun H Z σ ts vs E S M =>
 xO (Wx RM OQ OQ) (h H Z σ ts vs _ S fun H1 Z1 z1 k1 S1 => by
   cases p with
   | true => exact EH (h1 rfl H1 Z1 σ ts vs E S1 (M.mono z1))
   | false => exact EG (h2 rfl H1 Z1 σ ts vs E S1 (M.mono z1)))
theorem Lb (i : Nat) {x : Str} {pos' : Pos} (h : bS X CL b e δ t δ1) (k : D.nx (δ1.set i (some t))) (hl : i < δ1.length := by decide) (hN : X.N.Nodup := by assumption) (hi : X.N[i]? = some x := by rfl) (hx : Loc X.env.scope x := by first | exact .inl rfl | exact .inr rfl)
   (hs : swapsWith e (some (.Name x pos')) pos.line X.env = pure false := by rfl) (hf : X.fn x = true \/ X.env.scope.names.lookup x = some .local := by first | exact .inl rfl | exact .inr rfl | assumption) : RQ X CL b (.Assign [.Name x pos'] e pos) δ D := fun H Z σ ts vs E S M =>
 xO (Te hN hi hx dB hs hf) (h H Z σ ts vs _ S fun v H1 Z1 z1 k1 S1 => M.nx _ _ H1 Z1 z1 (S1.set hl) k)
end
noncomputable def entry (N : List Str) (ds : List D) : List (Option T) := ds.map (fun d => some (T.sh d)) ++ List.replicate (N.length - ds.length) none
theorem mH {K : PySem.W.Frag} {CL : Str -> Addr} {H Z : Hp} : ∀ {ds : List D} {vs : List V} (n : Nat), aE K CL Z ds vs -> gI K CL H Z (ds.map (fun d => some (T.sh d)) ++ List.replicate n none) (vs.map some ++ List.replicate n none) []
 | _, _, 0, .nil => .nil
 | _, _, n + 1, .nil => .skip (mH (ds := []) (vs := []) n .nil)
 | _, _, n, .cons r t => .cons (fp := []) (gp := []) (.sh r) (mH n t)
theorem aX {P : Program} {w : World} {K : PySem.W.Frag} {mg : Str -> Option Value} {base : Heap} {CL : Str -> Addr} {x qual : Str} {st : Stmt} {f : Addr} {fd : FuncData} {N ps : List Str} {k : Nat} {A : Type} {arg : A -> List D} {Pre : A -> Prop} {res : A -> T} (F : lN K x qual st f fd) (S : aK N ps (aq st))
   (hb : ∀ (gf : Value) (Ar : Around) (outer : List Env) (s : Shared) (H : Hp) (E : XK) (b : Bx) (a : A), gW k (Ar.deeper (envOfC qual (aq st) s.heap.objs.size f gf)) -> Pre a →
     gk (C9 jA P w K mg base N qual (aq st) f gf Ar outer s H E).V4 CL b (jx st) (entry N (arg a)) { nx := fun _ => res a = .sh .non, rt := fun t _ => t = res a }) :
   bT P w K mg base jA (k + 1) f fd ps (lu K CL ps.length arg Pre res) := by
 refine F.ok S (fun vs H Q E h => ?_) (fun gf Ar outer s H vs Q E hr h => ?_)
 . obtain ⟨W, a, _, _, r, hl, _⟩ := h
   rw [← r.length]; exact hl
 . obtain ⟨W, a, wh, tp, r, hl, hp, tb, kk⟩ := h
   refine ⟨_, OQ, hb gf Ar outer s H E ⟨H, W⟩ a hr hp H W _ [] [] _ ⟨⟨[], [], ?_, .nil, afO, fun a ha => by cases ha⟩, .refl _, .refl _, wh, fun a o q z => ?_, tp, tb⟩ ⟨fun δ' σ' H' Z' s' S' e => ?_, fun t v H' Z' δ' σ' s' S' e => ?_, fun _ _ _ _ _ _ e => e.elim, fun _ _ _ _ _ _ e => e.elim⟩⟩
   . unfold entry L2.start
     rw [← r.length]
     exact mH _ r
   . have q' : W a = some o := q
     have z' : W a = none := z
     rw [q'] at z'; cases z'
   . exact kk .non H' Z' [] S'.bh S'.zz S'.zh S'.new S'.tp (by rw [show res a = .sh .non from e]; exact .sh .non) afO fun a ha => by cases ha
   . have e' : t = res a := e
     subst e'
     obtain ⟨fp, gp, _, r', nd, own⟩ := S'.rep
     cases r' with
     | @cons _ _ _ _ f1 f2 r1 r2 =>
       have h1 := (ae0.mp nd).2.1
       exact kk v H' Z' f1 S'.bh S'.zz S'.zh S'.new S'.tp r1 (ae0.mp h1).1 fun a ha => own a (aeb _ (aei _ ha))
section
variable {prog : Program} {w : World} {A : Around} {R : Result -> Shared -> Prop} {s : Shared}
theorem AO {elt target iter : Expr} {ifs : List Expr} {scope : Scope} {pos : Pos} {it acc : Value} {env : Env} (I : Nat -> Shared -> Prop)
   (turn : ∀ n s, I n s -> wpAny (model prog w) A (pyNext it) (fun r s₁ => match r with
     | none => R (.ok .next) s₁
     | some v => wpAny (model prog w) A (letOwnedTupleGo target it v) (fun _ RW => wpAny (model prog w) A (assign target env v) (fun _ s₂ =>
         wpAny (model prog w) A (forIn ifs true fun c r => if r = true then do let ok ← isTrue c env (eval c env); pure (ForInStep.yield ok) else pure (ForInStep.yield r)) (fun ok s₃ =>
           if ok = true then wpAny (model prog w) A (eval elt env) (fun x s₄ =>
             wpAny (model prog w) A (call (.builtin "list.append") [acc, x]) (fun _ s₅ => ∃ m, m < n /\ I m s₅) (fun _ _ => False) s₄) (fun _ _ => False) s₃
           else ∃ m, m < n /\ I m s₃) (fun _ _ => False) s₂) (fun _ _ => False) RW) (fun _ _ => False) s₁) (fun _ _ => False) s)
   (n : Nat) (h : I n s) :
   codeAny (model prog w) A (.compLoop (.ListComp elt [⟨target, iter, ifs, 0⟩] scope pos) 0 it acc env) R s := by
 refine codeAny_loop rfl I (fun n s hI => ?_) n h
 show wpAny _ A ((compTurn (.ListComp elt [⟨target, iter, ifs, 0⟩] scope pos) 0 it acc env).onRaise (fun x => do noteFrame x env; theTreesLotGoes x)) _ _ s
 refine wpAny_noted ?_
 rw [compTurn_list]
 refine aeC (wpAny_standAt (aeC (afr (turn n s hI) (fun r s₁ h₁ => ?_) fun _ _ h' => h'.elim)))
 cases r with
 | none => exact aeX h₁
 | some v =>
   refine aeC (afr h₁ (fun _ RW Xi => ?_) fun _ _ h' => h'.elim)
   refine aeC (afr Xi (fun _ s₂ h₂ => aeC (afr h₂ (fun ok s₃ h₃ => ?_) fun _ _ h' => h'.elim)) fun _ _ h' => h'.elim)
   cases ok with
   | false => exact aeX ⟨rfl, h₃⟩
   | true =>
     exact aeC (aeC (afr h₃ (fun x s₄ h₄ => aeC (afr h₄ (fun _ s₅ h₅ => aeX (aeX ⟨rfl, h₅⟩)) fun _ _ h' => h'.elim)) fun _ _ h' => h'.elim))
end
noncomputable def iG (env : Env) : List (Str × NameKind) -> List (Str × Addr) -> List (Str × Addr)
 | [], cs => cs
 | (n, k) :: r, cs => iG env r (if k == .free then (n, (env.cells.lookup n).getD 0) :: cs else cs)
theorem zO {scope : Scope} {env : Env} (h : ∀ x ∈ scope.names, x.2 = .free -> ∃ c, env.cells.lookup x.1 = some c) : closureFor scope env = pure (iG env scope.names []) := by
 have go : ∀ (l : List (Str × NameKind)) (cs : List (Str × Addr)), (∀ x ∈ l, x.2 = .free -> ∃ c, env.cells.lookup x.1 = some c) →
     (forIn l cs fun x r => match x with | (name, kind) => if (kind == NameKind.free) = true then do let a ← cellOf env name; pure (ForInStep.yield ((name, a) :: r)) else pure (ForInStep.yield r) : Sem (List (Str × Addr))) = pure (iG env l cs) := by
   intro l
   induction l with
   | nil => intro cs _; rfl
   | cons x r ih =>
     intro cs hx
     obtain ⟨n, k⟩ := x
     rw [List.forIn_cons]
     by_cases hk : k = .free
     . subst hk
       obtain ⟨c, hc⟩ := hx (n, .free) aef rfl
       have e : cellOf env n = pure c := by unfold cellOf; rw [hc]
       simp only [beq_self_eq_true, if_true, e, pure_bind]
       rw [ih _ fun y hy => hx y (aeh _ hy)]
       simp only [iG, beq_self_eq_true, if_true]
       rw [hc]; rfl
     . have hb : (k == NameKind.free) = false := by simpa using hk
       simp only [hb, Bool.false_eq_true, if_false, pure_bind]
       rw [ih _ fun y hy => hx y (aeh _ hy)]
       simp only [iG, hb, Bool.false_eq_true, if_false]
 unfold closureFor
 have := go scope.names [] h
 simp only [bind_pure] at this ⊢
 exact this
theorem qD {env : Env} : ∀ {l : List (Str × NameKind)} {cs : List (Str × Addr)} {y : Str} {c : Addr}, (∀ x ∈ l, x.2 = .free -> ∃ c, env.cells.lookup x.1 = some c) -> (∀ y c, cs.lookup y = some c -> env.cells.lookup y = some c) →
   (iG env l cs).lookup y = some c -> env.cells.lookup y = some c
 | [], cs, y, c, _, h, e => h y c e
 | (n, k) :: r, cs, y, c, hx, h, e => by
   refine qD (l := r) (fun z hz => hx z (aeh _ hz)) (fun z d hz => ?_) e
   by_cases hk : k = .free
   . subst hk
     obtain ⟨c', hc⟩ := hx (n, .free) aef rfl
     simp only [beq_self_eq_true, if_true, hc, Option.getD_some, aeO] at hz
     by_cases hzn : (z == n) = true
     . rw [hzn] at hz
       have : z = n := by simpa using hzn
       subst this
       cases hz
       exact hc
     . have : (z == n) = false := by simpa using hzn
       rw [this] at hz
       exact h z d hz
   . have hb : (k == NameKind.free) = false := by simpa using hk
     rw [hb] at hz
     exact h z d hz
theorem vv {env : Env} {y : Str} : ∀ {l : List (Str × NameKind)} {cs : List (Str × Addr)}, (∃ c, cs.lookup y = some c) -> ∃ c, (iG env l cs).lookup y = some c
 | [], cs, h => h
 | (n, k) :: r, cs, h => by
   refine vv (l := r) ?_
   by_cases hk : (k == NameKind.free) = true
   . rw [aer hk, aeO]
     by_cases hy : (y == n) = true
     . rw [hy]; exact ⟨_, rfl⟩
     . have : (y == n) = false := by simpa using hy
       rw [this]; exact h
   . rw [aeq hk]; exact h
theorem qE {env : Env} {y : Str} : ∀ {l : List (Str × NameKind)} {cs : List (Str × Addr)}, l.lookup y = some .free -> ∃ c, (iG env l cs).lookup y = some c
 | [], _, h => by simp at h
 | (n, k) :: r, cs, h => by
   rw [aeO] at h
   by_cases hy : (y == n) = true
   . rw [hy] at h
     cases h
     refine vv (l := r) ?_
     rw [aer (by rfl), aeO, hy]
     exact ⟨_, rfl⟩
   . have : (y == n) = false := by simpa using hy
     rw [this] at h
     exact qE (l := r) h
noncomputable def di (X : Cx) (scope : Scope) (Nc : List Str) (C : Addr) (s : Shared) (H : Hp) (fp : List Addr) : Cx where
 prog := X.prog
 w := X.w
 K := X.K
 mg := X.mg
 base := X.base
 A := X.A
 N := Nc
 s₀ := s
 H₀ := H
 env := compEnvC scope (iG X.env scope.names []) C X.env
 outer := X.stack
 stack := X.stack
 ex := fp
 fn := fun _ => false
 calm := X.calm
 pn := []
 xe := fun _ _ => False
structure lS (X : Cx) (scope : Scope) (x : Str) (Nc : List Str) (ix : List Nat) : Prop where
 kind : scope.kind = .function
 AQ : ∀ y ∈ scope.names, y.2 ≠ .cell
 nd : Nc.Nodup
 names : ∀ y ∈ scope.names, y.2 = .local -> scope.names.lookup y.1 = some .local
 own : scope.names.lookup x = some .local
 frees : ∀ y ∈ scope.names, y.2 = .free -> scope.names.lookup y.1 = some .free /\ (X.env.kindOf y.1 = some .cell \/ X.env.kindOf y.1 = some .free)
 hd : Nc = x :: ix.filterMap (X.N[·]?)
 Xj : ∀ i ∈ ix, ∃ y, X.N[i]? = some y /\ scope.names.lookup y = some .free
theorem fQ {env : Env} : ∀ {names : List (Str × NameKind)} {x : Str} {k : NameKind}, names.lookup x = some k -> 
   (names.map fun (n, k) => if (k == NameKind.free && env.scope.kind == .function && env.kindOf n == some .cell) then (n, NameKind.cell) else (n, k)).lookup x = some (if (k == NameKind.free && env.scope.kind == .function && env.kindOf x == some .cell) then .cell else k)
 | [], _, _, h => by simp at h
 | (n, k') :: r, x, k, h => by
   have ih := @fQ env r x k
   show List.lookup x ((if (k' == NameKind.free && env.scope.kind == .function && env.kindOf n == some .cell) = true then (n, NameKind.cell) else (n, k')) :: _) = _
   cases hx : x == n with
   | true =>
     simp only [aeO, hx] at h
     cases h
     have e : x = n := by simpa using hx
     subst e
     split <;> simp [aeO]
   | false =>
     simp only [aeO, hx] at h
     split
     . simp only [aeO, hx]; exact ih h
     . simp only [aeO, hx]; exact ih h
theorem j0 {env : Env} : ∀ {names : List (Str × NameKind)} {x : Str}, names.lookup x = none -> 
   (names.map fun (n, k) => if (k == NameKind.free && env.scope.kind == .function && env.kindOf n == some .cell) then (n, NameKind.cell) else (n, k)).lookup x = none
 | [], _, _ => rfl
 | (n, k') :: r, x, h => by
   have ih := @j0 env r x
   show List.lookup x ((if (k' == NameKind.free && env.scope.kind == .function && env.kindOf n == some .cell) = true then (n, NameKind.cell) else (n, k')) :: _) = _
   cases hx : x == n with
   | true => simp only [aeO, hx] at h; cases h
   | false =>
     simp only [aeO, hx] at h
     split
     . simp only [aeO, hx]; exact ih h
     . simp only [aeO, hx]; exact ih h
section
variable {X : Cx} {scope : Scope} {x : Str} {Nc : List Str} {ix : List Nat} {pins : List (Addr × Obj)} {σ : L2.St} {H : Hp} {s : Shared}
theorem I0 {fp : List Addr} {GK : List (Addr × Obj)} {σ' : L2.St} {H' : Hp} {s' : Shared} {V7 : Heap} (I : Inv X pins σ H s) (vq : ∀ b ∈ fp, vQ X pins H b)
   (J : Inv (di X scope Nc s.heap.objs.size s H fp) GK σ' H' s') (hs : Heap.SameBut s.heap.objs.size s'.heap V7) : Inv X pins σ H' { s' with heap := V7 } := by
 have un : Un (J7 X.stack) fp H H' s.heap s'.heap := J.base
 have un2 : Un (J7 X.stack) fp H H' s.heap V7 := by
   have ne : ∀ b o, s.heap.get? b = some o -> b ≠ s.heap.objs.size := fun b o e => aeM (aes e)
   refine ⟨fun b o e n hb hx => (hs.2 b (ne b o e)).trans (un.keep b o e n hb hx), fun b o e n hb hx => ?_, un.free, fun b o e hx => ?_, un.Ao, un.fM, un.Aq⟩
   . obtain ⟨sl, q⟩ := un.slot b o e n hb hx
     exact ⟨sl, (hs.2 b (ne b o e)).trans q⟩
   . obtain ⟨o', q⟩ := un.there b o e hx
     exact ⟨o', (hs.2 b (ne b o e)).trans q⟩
 have nC : H' s.heap.objs.size = none := J.free
 have fN : rN X.prog X.w H' V7 := fun b u e => by
   refine (J.fN b u e).Et (fun c v hc q => (hs.2 c ?_).trans q) (fun _ q => q) fun _ _ q => q
   rintro rfl
   rcases hc with z | z
   . subst z; rw [nC] at e; cases e
   . rw [nC] at z; cases z
 obtain ⟨hh, g, d, t, V6⟩ := s'
 obtain rfl : V6 = s.os := J.os
 show L2.Inv X pins σ H' { s with heap := V7, gens := g, drawn := d, toks := t }
 exact I.call (h' := V7) (g' := g) (d' := d) (t' := t) (ch := fp) un2 fN J.bare fun b hb => ⟨(vq b hb).2.2.2.1, (vq b hb).2.1, (vq b hb).2.2.2.2.1, (vq b hb).2.2.2.2.2⟩
noncomputable def Ui (X : Cx) : List Expr -> TT
 | [] => fun _ H Q => Q true H
 | [c] => OO X c
 | _ => fun _ _ _ => False
theorem Lc {ifs : List Expr} {Q : Bool -> Hp -> Prop} (I : Inv X pins σ H s) (h : Ui X ifs σ H Q) (hx : X.xe = fun _ _ => False) :
   wpAny (model X.prog X.w) X.A (forIn ifs true fun c r => if r = true then do let ok ← isTrue c X.env (eval c X.env); pure (ForInStep.yield ok) else pure (ForInStep.yield r)) (TP X pins σ Q) (fun _ _ => False) s := by
 match ifs, h with
 | [], h => exact wpAny_tests_nil ⟨H, I, h⟩
 | [c], h =>
   have := h pins s I
   rw [hx] at this
   exact wpAny_tests_one this
end
noncomputable def YZ (X : Cx) (CL : Str -> Addr) (b : Bx) (ifs : List Expr) (δ : List (Option T)) (p : Bool) : Prop :=
 match ifs with
 | [] => p = true
 | [c] => pN X CL b c δ p δ
 | _ => False
theorem YZ.sem {X : Cx} {CL : Str -> Addr} {b : Bx} {ifs : List Expr} {δ : List (Option T)} {p : Bool} (h : YZ X CL b ifs δ p) {H Z : Hp} {σ : L2.St} {Q : Bool -> Hp -> Prop} (S : bJ X.K CL b H Z δ σ [] [])
   (k : ∀ H' Z', aD Z Z' -> aD H H' -> bJ X.K CL b H' Z' δ σ [] [] -> Q p H') : Ui X ifs σ H Q := by
 match ifs, h with
 | [], h =>
   have e : p = true := h
   subst e
   exact k H Z (.refl _) (.refl _) S
 | [c], h => exact (show pN X CL b c δ p δ from h) H Z σ [] [] Q S k
theorem lT {ts : List T} : (T.lst ts).clean = T.gJ ts := by rw [T.clean]
theorem xR {g : D -> T} : ∀ {ds : List D}, (∀ d ∈ ds, (g d).clean = true) -> T.gJ (ds.map g) = true
 | [], _ => by rw [List.map_nil, T.gJ]
 | d :: ds, h => by
   rw [aew, T.gJ, h d aef, xR fun e he => h e (aeh _ he)]
   rfl
section
variable {X : Cx} {CL : Str -> Addr} {b : Bx} {H Z W1 : Hp} {δ δc : List (Option T)} {σ : L2.St} {ts : List T} {vs us : List V} {ds : List D} {scope : Scope} {Nc : List Str} {ix : List Nat} {elt : Expr} {ifs : List Expr} {p : D -> Bool} {g : D -> T} {J : It}
end
section
variable {K : PySem.W.Frag} {CL : Str -> Addr} {b : Bx} {H H' Z Z' : Hp} {δ δ' : List (Option T)} {σ σ' : L2.St} {ts tl : List T} {vs us : List V} {t : T} {v : V}
theorem aL.at : ∀ {tl : List T} {us : List V} {fp : List Addr} {j : Nat} {t : T}, aL K CL H Z tl us fp -> tl[j]? = some t -> ∃ v f1 f2 f3, us[j]? = some v /\ fp = f1 ++ (f2 ++ f3) /\ cU K CL H Z t v f2 ∧
   ∀ {H' : Hp} {t' : T} {v' : V} {g : List Addr}, (∀ a ∈ f1 ++ f3, H' a = H a) -> cU K CL H' Z t' v' g -> aL K CL H' Z (tl.set j t') (us.set j v') (f1 ++ (g ++ f3))
 | _, _, _, _, _, .nil, e => by simp at e
 | _, _, _, 0, _, .cons (fp := fp) (gp := gp) r q, e => by
   simp at e
   subst e
   exact ⟨_, [], fp, gp, rfl, rfl, r, fun {H' t' v' g} k r' => aL.cons (fp := g) (gp := gp) r' (aL.mono (fp := gp) (.refl _) (fun a ha => k a (by simpa using ha)) q)⟩
 | _, _, _, j + 1, t, .cons (fp := fp) (gp := gp) r q, e => by
   obtain ⟨v, f1, f2, f3, h1, h2, h3, h4⟩ := aL.at (j := j) (t := t) q (by simpa using e)
   refine ⟨v, fp ++ f1, f2, f3, by simpa using h1, by rw [h2, List.append_assoc], h3, fun k r' => ?_⟩
   rw [aed]
   exact .cons (r.mono (.refl _) fun a ha => k a (by simp [ha])) (h4 (fun a ha => k a (by rw [aed]; exact aeb _ ha)) r')
theorem rW {α : Type} {l : List α} {i : Nat} {x : α} (h : l[i]? = some x) : l.set i x = l := by
 apply List.ext_getElem?
 intro j
 rw [List.getElem?_set]
 split
 . rename_i e; subst e
   split
   . exact h.symm
   . rename_i h2; rw [List.getElem?_eq_none (by omega)]
 . rfl
theorem bJ.write {a : Addr} {xs : List V} {f1 f2 f3 g gp Uj : List Addr} {δ2 : List (Option T)} (S : bJ K CL b H Z δ σ ts vs) (nd : ((f1 ++ (f2 ++ f3)) ++ gp).Nodup) (own : ∀ c ∈ (f1 ++ (f2 ++ f3)) ++ gp, Z c = none /\ b.B c = none) (ha : a ∈ f2)
   (hH : ∃ o, H a = some o) (e' : gI K CL (upd H a (.lst xs)) Z δ2 σ (f1 ++ (g ++ f3))) (r' : aL K CL (upd H a (.lst xs)) Z tl us Uj) (pm : ((f1 ++ (g ++ f3)) ++ Uj).Nodup) (sub : ∀ c ∈ (f1 ++ (g ++ f3)) ++ Uj, c ∈ (f1 ++ (f2 ++ f3)) ++ gp) :
   bJ K CL b (upd H a (.lst xs)) Z δ2 σ tl us := by
 have oa := own a (by simp [ha])
 refine ⟨⟨_, _, e', r', pm, fun c hc => own c (sub c hc)⟩, fun c o q => ?_, S.zz, fun c o q => ?_, S.new, fun c o q i => ?_, S.tab⟩
 . rw [aB (bx q oa.2)]; exact S.bh c o q
 . rw [aB (bx q oa.1)]; exact S.zh c o q
 . by_cases hc : c = a
   . subst hc; rw [aQ] at q; cases q; cases i
   . rw [aB hc] at q; exact S.tp c o q i
theorem bJ.append {i : Nat} (S : bJ K CL b H Z δ σ (t :: ts) (v :: vs)) (hi : δ[i]? = some (some (.lst tl))) :
   ∃ a us, σ[i]? = some (some (.ref a)) /\ H a = some (.lst us) /\ us.length = tl.length /\ bJ K CL b (upd H a (.lst (us ++ [v]))) Z (δ.set i (some (.lst (tl ++ [t])))) σ ts vs := by
 obtain ⟨fp, gp, e, r, nd, k⟩ := S.rep
 obtain ⟨v0, f1, f2, f3, hv, vq, rt, put, _⟩ := e.get hi
 subst vq
 cases rt with
 | @lst a us _ g ha rs =>
   cases r with
   | @cons _ _ _ _ ft gr q1 q2 =>
     have ne : ∀ c ∈ (f1 ++ (g ++ f3)) ++ (ft ++ gr), c ≠ a := fun c hc e => by
       subst e
       have hp : ((f1 ++ ((c :: g) ++ f3)) ++ (ft ++ gr)).Perm (c :: ((f1 ++ (g ++ f3)) ++ (ft ++ gr))) := by
         rw [aeB, ← aeB]
         exact (afk.append_right _)
       exact (ae9.mp (hp.nodup_iff.mp nd)).1 hc
     refine ⟨a, us, hv, ha, rs.length.symm, ?_⟩
     have r1 : cU K CL (upd H a (.lst (us ++ [v]))) Z (.lst (tl ++ [t])) (.ref a) (a :: (g ++ (ft ++ []))) :=
       .lst aQ (aL.app (rs.mono (.refl _) fun c hc => aB (ne c (by simp [hc]))) (.cons (q1.mono (.refl _) fun c hc => aB (ne c (by simp [hc]))) .nil))
     have e2 := put (H' := upd H a (.lst (us ++ [v]))) (.refl _) (fun c hc => aB (ne c (by
       rcases aen.mp hc with h | h
       . simp [h]
       . simp [h]))) r1
     rw [rW hv] at e2
     have hp : ((f1 ++ ((a :: (g ++ (ft ++ []))) ++ f3)) ++ gr).Perm ((f1 ++ ((a :: g) ++ f3)) ++ (ft ++ gr)) := by
       simp only [aeY, aeB, aed]
       refine aeT f1 (List.Perm.cons a (aeT g ?_))
       rw [← aed, ← aed]
       exact aeP.append_right gr
     exact S.write nd k (aef) ⟨_, ha⟩ e2 (q2.mono (.refl _) fun c hc => aB (ne c (by simp [hc]))) (hp.nodup_iff.mpr nd) fun c hc => hp.mem_iff.mp hc
theorem bJ.setAt {i j : Nat} (S : bJ K CL b H Z δ σ (t :: ts) (v :: vs)) (hi : δ[i]? = some (some (.lst tl))) (hj : j < tl.length) :
   ∃ a us, σ[i]? = some (some (.ref a)) /\ H a = some (.lst us) /\ us.length = tl.length /\ bJ K CL b (upd H a (.lst (us.set j v))) Z (δ.set i (some (.lst (tl.set j t)))) σ ts vs := by
 obtain ⟨fp, gp, e, r, nd, k⟩ := S.rep
 obtain ⟨v0, f1, f2, f3, hv, vq, rt, put, _⟩ := e.get hi
 subst vq
 cases rt with
 | @lst a us _ g ha rs =>
   cases r with
   | @cons _ _ _ _ ft gr q1 q2 =>
     have ne : ∀ c ∈ (f1 ++ (g ++ f3)) ++ (ft ++ gr), c ≠ a := fun c hc e => by
       subst e
       have hp : ((f1 ++ ((c :: g) ++ f3)) ++ (ft ++ gr)).Perm (c :: ((f1 ++ (g ++ f3)) ++ (ft ++ gr))) := by
         rw [aeB, ← aeB]
         exact (afk.append_right _)
       exact (ae9.mp (hp.nodup_iff.mp nd)).1 hc
     refine ⟨a, us, hv, ha, rs.length.symm, ?_⟩
     obtain ⟨vj, g1, g2, g3, _, hg, _, set⟩ := rs.at (aeo hj)
     subst hg
     have r1 : cU K CL (upd H a (.lst (us.set j v))) Z (.lst (tl.set j t)) (.ref a) (a :: (g1 ++ (ft ++ g3))) :=
       .lst aQ (set (fun c hc => aB (ne c (by
         rcases aen.mp hc with h | h
         . simp [h]
         . simp [h]))) (q1.mono (.refl _) fun c hc => aB (ne c (by simp [hc]))))
     have e2 := put (H' := upd H a (.lst (us.set j v))) (.refl _) (fun c hc => aB (ne c (by
       rcases aen.mp hc with h | h
       . simp [h]
       . simp [h]))) r1
     rw [rW hv] at e2
     have hp : ((f1 ++ ((a :: (g1 ++ (ft ++ g3))) ++ f3)) ++ gr).Perm ((f1 ++ ((a :: (g1 ++ g3)) ++ f3)) ++ (ft ++ gr)) := by
       simp only [aeB, aed]
       refine aeT f1 (List.Perm.cons a (aeT g1 ?_))
       have := (aeP (l₁ := ft) (l₂ := g3 ++ f3)).append_right gr
       simp only [aed] at this
       exact this
     have sb : ((f1 ++ ((a :: (g1 ++ g3)) ++ f3)) ++ (ft ++ gr)).Sublist ((f1 ++ ((a :: (g1 ++ (g2 ++ g3))) ++ f3)) ++ (ft ++ gr)) := by
       refine aeL (aeL (aeG _) (aeL (List.Sublist.cons₂ a ?_) (aeG _))) (aeG _)
       exact aeL (aeG _) (ae5 _ _)
     exact S.write nd k (aef) ⟨_, ha⟩ e2 (q2.mono (.refl _) fun c hc => aB (ne c (by simp [hc]))) (hp.nodup_iff.mpr (nd.sublist sb)) fun c hc => sb.subset (hp.mem_iff.mp hc)
end
section
variable {X : Cx} {CL : Str -> Addr} {b : Bx} {δ δ1 δ2 : List (Option T)} {e e2 : Expr} {t : T} {tl N3 tt tt0 : List T} {D : cH} {pos pp pa pb : Pos}
theorem Uk (i : Nat) {x : Str} (h0 : δ[i]? = some (some (.lst N3))) (h : bS X CL b e δ t δ1) (h1 : δ1[i]? = some (some (.lst tl))) (hl : tl.length < sizeLine) (k : D.nx (δ1.set i (some (.lst (tl ++ [t])))))
   (hi : X.N[i]? = some x := by rfl) (hv : V3 X.env.scope x := by first | exact Or.inl rfl | exact Or.inr (Or.inl rfl) | exact Or.inr (Or.inr rfl)) (hd : (x == ("__debug__" : Str)) = false := by decide) (n8 : (x == ("__classdict__" : Str)) = false := by decide)
   (Dg : attributeBase (.Name x pp) "append" X.env (eval (.Name x pp) X.env) = eval (.Name x pp) X.env := by rfl)
   (KJ : ((backTo pb (starEach [e] X.env)).all (fun x => !x.1) && (backToKw pb (keywordEach [] X.env)).all (fun x => x.1.isSome) && decide ([e].length + ([] : List Keyword).length + (if ([] : List Keyword).isEmpty then 0 else 1) < 30)) = true := by rfl)
   (hline : (pa.endLine == pb.line) = true := by rfl) (hs : starEach [e] X.env = (false, eval e X.env) :: starEach [] X.env := by exact bR rfl) (Ja : swapsWith (.Call (.Attribute (.Name x pp) "append" pa) [e] [] pb) none pos.line X.env = pure false := by rfl) :
   RQ X CL b (.Expr (.Call (.Attribute (.Name x pp) "append" pa) [e] [] pb) pos) δ D := fun H Z σ ts vs E S M =>
 xO (Oh (W3 PySem.F.plainAttrs_list PySem.F.slot_list_append PySem.F.type_list_append z0 (mE hi hv hd n8) (cy dB gH hs) Dg KJ hline hs rfl) Ja) (by
   obtain ⟨v0, e0, r0⟩ := S.look h0
   refine ⟨v0, e0, ?_, ?_⟩
   . rw [T.fh] at r0
     cases r0 with
     | lst hq _ => exact .inl ⟨rfl, _, hq⟩
   . refine h H Z σ ts vs _ S fun v H1 Z1 z1 k1 S1 => ?_
     obtain ⟨a, us, ea, ha, hu, S2⟩ := S1.append h1
     rw [e0] at ea
     cases ea
     exact ⟨a, us, v, rfl, rfl, ha, by rw [hu]; exact hl, M.nx _ σ _ Z1 z1 S2 k⟩)
end
noncomputable def Xk : Option (Option T) -> Option T
 | some (some t) => some (.sh t.fh)
 | _ => none
noncomputable def shO : Option (Option T) -> Option T
 | some (some (T.sh d)) => some (.sh d)
 | _ => none
noncomputable def Dk (δ : List (Option T)) (ix : List Nat) : List (Option T) := ix.map fun i => Xk δ[i]?
noncomputable def Dl (δ : List (Option T)) (ix : List Nat) : List (Option T) := ix.map fun i => shO δ[i]?
section
variable {K : PySem.W.Frag} {CL : Str -> Addr} {b : Bx} {H Z : Hp} {δ : List (Option T)} {σ : L2.St} {ts : List T} {vs : List V}
theorem Dm (S : bJ K CL b H Z δ σ ts vs) : ∀ (ix : List Nat) (H' : Hp), gI K CL H' H (Dk δ ix) (ix.map fun i => (σ[i]?).getD none) []
 | [], _ => .nil
 | i :: r, H' => by
   have ih := Dm S r H'
   show gI K CL H' H (Xk δ[i]? :: Dk δ r) (((σ[i]?).getD none) :: r.map fun i => (σ[i]?).getD none) []
   cases e : δ[i]? with
   | none => exact .skip ih
   | some o =>
     cases o with
     | none => exact .skip ih
     | some t =>
       obtain ⟨v, hv, rv⟩ := S.look e
       rw [hv]
       exact .cons (fp := []) (gp := []) (.sh rv) ih
theorem Dn (S : bJ K CL b H Z δ σ ts vs) : ∀ (ix : List Nat) (H' : Hp), gI K CL H' Z (Dl δ ix) (ix.map fun i => (σ[i]?).getD none) []
 | [], _ => .nil
 | i :: r, H' => by
   have ih := Dn S r H'
   show gI K CL H' Z (shO δ[i]? :: Dl δ r) (((σ[i]?).getD none) :: r.map fun i => (σ[i]?).getD none) []
   cases e : δ[i]? with
   | none => exact .skip ih
   | some o =>
     cases o with
     | none => exact .skip ih
     | some t =>
       cases t with
       | sh d =>
         obtain ⟨v, hv, rv⟩ := S.RN e
         rw [hv]
         exact .cons (fp := []) (gp := []) (.sh rv) ih
       | tup _ => exact .skip ih
       | lst _ => exact .skip ih
       | ins _ _ => exact .skip ih
       | pM _ => exact .skip ih
       | dct _ => exact .skip ih
       | pin _ _ => exact .skip ih
end
section
variable {X : Cx} {CL : Str -> Addr} {b : Bx} {δ δ1 : List (Option T)} {scope : Scope} {x : Str} {Nc : List Str} {ix : List Nat} {elt iter : Expr} {ifs : List Expr} {px pos : Pos} {ds : List D}
structure Comes (X : Cx) (CL : Str -> Addr) (b : Bx) (δ1 : List (Option T)) (σ : L2.St) (ts : List T) (vs : List V) (Z H : Hp) (ds : List D) (J : It) (H1 : Hp) : Prop where
 ex : ∃ Z1 us, aD Z Z1 /\ aD H H1 /\ bJ X.K CL b H1 Z1 δ1 σ ts vs /\ aE X.K CL Z1 ds us /\ (∀ i H2, aD Z1 H2 -> i < ds.length -> J.go i H2) ∧
   (∀ i H2 x H', aD Z1 H2 -> i < ds.length -> J.Ry i H2 x H' -> H' = H2 /\ us[i]? = some x) /\ (∀ H2, aD Z1 H2 -> J.stop ds.length H2)
noncomputable def N4 (X : Cx) (CL : Str -> Addr) (b : Bx) (tg e : Expr) (δ : List (Option T)) (ds : List D) (δ1 : List (Option T)) : Prop :=
 ∃ wi, PI X tg e wi /\ ∀ (H Z : Hp) (σ : L2.St) (ts : List T) (vs : List V) (R : It -> Hp -> Prop), bJ X.K CL b H Z δ σ ts vs -> (∀ J H1, Comes X CL b δ1 σ ts vs Z H ds J H1 -> R J H1) -> wi σ H R
theorem mJ {tg : Expr} (h : bS X CL b iter δ (.sh (.lst ds)) δ1) : N4 X CL b tg iter δ ds δ1 := by
 refine ⟨_, GO dB, fun H Z σ ts vs R S k => h H Z σ ts vs _ S fun v H1 Z1 z1 k1 S1 => ?_⟩
 obtain ⟨fp, gp, _, r, _, _⟩ := S1.rep
 cases r with
 | cons r _ =>
   cases r with
   | sh r =>
     cases r with
     | @lst a us _ hq rr =>
       refine ⟨a, rfl, ⟨us, S1.zh.seq hq⟩, k _ _ ⟨Z1, us, z1, k1, S1.pop, rr, fun i H2 s hi => ?_, fun i H2 y H' s hi hy => ⟨hy.1, hy.2 us (s.seq hq)⟩, fun H2 s => ⟨us, s.seq hq, by rw [rr.length]; exact ael _⟩⟩⟩
       have N5 : i < us.length := by rw [← rr.length]; exact hi
       exact ⟨us, us[i], s.seq hq, by simp [N5]⟩
theorem Ld {tg : Expr} (h : bS X CL b iter δ (.sh (.tup ds)) δ1) : N4 X CL b tg iter δ ds δ1 := by
 refine ⟨_, Tg dB, fun H Z σ ts vs R S k => h H Z σ ts vs _ S fun v H1 Z1 z1 k1 S1 => ?_⟩
 obtain ⟨fp, gp, _, r, _, _⟩ := S1.rep
 cases r with
 | cons r _ =>
   cases r with
   | sh r =>
     cases r with
     | @tup a us _ hq rr =>
       refine ⟨a, rfl, ⟨us, aD.RL S1.zh hq⟩, k _ _ ⟨Z1, us, z1, k1, S1.pop, rr, fun i H2 s hi => ?_, fun i H2 y H' s hi hy => ⟨hy.1, hy.2 us (aD.RL s hq)⟩, fun H2 s => ⟨us, aD.RL s hq, by rw [rr.length]; exact ael _⟩⟩⟩
       have N5 : i < us.length := by rw [← rr.length]; exact hi
       exact ⟨us, us[i], aD.RL s hq, by simp [N5]⟩
noncomputable def bP (lo : Int) (n : Nat) : List D := (List.range n).map fun (i : Nat) => D.int (lo + i)
theorem Dp {K : PySem.W.Frag} {Z : Hp} (lo : Int) (n : Nat) : aE K CL Z (bP lo n) ((List.range n).map fun (i : Nat) => V.int (lo + i)) := by
 unfold bP
 generalize List.range n = l
 induction l with
 | nil => exact .nil
 | cons i r ih => exact .cons (.int _) ih
theorem fS {tg : Expr} {pr pc : Pos} {n : Int} (hm : X.mg "range" = none) (h : cG X CL b iter δ (.int n) δ1) (hn : -(2 ^ 62) <= n /\ n < 2 ^ 62) (hg : Gl X "range") (Oj : starEach [iter] X.env = [(false, eval iter X.env)] := by rfl) (Ul : starEach [iter] X.env = (false, eval iter X.env) :: starEach [] X.env := by exact bR rfl) :
   N4 X CL b tg (.Call (.Name "range" pr) [iter] [] pc) δ (bP 0 n.toNat) δ1 := by
 refine ⟨_, IC hg hm (cy dB gH Ul) Oj, fun H Z σ ts vs R S k => h H Z σ ts vs _ S fun v H1 Z1 z1 k1 S1 r => ⟨n, by rw [r.sc rfl], hn.1, hn.2, k _ _ ⟨Z1, _, z1, k1, S1, Dp 0 n.toNat, fun i H2 s hi => ?_, fun i H2 y H' s hi hy => ?_, fun H2 s => ?_⟩⟩⟩
 . show i < n.toNat
   have : (bP 0 n.toNat).length = n.toNat := by simp [bP]
   omega
 . have N5 : i < n.toNat := by simpa [bP] using hi
   refine ⟨hy.1, ?_⟩
   rw [aeS, afj N5, hy.2]
   rfl
 . show n.toNat <= (bP 0 n.toNat).length
   simp [bP]
theorem z8 {tg : Expr} {pr pc : Pos} {e1 e2 : Expr} {δ2 : List (Option T)} {m n : Int} (hm : X.mg "range" = none) (h1 : cG X CL b e1 δ (.int m) δ1) (h2 : cG X CL b e2 δ1 (.int n) δ2) (hn : -(2 ^ 62) <= m /\ m < 2 ^ 62 /\ -(2 ^ 62) <= n /\ n < 2 ^ 62) (hg : Gl X "range")
   (Oj : starEach [e1, e2] X.env = [(false, eval e1 X.env), (false, eval e2 X.env)] := by rfl) (Ul : starEach [e2] X.env = [(false, eval e2 X.env)] := by rfl) (aah : starEach [e1, e2] X.env = (false, eval e1 X.env) :: starEach [e2] X.env := by rfl) (aai : starEach [e2] X.env = (false, eval e2 X.env) :: starEach [] X.env := by rfl) :
   N4 X CL b tg (.Call (.Name "range" pr) [e1, e2] [] pc) δ (bP m (n - m).toNat) δ2 := by
 refine ⟨_, IE hg hm (cy dB (cy dB gH aai) aah) Oj Ul, fun H Z σ ts vs R S k => h1 H Z σ ts vs _ S fun v H1 Z1 z1 k1 S1 r => h2 H1 Z1 σ ts vs _ S1 fun v2 H2 Z2 z2 k2 S2 r2 => ⟨m, n, by rw [r.sc rfl, r2.sc rfl], hn, k _ _ ⟨Z2, _, z1.trans z2, k1.trans k2, S2, Dp m (n - m).toNat, fun i H2 s hi => ?_, fun i H2 y H' s hi hy => ?_, fun H2 s => ?_⟩⟩⟩
 . show i < (n - m).toNat
   have : (bP m (n - m).toNat).length = (n - m).toNat := by simp [bP]
   omega
 . have N5 : i < (n - m).toNat := by simpa [bP] using hi
   refine ⟨hy.1, ?_⟩
   rw [aeS, afj N5, hy.2]
   rfl
 . show (n - m).toNat <= (bP m (n - m).toNat).length
   simp [bP]
theorem Um {D : cH} {gi : List Stmt} (i : Nat) {pos' : Pos} (P : Nat -> List (Option T) -> Prop) (h : N4 X CL b (.Name x pos') iter δ ds δ1) (h0 : P 0 δ1) (hl : ∀ j δ, P j δ -> i < δ.length)
   (hs : ∀ j d δ, ds[j]? = some d -> P j δ -> gk X CL b gi (δ.set i (some (.sh d))) { nx := P (j + 1), rt := D.rt, bk := D.nx, ct := P (j + 1) }) (hd : ∀ δ, P ds.length δ -> D.nx δ)
   (hp : PassesOwn (model X.prog X.w) X.A X.env X.xe) (hc : X.calm = true) (hN : X.N.Nodup) (hi : X.N[i]? = some x) (hx : Loc X.env.scope x) (hf : X.fn x = true \/ X.env.scope.names.lookup x = some .local) (hq : ∀ x, foldedSetIterable iter X.env x = pure x := by intro _; rfl) :
   RQ X CL b (.For (.Name x pos') iter gi [] pos) δ D := fun H Z σ ts vs E S M => by
 obtain ⟨wi, pi, hw⟩ := h
 refine xO (Ex hp hc pi (pI hN hi hx hf) OQ hq) (hw H Z σ ts vs _ S fun J H1 zz => ?_)
 obtain ⟨Z1, us, z1, k1, S1, rr, go, yl, st⟩ := zz
 refine ⟨fun j m σ H2 => m = ds.length - j /\ j <= ds.length /\ ∃ Z2 δ2, aD Z1 Z2 /\ bJ X.K CL b H2 Z2 δ2 σ ts vs /\ P j δ2, ⟨_, rfl, aey _, Z1, δ1, .refl _, S1, h0⟩, ?_⟩
 rintro j m σ H2 ⟨rfl, hj, Z2, δ2, s, S2, p2⟩
 by_cases z9 : j < ds.length
 . refine .inr ⟨go j H2 (s.trans S2.zh) z9, fun σ' H' => ∃ Z2 δ2, aD Z1 Z2 /\ bJ X.K CL b H' Z2 δ2 σ' ts vs /\ P (j + 1) δ2, fun σ' H' h => ⟨ds.length - (j + 1), by omega, rfl, z9, h⟩, fun y H' hy => ?_⟩
   obtain ⟨e, hu⟩ := yl j H2 y H' (s.trans S2.zh) z9 hy
   subst e
   obtain ⟨d, N1, rd⟩ := rr.OL hu
   have S3 := (S2.push (rd.mono s)).set (hl j δ2 p2)
   exact hs j d δ2 N1 p2 _ Z2 _ ts vs _ S3 ⟨fun δ' σ' H' Z' s' S' k => ⟨Z', δ', s.trans s', S', k⟩, fun t v H' Z' δ' σ' s' S' k => M.rt t v H' Z' δ' σ' (z1.trans (s.trans s')) S' k, fun δ' σ' H' Z' s' S' k => M.nx δ' σ' H' Z' (z1.trans (s.trans s')) S' k, fun δ' σ' H' Z' s' S' k => ⟨Z', δ', s.trans s', S', k⟩⟩
 . have e : j = ds.length := by omega
   subst e
   exact .inl ⟨st H2 (s.trans S2.zh), M.nx δ2 σ H2 Z2 (z1.trans s) S2 (hd δ2 p2)⟩
noncomputable def Block (X : Cx) (CL : Str -> Addr) (scope : Scope) (Nc : List Str) (ifs : List Expr) (elt : Expr) (δc : List (Option T)) (ds : List D) (p : D -> Bool) (g : D -> T) : Prop :=
 ∀ C s0 H0 f0 b' d, d ∈ ds -> YZ (di X scope Nc C s0 H0 f0) CL b' ifs (some (.sh d) :: δc) (p d) /\ (p d = true -> bS (di X scope Nc C s0 H0 f0) CL b' elt (some (.sh d) :: δc) (g d) (some (.sh d) :: δc))
variable {p : D -> Bool} {g : D -> T} {δc : List (Option T)}
end
section
variable {X : Cx} {CL : Str -> Addr} {b : Bx} {δ δ1 : List (Option T)} {scope : Scope} {x : Str} {Nc : List Str} {ix : List Nat} {elt iter : Expr} {ifs : List Expr} {px pos : Pos} {ds : List D} {p : D -> Bool} {g : D -> T} {δc : List (Option T)}
noncomputable def isD : L3.D -> String -> Option Bool
 | .non, n => if n = "int" \/ n = "str" \/ n = "list" \/ n = "tuple" \/ n = "bool" \/ n = "dict" then some false else none
 | .bl _, n => if n = "int" \/ n = "bool" then some true else if n = "str" \/ n = "list" \/ n = "tuple" \/ n = "dict" then some false else none
 | .int _, n => if n = "int" then some true else if n = "str" \/ n = "list" \/ n = "tuple" \/ n = "bool" \/ n = "dict" then some false else none
 | .str _, n => if n = "str" then some true else if n = "int" \/ n = "list" \/ n = "tuple" \/ n = "bool" \/ n = "dict" then some false else none
 | .lst _, n => if n = "list" then some true else if n = "int" \/ n = "str" \/ n = "tuple" \/ n = "bool" \/ n = "dict" then some false else none
 | .tup _, n => if n = "tuple" then some true else if n = "int" \/ n = "str" \/ n = "list" \/ n = "bool" \/ n = "dict" then some false else none
 | _, _ => none
noncomputable def Uo (t n : String) : Option Bool := if (Value.type t == Value.type n) = true then some true else if PySem.W.kitMeta n = true then (fastBuiltinMro t).map (·.contains (.type n)) else none
theorem lU {K : PySem.W.Frag} {t n : String} : PySem.W.kitOne K (.type t) (.type n) = Uo t n := rfl
theorem Le : (["NoneType", "bool", "int", "str", "list", "tuple"].all fun t => ["int", "str", "list", "tuple", "bool", "dict"].all fun n => Uo t n == some (t == n || (t == "bool" && n == "int"))) = true := by decide +kernel
theorem pO {t n : String} (ht : t ∈ ["NoneType", "bool", "int", "str", "list", "tuple"]) (hn : n ∈ ["int", "str", "list", "tuple", "bool", "dict"]) : Uo t n = some (t == n || (t == "bool" && n == "int")) := by
 have := Le
 rw [ae6] at this
 have h := this t ht
 rw [ae6] at h
 simpa using h n hn
noncomputable def tyD : L3.D -> Option String
 | .non => some "NoneType"
 | .bl _ => some "bool"
 | .int _ => some "int"
 | .str _ => some "str"
 | .lst _ => some "list"
 | .tup _ => some "tuple"
 | _ => none
theorem Jb : oh X (.builtin "isinstance") (fun xs H Q => ∃ y n d t, xs = [y, .ty n] /\ bq X.K CL H d y /\ tyD d = some t /\ n ∈ ["int", "str", "list", "tuple", "bool", "dict"] /\ Q (.bl (t == n || (t == "bool" && n == "int"))) H) := by
 intro pins s σ H xs us Q I r h
 obtain ⟨y, n, d, t, rfl, rd, ht, hn, q⟩ := h
 obtain ⟨u, u2, rfl, ru, ru2⟩ := r.two
 cases (show u2 = Value.type n from ru2)
 have fin : ∀ tk, EP X pins σ Q (.bool (t == n || (t == "bool" && n == "int"))) { s with toks := tk } := fun tk => ⟨.bl _, H, I.tok tk, rfl, q⟩
 cases rd with
 | non => cases ht; cases (show u = Value.none from ru); exact afB PySem.W.kitx_none I.CP True.intro (lU.trans (pO (by decide) hn)) (fun z => nomatch z) fin
 | bl c => cases ht; cases (show u = Value.bool c from ru); exact afB PySem.W.kitx_bool I.CP True.intro (lU.trans (pO (by decide) hn)) (fun z => nomatch z) fin
 | int c => cases ht; obtain ⟨tt, e⟩ := (show ∃ t, u = Value.int c t from ru); cases e; exact afB PySem.W.kitx_int I.CP True.intro (lU.trans (pO (by decide) hn)) (fun z => nomatch z) fin
 | str c => cases ht; obtain ⟨tt, e⟩ := (show ∃ t, u = Value.str c t from ru); cases e; exact afB PySem.W.kitx_str I.CP True.intro (lU.trans (pO (by decide) hn)) (fun z => nomatch z) fin
 | @lst a ws _ hq rr =>
   cases ht
   cases (show u = Value.ref a from ru)
   obtain ⟨its, _, pl, _⟩ := I.list hq
   obtain ⟨o, n', e, c, _⟩ := pl
   exact afB PySem.W.kitx_list I.CP ⟨o, e, c⟩ (lU.trans (pO (by decide) hn)) (fun z => nomatch z) fin
 | @tup a ws _ hq rr =>
   cases ht
   cases (show u = Value.ref a from ru)
   obtain ⟨its, _, pl, _⟩ := I.tuple hq
   obtain ⟨o, e, c, _⟩ := pl
   exact afB PySem.W.kitx_tuple I.CP ⟨o, e, c⟩ (lU.trans (pO (by decide) hn)) (fun z => nomatch z) fin
 | ins _ _ => cases ht
 | any _ => cases ht
 | val _ => cases ht
 | pM _ _ => cases ht
 | dct _ _ => cases ht
theorem O5 {e : Expr} {d : L3.D} {t n : String} {nm : Str} {pp pq : Pos} (hm : X.mg "isinstance" = none) (hmn : X.mg nm = none) (hg : Gl X "isinstance") (hgn : Gl X nm) (hbn : bootBuiltins nm = some (.type n)) (Jc : nm ≠ "__name__") (Y0 : (nm == ("__debug__" : Str)) = false) (h : cG X CL b e δ d δ1) (ht : tyD d = some t) (hn : n ∈ ["int", "str", "list", "tuple", "bool", "dict"])
   (hs : starEach [e, .Name nm pq] X.env = (false, eval e X.env) :: starEach [.Name nm pq] X.env := by exact bR rfl) :
   bS X CL b (.Call (.Name "isinstance" pp) [e, .Name nm pq] [] pos) δ (.sh (.bl (t == n || (t == "bool" && n == "int")))) δ1 := fun H Z σ ts vs Q S k =>
 cC (oj (Jb (CL := CL)) hg hm boot_isinstance (cy dB (cy (Oc hgn hmn hbn (v := .ty n) rfl Jc Y0) gH) hs) (he := hs)) (h H Z σ ts vs _ S fun v H1 Z1 z1 k1 S1 r =>
   ⟨v, n, d, t, rfl, r, ht, hn, k _ H1 Z1 z1 k1 (S1.push (.bl _))⟩)
end
theorem aW {n : Nat} (h : Nat.ble n 1000 = true) : n <= sizeLine := ae2 (cz (aec h))
structure Vn (X : Cx) (i : Nat) (x : Str) : Prop where
 hi : X.N[i]? = some x
 hv : V3 X.env.scope x
 hd : (x == ("__debug__" : Str)) = false
 n8 : (x == ("__classdict__" : Str)) = false
structure Ln (X : Cx) (i : Nat) (x : Str) : Prop extends Vn X i x where
 loc : Loc X.env.scope x
 hf : X.fn x = true \/ X.env.scope.names.lookup x = some .local
structure Gx (X : Cx) : Prop where
 nd : X.N.Nodup
 calm : X.calm = true
 xe : X.xe = fun _ _ => False
structure Fc (X : Cx) (CL : Str -> Addr) (x : Str) (k n : Nat) {A : Type} (arg : A -> List D) (Pre : A -> Prop) (res : A -> T) : Prop where
 ex : ∃ f fd ps, bT X.prog X.w X.K X.mg X.base jA k f fd ps (lu X.K CL n arg Pre res) /\ X.mg x = some (.ref f) /\ PySem.W.keepIn X.K (.ref f) = true /\ Binds X.K fd ps []
 room : gW k X.A
section
variable {X : Cx} {CL : Str -> Addr} {b : Bx} {δ δ1 δ2 : List (Option T)} {e e1 e2 : Expr} {es : List Expr} {d : L3.D} {t : T} {i : Nat} {x : Str} {pos pp : Pos} {D : cH} {gi : List Stmt} {ds : List L3.D}
theorem v_ (n : Vn X i x) (h : δ[i]? = some (some (.sh d)) := by rfl) : bS X CL b (.Name x pos) δ (.sh d) δ := Uc i n.hi n.hv n.hd n.n8 h
theorem vF (n : Vn X i x) (h : δ[i]? = some (some t) := by rfl) : bS X CL b (.Name x pos) δ (.sh t.fh) (δ.set i (some (.sh t.fh))) := OV i n.hi n.hv n.hd n.n8 h
theorem vM (n : Vn X i x) (h : δ[i]? = some (some t) := by rfl) : bS X CL b (.Name x pos) δ t (δ.set i none) := OW i n.hi n.hv n.hd n.n8 h
theorem vB (n : Vn X i x) (h : δ[i]? = some (some t) := by rfl) : cG X CL b (.Name x pos) δ t.fh δ := Ud i n.hi n.hv n.hd n.n8 h
theorem kJ {k : Int} (h : cG X CL b e δ (.int k) δ1) : bS X CL b (.UnaryOp .USub e pos) δ (.sh (.int (-k))) δ1 := fun H Z σ ts vs Q S kk =>
 cC (WH Tw dB) (h H Z σ ts vs _ S fun v H1 Z1 z1 k1 S1 r => ⟨k, r.sc rfl, kk _ H1 Z1 z1 k1 (S1.push (.int _))⟩)
theorem vL (n : Vn X i x) (h : δ[i]? = some (some (.lst (ds.map T.sh))) := by rfl) : cG X CL b (.Name x pos) δ (.lst ds) δ := by
 have := vB (CL := CL) (b := b) (pos := pos) n h
 rwa [T.fh, j6] at this
theorem c_ {k n : Nat} {A : Type} {arg : A -> List L3.D} {Pre : A -> Prop} {res : A -> T} (a : A) (F : Fc X CL x k n arg Pre res) (hg : Gl X x) (h : RP X CL b (e :: es) δ (arg a) δ1) (hp : Pre a) (hc : (res a).clean = true) (hn : (arg a).length = n := by rfl)
   (vR : (x == ("__debug__" : Str)) = false := by decide) (he : starEach (e :: es) X.env = (false, eval e X.env) :: starEach es X.env := by exact bR rfl) (vS : (backTo pos (starEach es X.env)).any (·.1) = false := by rfl) :
   bS X CL b (.Call (.Name x pp) (e :: es) [] pos) δ (res a) δ1 := by
 obtain ⟨f, fd, ps, F1, m, k, b⟩ := F.ex
 exact O4 a F1 F.room m k b h hn hp hc hg vR he vS
theorem cF {k n : Nat} {A : Type} {arg : A -> List L3.D} {Pre : A -> Prop} {res : A -> T} (a : A) (F : Fc X CL x k n arg Pre res) (hg : Gl X x) (h : EJ X CL b (e :: es) δ ((arg a).map T.sh) δ1) (hp : Pre a) (hn : (arg a).length = n := by rfl)
   (vR : (x == ("__debug__" : Str)) = false := by decide) (he : starEach (e :: es) X.env = (false, eval e X.env) :: starEach es X.env := by exact bR rfl) (vS : (backTo pos (starEach es X.env)).any (·.1) = false := by rfl) :
   bS X CL b (.Call (.Name x pp) (e :: es) [] pos) δ (res a) δ1 := by
 obtain ⟨f, fd, ps, F1, m, k, b⟩ := F.ex
 exact La a F1 F.room m k b h hn hp hg vR he vS
theorem aV {pos' : Pos} (g : Gx X) (n : Ln X i x) (h : bS X CL b e δ t δ1) (k : gk X CL b gi (δ1.set i (some t)) D) (hl : i < δ1.length := by exact aec rfl) (hs : swapsWith e (some (.Name x pos')) pos.line X.env = pure false := by rfl) :
   gk X CL b (.Assign [.Name x pos'] e pos :: gi) δ D := eK (Lb i h k hl g.nd n.hi n.loc hs n.hf)
theorem bM (h : bS X CL b e δ t δ1) (k : D.rt t δ1) : gk X CL b (.Return (some e) pos :: gi) δ D := eK (Uh h k)
theorem dW {p : Bool} {a c : List Stmt} (h : pN X CL b e δ p δ1) (h1 : p = true -> gk X CL b a δ1 { D with nx := fun δ2 => gk X CL b gi δ2 D }) (h2 : p = false -> gk X CL b c δ1 { D with nx := fun δ2 => gk X CL b gi δ2 D }) : gk X CL b (.If e a c pos :: gi) δ D := eK (Xh h h1 h2)
theorem gk.to {D' : cH} (h : gk X CL b gi δ D') (h1 : ∀ δ, D'.nx δ -> D.nx δ) (h2 : ∀ t δ, D'.rt t δ -> D.rt t δ) (h3 : ∀ δ, D'.bk δ -> D.bk δ) (h4 : ∀ δ, D'.ct δ -> D.ct δ) : gk X CL b gi δ D := fun H Z σ ts vs E S M => h H Z σ ts vs E S (M.to h1 h2 h3 h4)
theorem RX {p : Bool} {a c : List Stmt} (J : List (Option T) -> Prop) (h : pN X CL b e δ p δ1) (h1 : p = true -> gk X CL b a δ1 { D with nx := J }) (h2 : p = false -> gk X CL b c δ1 { D with nx := J }) (k : ∀ δ2, J δ2 -> gk X CL b gi δ2 D) : gk X CL b (.If e a c pos :: gi) δ D :=
 dW h (fun hp => gk.to (h1 hp) k (fun _ _ q => q) (fun _ q => q) (fun _ q => q)) (fun hp => gk.to (h2 hp) k (fun _ _ q => q) (fun _ q => q) (fun _ q => q))
theorem jD {body : List Stmt} {pos' : Pos} (g : Gx X) (n : Ln X i x) (P : Nat -> List (Option T) -> Prop) (h : N4 X CL b (.Name x pos') e δ ds δ1) (h0 : P 0 δ1) (hl : ∀ j δ, P j δ -> i < δ.length)
   (hs : ∀ j d δ, ds[j]? = some d -> P j δ -> gk X CL b body (δ.set i (some (.sh d))) { nx := P (j + 1), rt := D.rt, bk := fun δ2 => gk X CL b gi δ2 D, ct := P (j + 1) }) (hd : ∀ δ, P ds.length δ -> gk X CL b gi δ D) (hq : ∀ x, foldedSetIterable e X.env x = pure x := by intro _; rfl) :
   gk X CL b (.For (.Name x pos') e body [] pos :: gi) δ D :=
 eK (Um (D := { D with nx := fun δ1 => gk X CL b gi δ1 D }) i P h h0 hl hs hd (by rw [g.xe]; exact PassesOwn.never) g.calm g.nd n.hi n.loc n.hf hq)
theorem rX {e : Expr} {o : Option Expr} {l : Nat} {env : Env} (h : ∃ c, swapsWith e o l env = pure c) : swapsWith e o l env = pure true \/ swapsWith e o l env = pure false := by
 obtain ⟨c, h⟩ := h
 cases c
 . exact .inr h
 . exact .inl h
theorem jJ {scope : Scope} {Nc : List Str} {C : Addr} {s : Shared} {H : Hp} {fp : List Addr} (h1 : Nc[i]? = some x) (h2 : scope.names.lookup x = some .local) (hd : (x == ("__debug__" : Str)) = false := by decide) (n8 : (x == ("__classdict__" : Str)) = false := by decide) : Vn (di X scope Nc C s H fp) i x :=
 ⟨h1, .inl (lookup_relabel_local h2), hd, n8⟩
theorem kK {scope : Scope} {Nc : List Str} {C : Addr} {s : Shared} {H : Hp} {fp : List Addr} (h1 : Nc[i]? = some x) (h2 : scope.names.lookup x = some .free) (hd : (x == ("__debug__" : Str)) = false := by decide) (n8 : (x == ("__classdict__" : Str)) = false := by decide) : Vn (di X scope Nc C s H fp) i x := by
 refine ⟨h1, ?_, hd, n8⟩
 have q := fQ (env := X.env) h2
 show (relabel scope X.env).names.lookup x = some .local \/ (relabel scope X.env).names.lookup x = some .cell \/ (relabel scope X.env).names.lookup x = some .free
 rw [show (relabel scope X.env).names.lookup x = _ from q]
 split
 . exact .inr (.inl rfl)
 . exact .inr (.inr rfl)
theorem j8 {scope : Scope} {Nc : List Str} {C : Addr} {s : Shared} {H : Hp} {fp : List Addr} (h2 : scope.names.lookup x = some .globalImplicit) : Gl (di X scope Nc C s H fp) x := by
 have q := fQ (env := X.env) h2
 show (relabel scope X.env).names.lookup x = some .globalImplicit
 rw [show (relabel scope X.env).names.lookup x = _ from q]
 rfl
theorem rY {scope : Scope} {Nc : List Str} {C : Addr} {s : Shared} {H : Hp} {fp : List Addr} {k n : Nat} {A : Type} {arg : A -> List L3.D} {Pre : A -> Prop} {res : A -> T} (F : Fc X CL x k n arg Pre res) : Fc (di X scope Nc C s H fp) CL x k n arg Pre res := ⟨F.ex, F.room⟩
end
section
variable {X : Cx} {CL : Str -> Addr} {b : Bx} {δ δ1 δ2 : List (Option T)} {e e1 e2 : Expr} {es : List Expr} {ds : List L3.D} {pos : Pos}
theorem O6 (h : EJ X CL b es δ (ds.map T.sh) δ1) (hl : ds.length <= sizeLine := by exact aW rfl) : bS X CL b (.List es pos) δ (.sh (.lst ds)) δ1 := by
 have := AJ (dh (pos := pos) h (by simpa using hl))
 rwa [T.fh, j6] at this
end
section
variable {X : Cx} {CL : Str -> Addr} {b : Bx} {δ δ1 : List (Option T)} {e : Expr} {d : L3.D} {t : String} {pos pp pq : Pos}
theorem dX : bootBuiltins "list" = some (.type "list") := by decide +kernel
theorem isL (hm : X.mg "isinstance" = none) (hmn : X.mg "list" = none) (hg : Gl X "isinstance") (hgn : Gl X "list") (h : cG X CL b e δ d δ1) (ht : tyD d = some t := by rfl) (hs : starEach [e, .Name "list" pq] X.env = (false, eval e X.env) :: starEach [.Name "list" pq] X.env := by exact bR rfl) :
   bS X CL b (.Call (.Name "isinstance" pp) [e, .Name "list" pq] [] pos) δ (.sh (.bl (t == "list" || (t == "bool" && "list" == "int")))) δ1 := O5 hm hmn hg hgn dX (by decide) (by decide) h ht (by decide) hs
theorem Dq : bootBuiltins "tuple" = some (.type "tuple") := by decide +kernel
end
noncomputable def mD (sc : Scope) (l : List (Str × NameKind)) : Bool := l.all fun p => sc.names.lookup p.1 == some p.2
theorem gn {sc : Scope} {l : List (Str × NameKind)} (h : mD sc l = true) (i : Nat) {x : Str} {k : NameKind} (hi : l[i]? = some (x, k)) : sc.names.lookup x = some k := by
 unfold mD at h
 rw [ae6] at h
 exact beq_iff_eq.mp (h _ (aeQ hi))
inductive O7 (X : Cx) : List Nat -> List Str -> Prop where
 | nil : O7 X [] []
 | cons {i : Nat} {y : Str} {ix : List Nat} {ys : List Str} (n : Vn X i y) (k : X.env.kindOf y = some .cell \/ X.env.kindOf y = some .free) (r : O7 X ix ys) : O7 X (i :: ix) (y :: ys)
noncomputable def Lf (scope : Scope) (x : Str) (Dr : List Str) : Bool :=
 scope.kind == .function && scope.names.lookup x == some .local && Dr.all (fun y => scope.names.lookup y == some .free) && decide ((x :: Dr).Nodup) &&
   scope.names.all fun y => y.2 != .cell && (y.2 != .local || scope.names.lookup y.1 == some .local) && (y.2 != .free || (Dr.contains y.1 && scope.names.lookup y.1 == some .free))
theorem fU {X : Cx} {scope : Scope} {x : Str} {ix : List Nat} {Dr : List Str} (c : O7 X ix Dr) (ok : Lf scope x Dr = true) : lS X scope x (x :: Dr) ix := by
 unfold Lf at ok
 simp only [aev, ae6, afF, beq_iff_eq] at ok
 obtain ⟨⟨⟨⟨h1, h2⟩, h3⟩, h4⟩, h5⟩ := ok
 have kc : ∀ y ∈ Dr, X.env.kindOf y = some .cell \/ X.env.kindOf y = some .free := by
   clear h3 h4 h5
   induction c with
   | nil => intro y hy; cases hy
   | cons n k r ih =>
     intro y hy
     rcases aek.mp hy with e | hy
     . subst e; exact k
     . exact ih y hy
 refine ⟨h1, fun y hy e => ?_, h4, fun y hy e => ?_, h2, fun y hy e => ?_, ?_, fun i hi => ?_⟩
 . have := (h5 y hy).1.1
   rw [e] at this
   simp at this
 . have := (h5 y hy).1.2
   rw [e] at this
   simpa using this
 . have := (h5 y hy).2
   rw [e] at this
   simp at this
   exact ⟨this.2, kc _ this.1⟩
 . congr 1
   clear h3 h4 h5 kc
   induction c with
   | nil => rfl
   | cons n k r ih => rw [afi, n.hi, ← ih]
 . clear h4 h5 kc
   induction c with
   | nil => cases hi
   | @cons i' y ix ys n k r ih =>
     rcases aek.mp hi with e | hi
     . subst e; exact ⟨y, n.hi, h3 y aef⟩
     . exact ih (fun z hz => h3 z (aeh _ hz)) hi
noncomputable def D.Ep : D -> Int
 | .int i => i
 | _ => 0
noncomputable def D.toS : D -> Str
 | .str x => x
 | _ => Str.empty
theorem jk {bs : List Int} {k : Int} (h0 : 0 <= k) (h1 : k < bs.length) : zL (bs.map D.int) k = some (.int (bs.getD k.toNat 0)) := by
 obtain ⟨j, rfl⟩ : ∃ j : Nat, k = j := ⟨k.toNat, by omega⟩
 refine aP ?_
 have hl : j < bs.length := by omega
 rw [aeS, aeo hl]
 simp [List.getD, hl]
theorem jE : ∀ (bs : List Int), D.bZ (bs.map D.int) = true
 | [] => rfl
 | i :: r => by rw [aew, D.bZ, jE r]; rfl
theorem iH {lo : Int} {n j : Nat} {d : D} (h : (bP lo n)[j]? = some d) : d = .int (lo + j) /\ j < n := by
 have hl : j < n := by
   have := (aeD.mp h).1
   simpa [bP] using this
 refine ⟨?_, hl⟩
 unfold bP at h
 rw [aeS, afj hl] at h
 exact (aeH h).symm
theorem iz {α : Type} (l : List α) : l.filter (fun _ => true) = l := by simp
theorem Ds {K : PySem.W.Frag} {CL : Str -> Addr} {Z : Hp} : ∀ (ns : List Int), aE K CL Z (ns.map D.int) (ns.map V.int)
 | [] => .nil
 | n :: r => .cons (.int n) (Ds r)
theorem Up {K : PySem.W.Frag} {CL : Str -> Addr} {H : Hp} {a : Addr} {arg : List Int -> List D} {pre : List Int -> Prop} {res : List Int -> T} {ns : List Int} (ha : arg ns = [.lst (ns.map D.int)]) (hp : pre ns) (hr : res ns = .sh (.bl true)) (hS : qk K H a (ns.map V.int)) (h0 : ∀ x, G5 x = true -> CL x = 0 := by intros; rfl) :
   lu K CL 1 arg pre res [.ref a] H (fun v _ => v = .bl true) fun _ _ _ => False :=
 ⟨H, ns, .refl _, fun _ _ q _ => q, by rw [ha]; exact .cons (.lst hS (Ds ns)) .nil, by rw [ha]; rfl, hp, fun x hx e => absurd (h0 x hx) e, fun v H' W' fp _ _ _ _ _ r _ _ => by
   rw [hr] at r
   cases r with
   | sh r => exact r.sc rfl⟩
mutual
noncomputable def D.toPy : D -> PyData
 | .non => .none
 | .bl b => .bool b
 | .int i => .int i
 | .str x => .str x
 | .tup ds => .tuple (D.oB ds)
 | .lst ds => .list (D.oB ds)
 | .ins _ _ => .none
 | .pM _ => .none
 | .dct _ => .none
 | .any => .none
 | .val _ => .none
noncomputable def D.oB : List D -> List PyData
 | [] => []
 | d :: ds => d.toPy :: D.oB ds
end
inductive lO : Nat -> D -> Prop where
 | non (n : Nat) : lO n .non
 | bl (n : Nat) (b : Bool) : lO n (.bl b)
 | int (n : Nat) (i : Int) : lO n (.int i)
 | str (n : Nat) (x : Str) (h : PyData.strOk x = true) : lO n (.str x)
 | tup {n : Nat} {ds : List D} (h : ∀ d ∈ ds, lO n d) : lO (n + 1) (.tup ds)
 | lst {n : Nat} {ds : List D} (h : ∀ d ∈ ds, lO n d) : lO (n + 1) (.lst ds)
noncomputable def O8 (a b : D) : Bool := PyData.eqv a.toPy b.toPy
theorem lO.Uq {n : Nat} : ∀ {ds : List D}, (∀ d ∈ ds, d.toPy.canLay0 = true /\ d.toPy.depth <= n) -> PyData.canLayAll0 (D.oB ds) = true /\ PyData.depthAll (D.oB ds) <= n
 | [], _ => ⟨by rw [D.oB, PyData.canLayAll0], by rw [D.oB, PyData.depthAll]; exact aey _⟩
 | d :: ds, h => by
   have h1 := h d aef
   have h2 := lO.Uq (ds := ds) fun e he => h e (aeh _ he)
   rw [D.oB, PyData.canLayAll0, PyData.depthAll, h1.1, h2.1]
   exact ⟨rfl, Nat.max_le.mpr ⟨h1.2, h2.2⟩⟩
theorem lO.lay {n : Nat} {d : D} (h : lO n d) : d.toPy.canLay0 = true /\ d.toPy.depth <= n := by
 induction h with
 | non n => exact ⟨by rw [D.toPy, PyData.canLay0], by rw [D.toPy, PyData.depth]; exact aey _⟩
 | bl n b => exact ⟨by rw [D.toPy, PyData.canLay0], by rw [D.toPy, PyData.depth]; exact aey _⟩
 | int n i => exact ⟨by rw [D.toPy, PyData.canLay0], by rw [D.toPy, PyData.depth]; exact aey _⟩
 | str n x hx => exact ⟨by rw [D.toPy, PyData.canLay0]; exact hx, by rw [D.toPy, PyData.depth]; exact aey _⟩
 | @tup n ds _ ih =>
   have := lO.Uq ih
   rw [D.toPy, PyData.canLay0, PyData.depth]
   exact ⟨this.1, by omega⟩
 | @lst n ds _ ih =>
   have := lO.Uq ih
   rw [D.toPy, PyData.canLay0, PyData.depth]
   exact ⟨this.1, by omega⟩
theorem xS {n : Nat} {d : D} (h : lO n d) : O8 d d = true := SeqAt.eqv_refl _ h.lay.1
section
variable {X : Cx} {CL : Str -> Addr} {pins : List (Addr × Obj)} {σ : L2.St} {H : Hp} {s : Shared}
theorem Lg (I : L2.Inv X pins σ H s) {n : Nat} {d : D} {v : V} {u : Value} (hd : lO n d) (q : bq X.K CL H d v) (r : RelV v u) : ∃ as, Reads s.heap u d.toPy as := by
 refine bq.rec (motive_1 := fun d v _ => ∀ (n : Nat) (u : Value), lO n d -> RelV v u -> ∃ as, Reads s.heap u d.toPy as)
   (motive_2 := fun ds vs _ => ∀ (n : Nat) (us : List Value), (∀ d ∈ ds, lO n d) -> Vals vs us -> ∃ as, ReadsAll s.heap us (D.oB ds) as) (motive_3 := fun _ _ _ => True) (motive_4 := fun _ _ _ => True) (motive_5 := fun _ _ _ => True)
   (fun _ _ _ r => ?non) (fun b _ _ _ r => ?bl) (fun i _ _ _ r => ?int) (fun x _ _ _ r => ?str) (fun _ _ _ hd _ => by cases hd) (fun _ _ _ hd _ => by cases hd) (fun hq _ ih n u hd r => ?tup) (fun hq _ ih n u hd r => ?lst) (fun _ _ _ _ _ hd _ => by cases hd) (fun _ _ _ _ _ hd _ => by cases hd) (fun _ _ _ _ _ hd _ => by cases hd)
   (fun _ _ _ r => ?nil) (fun _ _ ih ihs n us h r => ?cons) trivial (fun _ _ _ _ => trivial) trivial (fun _ _ _ _ => trivial) trivial (fun _ _ _ _ => trivial) q n u hd r
 case non => cases r; rw [D.toPy]; exact ⟨[], .none⟩
 case bl => cases r; rw [D.toPy]; exact ⟨[], .bool b⟩
 case int => obtain ⟨t, rfl⟩ := r; rw [D.toPy]; exact ⟨[], .int i t⟩
 case str => obtain ⟨t, rfl⟩ := r; rw [D.toPy]; exact ⟨[], .str x t⟩
 case tup =>
   cases hd with
   | tup hd =>
     cases r
     obtain ⟨its, rv, ⟨o, e, c, k, dt⟩, _⟩ := I.tuple hq
     obtain ⟨as, ra⟩ := ih _ _ hd rv
     rw [D.toPy]
     exact ⟨as, .tuple e c dt (by simpa using ra)⟩
 case lst =>
   cases hd with
   | lst hd =>
     cases r
     obtain ⟨its, rv, ⟨o, k, e, c, _, dt⟩, _⟩ := I.list hq
     obtain ⟨as, ra⟩ := ih _ _ hd rv
     rw [D.toPy]
     exact ⟨_, .list e c dt (by simpa using ra)⟩
 case nil => cases r; rw [D.oB]; exact ⟨[], .nil⟩
 case cons =>
   cases r with
   | cons r rs =>
     obtain ⟨as, ra⟩ := ih n _ (h _ aef) r
     obtain ⟨bs, rb⟩ := ihs n _ (fun e he => h e (aeh _ he)) rs
     rw [D.oB]
     exact ⟨as ++ bs, .cons ra rb⟩
end
section
variable {X : Cx} {CL : Str -> Addr} {b : Bx} {δ δ1 δ2 δ3 : List (Option T)} {e e1 e2 e3 : Expr} {d1 d2 : D} {ds : List D} {pos p2 pp : Pos} {n m : Nat} {i : Nat} {x : Str} {t : T} {gi : List Stmt} {DD : cH}
theorem Ur (hu : X.A.units + 64 < cLine) : ql X (compareOp .NotEq) (fun x y H Q => ∃ a c, bq X.K CL H a x /\ bq X.K CL H c y /\ lO 60 a /\ lO 60 c /\ Q (.bl (!O8 a c)) H) := by
 intro pins s σ H x y v u Q I rx ry h
 obtain ⟨a, c, ra, rc, da, dc, q⟩ := h
 obtain ⟨as, r1⟩ := Lg I da ra rx
 obtain ⟨bs, r2⟩ := Lg I dc rc ry
 exact SeqAt.rcNeAt_reads r1 r2 da.lay.1 dc.lay.1 (by have := da.lay.2; omega) X.prog X.w X.xe _ ⟨.bl _, H, I, rfl, q⟩
theorem aam {op : CmpOp} {f : Bool -> Bool} (ho : ql X (compareOp op) (fun x y H Q => ∃ a c, bq X.K CL H a x /\ bq X.K CL H c y /\ lO 60 a /\ lO 60 c /\ Q (.bl (f (O8 a c))) H)) (h1 : cG X CL b e1 δ d1 δ1) (h2 : cG X CL b e2 δ1 d2 δ2) (k1 : lO 60 d1) (k2 : lO 60 d2)
   (hm : behindInMarks op e2 = false) : pN X CL b (.Compare e1 [op] [e2] pos) δ (f (O8 d1 d2)) δ2 /\ bS X CL b (.Compare e1 [op] [e2] pos) δ (.sh (.bl (f (O8 d1 d2)))) δ2 := by
 constructor
 . intro H Z σ ts vs Q S k
   refine xN (pK ho dB dB hm) (h1 H Z σ ts vs _ S fun v1 H1 Z1 z1 k1' S1 r1 => h2 H1 Z1 σ ts vs _ S1 fun v2 H2 Z2 z2 Xl S2 r2 => ?_)
   exact ⟨d1, d2, r1.mono Xl, r2, k1, k2, _, rfl, k H2 Z2 (z1.trans z2) (k1'.trans Xl) S2⟩
 . intro H Z σ ts vs Q S k
   refine cC (pJ ho dB dB hm) (h1 H Z σ ts vs _ S fun v1 H1 Z1 z1 k1' S1 r1 => h2 H1 Z1 σ ts vs _ S1 fun v2 H2 Z2 z2 Xl S2 r2 => ?_)
   exact ⟨d1, d2, r1.mono Xl, r2, k1, k2, k _ H2 Z2 (z1.trans z2) (k1'.trans Xl) (S2.push (.bl _))⟩
theorem xT (hu : X.A.units + 64 < cLine) (h1 : cG X CL b e1 δ d1 δ1) (h2 : cG X CL b e2 δ1 d2 δ2) (k1 : lO 60 d1) (k2 : lO 60 d2) : pN X CL b (.Compare e1 [.NotEq] [e2] pos) δ (!O8 d1 d2) δ2 /\ bS X CL b (.Compare e1 [.NotEq] [e2] pos) δ (.sh (.bl (!O8 d1 d2))) δ2 :=
 aam (f := fun b => !b) (Ur hu) h1 h2 k1 k2 (oi _)
noncomputable def cutD {α : Type} (xs : List α) (lo hi : Option Int) : List α := (xs.drop (HT.zK xs.length 0 lo)).take (HT.zK xs.length xs.length hi - HT.zK xs.length 0 lo)
theorem aE.drop {K : PySem.W.Frag} {Z : Hp} : ∀ {ds : List L3.D} {vs : List V} (n : Nat), aE K CL Z ds vs -> aE K CL Z (ds.drop n) (vs.drop n)
 | _, _, 0, r => r
 | _, _, _ + 1, .nil => .nil
 | _, _, n + 1, .cons _ t => aE.drop n t
theorem aE.take {K : PySem.W.Frag} {Z : Hp} : ∀ {ds : List L3.D} {vs : List V} (n : Nat), aE K CL Z ds vs -> aE K CL Z (ds.take n) (vs.take n)
 | _, _, 0, _ => .nil
 | _, _, _ + 1, .nil => .nil
 | _, _, n + 1, .cons r t => .cons r (aE.take n t)
theorem aE.cut {K : PySem.W.Frag} {Z : Hp} {ds : List L3.D} {vs : List V} (r : aE K CL Z ds vs) (lo hi : Option Int) : aE K CL Z (cutD ds lo hi) (IQ vs lo hi) := by
 unfold cutD IQ
 rw [r.length]
 exact (r.drop _).take _
theorem Dt : ∀ {ds : List L3.D}, D.bZ ds = true -> ∀ d ∈ ds, d.nM = true
 | [], _, _, h => by cases h
 | d :: ds, k, e, h => by
   rw [D.bZ, aev] at k
   rcases aek.mp h with h | h
   . subst h; exact k.1
   . exact Dt k.2 e h
theorem Hf : ∀ {ds : List L3.D}, (∀ d ∈ ds, d.nM = true) -> D.bZ ds = true
 | [], _ => rfl
 | d :: ds, h => by rw [D.bZ, h d aef, Hf fun e he => h e (aeh _ he)]; rfl
theorem O9 {α : Type} {xs : List α} {lo hi : Option Int} {x : α} (h : x ∈ cutD xs lo hi) : x ∈ xs := List.mem_of_mem_drop (List.mem_of_mem_take h)
noncomputable def V8 (X : Cx) (CL : Str -> Addr) (b : Bx) (e : Option Expr) (δ : List (Option T)) (k : Option Int) (δ' : List (Option T)) : Prop :=
 ∃ t, PO X e t /\ ∀ (H Z : Hp) (σ : L2.St) (ts : List T) (vs : List V) (Q : Option Int -> Hp -> Prop), bJ X.K CL b H Z δ σ ts vs -> (∀ H' Z', aD Z Z' -> aD H H' -> bJ X.K CL b H' Z' δ' σ ts vs -> Q k H') -> t σ H Q
theorem wZ : V8 X CL b none δ none δ := ⟨_, Ow, fun H Z σ ts vs Q S k => k H Z (.refl _) (.refl _) S⟩
theorem w4 {k : Int} (h : cG X CL b e δ (.int k) δ1) : V8 X CL b (some e) δ (some k) δ1 := ⟨_, Ox dB, fun H Z σ ts vs Q S kk => h H Z σ ts vs _ S fun v H1 Z1 z1 k1 S1 r => ⟨k, r.sc rfl, kk H1 Z1 z1 k1 S1⟩⟩
theorem Lh {lo hi : Option Expr} {l h : Option Int} (h1 : cG X CL b e δ (.lst ds) δ1) (hi1 : D.bZ ds = true) (h2 : V8 X CL b lo δ1 l δ2) (h3 : V8 X CL b hi δ2 h δ3) : bS X CL b (.Subscript e (.Slice lo hi none p2) pos) δ (.lst ((cutD ds l h).map T.sh)) δ3 := fun H Z σ ts vs Q S k => by
 obtain ⟨t2, po2, w2⟩ := h2
 obtain ⟨t3, po3, w3⟩ := h3
 refine cC (Dd OB dB po2 po3) (h1 H Z σ ts vs _ S fun v H1 Z1 z1 k1 S1 r => w2 H1 Z1 σ ts vs _ S1 fun H2 Z2 z2 k2 S2 => w3 H2 Z2 σ ts vs _ S2 fun H3 Z3 z3 k3 S3 => ?_)
 have r' := r.mono (k2.trans k3)
 cases r' with
 | lst hq rr =>
   refine ⟨_, _, rfl, hq, fun p hp => ?_⟩
   have rc := aE.nM S3.tp (Hf fun d hd => Dt hi1 d (O9 hd)) (rr.cut l h)
   obtain ⟨c, S4⟩ := (bJ.xQ rc S3).uC (g0 := []) (by simp [rc.length]) hp
   exact k _ _ _ (z1.trans (z2.trans z3)) (k1.trans (k2.trans (k3.trans c))) S4
theorem uD (hm : X.mg "tuple" = none) (h : cG X CL b e δ (.lst ds) δ1) (hi : D.bZ ds = true) (hg : Gl X "tuple") (hs : starEach [e] X.env = (false, eval e X.env) :: starEach [] X.env := by exact bR rfl) : bS X CL b (.Call (.Name "tuple" pp) [e] [] pos) δ (.sh (.tup ds)) δ1 := fun H Z σ ts vs Q S k =>
 cC (lR zN hg hm Dq (cy dB gH hs) (he := hs)) (h H Z σ ts vs _ S fun v H1 Z1 z1 k1 S1 r => by
   cases r with
   | lst hq rr =>
     refine ⟨_, _, rfl, .inl ⟨hq, fun l hl => ?_⟩⟩
     obtain ⟨a, c, S2⟩ := (bJ.xQ (aE.nM S1.tp hi rr) S1).K3 (by simp [rr.length]) hl
     obtain ⟨Z3, z3, S3⟩ := S2.K0
     rw [T.fh, j6] at S3
     exact k _ _ Z3 (z1.trans (a.trans z3)) (k1.trans c) S3)
theorem nP {tl N3 : List T} {pa pb : Pos} (n : Vn X i x) (h0 : δ[i]? = some (some (.lst N3))) (h : bS X CL b e δ t δ1) (h1 : δ1[i]? = some (some (.lst tl))) (hl : tl.length <= 1000000) (k : gk X CL b gi (δ1.set i (some (.lst (tl ++ [t])))) DD)
   (Dg : attributeBase (.Name x pp) "append" X.env (eval (.Name x pp) X.env) = eval (.Name x pp) X.env := by rfl)
   (KJ : ((backTo pb (starEach [e] X.env)).all (fun x => !x.1) && (backToKw pb (keywordEach [] X.env)).all (fun x => x.1.isSome) && decide ([e].length + ([] : List Keyword).length + (if ([] : List Keyword).isEmpty then 0 else 1) < 30)) = true := by rfl)
   (hline : (pa.endLine == pb.line) = true := by rfl) (hs : starEach [e] X.env = (false, eval e X.env) :: starEach [] X.env := by exact bR rfl) (Ja : swapsWith (.Call (.Attribute (.Name x pp) "append" pa) [e] [] pb) none pos.line X.env = pure false := by rfl) :
   gk X CL b (.Expr (.Call (.Attribute (.Name x pp) "append" pa) [e] [] pb) pos :: gi) δ DD :=
 eK (Uk i h0 h h1 (Nat.lt_of_le_of_lt hl (by rw [afh]; decide)) k n.hi n.hv n.hd n.n8 Dg KJ hline hs Ja)
theorem Li {tl : List T} {k : Int} {j : Nat} {ps : Pos} (n : Vn X i x) (h : bS X CL b e δ t δ1) (h2 : cG X CL b e2 δ1 (.int k) δ1) (h1 : δ1[i]? = some (some (.lst tl))) (hk : IU tl.length k = some j) (kk : gk X CL b gi (δ1.set i (some (.lst (tl.set j t)))) DD)
   (ha : ∀ v, assign (.Subscript (.Name x pp) e2 ps) X.env v = (do
     let ov ← holding [v] (eval (.Name x pp) X.env)
     let iv ← holding [v, ov] (eval e2 X.env)
     standAt ps
     holding [v, ov, iv] (setItem ov iv v)
     release [v, ov, iv] []) := by intro _; rfl)
   (hs : swapsWithSole [.Subscript (.Name x pp) e2 ps] e pos.line X.env = pure false := by rfl) (hw : swappedStores [.Subscript (.Name x pp) e2 ps] e X.env = pure none := by rfl) (ha1 : (assignEach [.Subscript (.Name x pp) e2 ps] X.env).map (·.2) = [assign (.Subscript (.Name x pp) e2 ps) X.env] := by rfl) :
   gk X CL b (.Assign [.Subscript (.Name x pp) e2 ps] e pos :: gi) δ DD := by
 refine eK fun H Z σ ts vs E S M => xO (Td dB (Tc (mE n.hi n.hv n.hd n.n8) dB set_list ha) hs hw ha1) (h H Z σ ts vs _ S fun v H1 Z1 z1 k1 S1 => ?_)
 have hj : j < tl.length := (Az hk).2.1
 obtain ⟨v0, e0, _⟩ := S1.look h1
 refine ⟨v0, e0, ?_⟩
 refine h2 H1 Z1 σ _ _ _ S1 fun v2 H2 Z2 z2 k2 S2 r2 => ?_
 obtain ⟨a, us, ea, K1, hu, S3⟩ := S2.setAt h1 hj
 rw [e0] at ea
 cases ea
 exact ⟨a, us, k, j, rfl, r2.sc rfl, K1, by rw [hu]; exact hk, M.nx _ σ _ Z2 (z1.trans z2) S3 kk⟩
theorem c6 {n : Nat} (hn : ds.length = n) (hm : X.mg "len" = none) (h : cG X CL b e δ (.lst ds) δ1) (hg : Gl X "len") (hs : starEach [e] X.env = (false, eval e X.env) :: starEach [] X.env := by exact bR rfl) : bS X CL b (.Call (.Name "len" pp) [e] [] pos) δ (.sh (.int n)) δ1 := by
 subst hn
 exact G9 hm h hg hs
theorem fz (h : bS X CL b e δ (.lst (ds.map T.sh)) δ1) : cG X CL b e δ (.lst ds) δ1 := by
 have := RT h
 rwa [T.fh, j6] at this
end
theorem qF {α : Type} {f : α -> D} {l : List α} {k : Int} (z : α) (h0 : 0 <= k) (h1 : k < l.length) : zL (l.map f) k = some (f (l.getD k.toNat z)) := by
 obtain ⟨j, rfl⟩ : ∃ j : Nat, k = j := ⟨k.toNat, by omega⟩
 refine aP ?_
 have hl : j < l.length := by omega
 rw [aeS, aeo hl]
 simp [List.getD, hl]
theorem bY {α : Type} {f : α -> D} (h : ∀ a, (f a).nM = true) : ∀ (l : List α), D.bZ (l.map f) = true
 | [] => rfl
 | a :: l => by rw [aew, D.bZ, h a, bY h l]; rfl
section
variable {X : Cx} {CL : Str -> Addr} {b : Bx} {δ δ1 δ2 δ3 : List (Option T)} {e e1 e2 e3 : Expr} {es : List Expr} {d d1 d2 : D} {ds : List D} {pos p2 pp : Pos} {n m : Nat} {i : Nat} {x : Str} {t : T} {gi : List Stmt} {DD : cH}
theorem Pa {k : Int} {u : Tok} (hm : X.mg x = some (.int k u)) (hg : Gl X x) (hd : (x == ("__debug__" : Str)) = false := by decide) : bS X CL b (.Name x pos) δ (.sh (.int k)) δ := fun H Z σ ts vs Q S kk =>
 cC (Av (v := .int k) hg hm ⟨u, rfl⟩ hd) (kk _ H Z (.refl _) (.refl _) (S.push (.int k)))
theorem gM {k : Int} (hm : ∃ u, X.mg x = some (.int k u)) (hg : Gl X x) (hd : (x == ("__debug__" : Str)) = false := by decide) : bS X CL b (.Name x pos) δ (.sh (.int k)) δ := by
 obtain ⟨u, hm⟩ := hm
 exact Pa hm hg hd
theorem vE (n : Vn X i x) (h : δ[i]? = some (some t)) (e : t.fh = d) : cG X CL b (.Name x pos) δ d δ := e ▸ vB n h
theorem mK (x : Str) : ∀ l : List Str, RG (.str x) (l.map V.str) = decide (x ∈ l)
 | [] => by simp [RG]
 | y :: l => by
   have ih := mK x l
   unfold RG at ih ⊢
   rw [aew, ae7, ih]
   have e : ∀ a c : Str, KG (.str a) (.str c) = (a == c) := fun _ _ => rfl
   rw [e]
   by_cases h : y = x
   . subst h; simp
   . have h' : ¬ x = y := fun e => h e.symm
     simp [h, h']
theorem aE.strs {K : PySem.W.Frag} {Z : Hp} : ∀ {l : List Str} {vs : List V}, aE K CL Z (l.map D.str) vs -> vs = l.map V.str
 | [], _, r => by
   have r' : aE K CL Z [] _ := r
   cases r'; rfl
 | y :: l, _, r => by
   have r' : aE K CL Z (D.str y :: l.map D.str) _ := r
   cases r' with
   | cons r1 r2 => rw [r1.sc rfl, aE.strs r2]; rfl
theorem eV : ∀ l : List Str, (l.map V.str).all qq = true
 | [] => rfl
 | y :: l => by rw [aew, afc, eV l]; rfl
theorem Xm {l : List Str} (h1 : cG X CL b e1 δ (.str x) δ1) (h2 : cG X CL b e2 δ1 (.tup (l.map .str)) δ2) (hm : behindInMarks .In e2 = false) :
   pN X CL b (.Compare e1 [.In] [e2] pos) δ (decide (x ∈ l)) δ2 /\ bS X CL b (.Compare e1 [.In] [e2] pos) δ (.sh (.bl (decide (x ∈ l)))) δ2 := by
 constructor
 . intro H Z σ ts vs Q S k
   refine xN (pK pL dB dB hm) (h1 H Z σ ts vs _ S fun v1 H1 Z1 z1 k1 S1 r1 => h2 H1 Z1 σ ts vs _ S1 fun v2 H2 Z2 z2 k2 S2 r2 => ?_)
   cases r2 with
   | tup hq rr =>
     have e := rr.strs
     subst e
     refine ⟨_, _, rfl, .inr hq, by rw [r1.sc rfl]; rfl, eV l, _, rfl, ?_⟩
     rw [aeq aep, r1.sc rfl, mK]
     exact k H2 Z2 (z1.trans z2) (k1.trans k2) S2
 . intro H Z σ ts vs Q S k
   refine cC (pJ pL dB dB hm) (h1 H Z σ ts vs _ S fun v1 H1 Z1 z1 k1 S1 r1 => h2 H1 Z1 σ ts vs _ S1 fun v2 H2 Z2 z2 k2 S2 r2 => ?_)
   cases r2 with
   | tup hq rr =>
     have e := rr.strs
     subst e
     refine ⟨_, _, rfl, .inr hq, by rw [r1.sc rfl]; rfl, eV l, ?_⟩
     rw [aeq aep, r1.sc rfl, mK]
     exact k _ H2 Z2 (z1.trans z2) (k1.trans k2) (S2.push (.bl _))
theorem Lj {l : List Str} {j : Nat} (h1 : cG X CL b e1 δ (.str x) δ1) (h2 : EJ X CL b es δ1 ((l.map D.str).map T.sh) δ2) (hl : (l.map D.str).length <= sizeLine := by exact aW rfl) :
   pN X CL b (.Compare e1 [.In] [.Tuple es j p2] pos) δ (decide (x ∈ l)) δ2 /\ bS X CL b (.Compare e1 [.In] [.Tuple es j p2] pos) δ (.sh (.bl (decide (x ∈ l)))) δ2 := Xm h1 (ai (j7 h2 hl)) rfl
noncomputable def xU : Expr -> Option Str
 | .Constant (.str x) _ _ => some x
 | _ => none
noncomputable def uE : List Expr -> Option (List Str)
 | [] => some []
 | e :: es => (xU e).bind fun x => (uE es).map (x :: ·)
theorem Du {e : Expr} {x : Str} (h : xU e = some x) : ∃ j p, e = .Constant (.str x) j p := by
 unfold xU at h
 split at h
 . cases h; exact ⟨_, _, rfl⟩
 . cases h
theorem pP : ∀ {es : List Expr} {l : List Str}, uE es = some l -> EJ X CL b es δ ((l.map D.str).map T.sh) δ
 | [], l, h => by
   have e : l = [] := (aeH h).symm
   subst e
   exact eG
 | e :: es, l, h => by
   rw [uE] at h
   obtain ⟨x, hx, h⟩ := Option.bind_eq_some_iff.mp h
   obtain ⟨l', hl, rfl⟩ := afE.mp h
   obtain ⟨j, p, rfl⟩ := Du hx
   exact c5 cN (pP hl)
theorem aaq {Xn : Stmt} (J : List (Option T) -> Prop) (k : ∀ δ2, J δ2 -> gk X CL b gi δ2 DD) (h : (∀ δ2, J δ2 -> gk X CL b gi δ2 DD) -> gk X CL b (Xn :: gi) δ DD) : gk X CL b (Xn :: gi) δ DD := h k
end
theorem Lk {α : Type} {l : List α} {k : Int} (z : α) (h0 : 0 <= k) (h1 : k < l.length) : zL l k = some (l.getD k.toNat z) := by
 obtain ⟨j, rfl⟩ : ∃ j : Nat, k = j := ⟨k.toNat, by omega⟩
 refine aP ?_
 have hl : j < l.length := by omega
 rw [aeo hl]
 simp [List.getD, hl]
theorem str_len (x y : Str) : (x ++ y).length = x.length + y.length := by
 show (x.cps ++ y.cps).size = _
 rw [Array.size_append]; rfl
theorem vz (l : List Int) : T.gJ ((l.map D.int).map T.sh) = true := by
 rw [aeN]
 induction l with
 | nil => rfl
 | cons i r ih => rw [aew, T.gJ, ih]; rfl
section
variable {X : Cx} {tg : Expr}
end
section
variable {X : Cx} {CL : Str -> Addr} {b : Bx} {δ δ1 : List (Option T)} {e : Expr} {ds : List D} {tg : Expr} {pr pc : Pos}
end
section
variable {K : PySem.W.Frag} {CL : Str -> Addr} {b : Bx} {H Z : Hp} {δ : List (Option T)} {σ : L2.St} {ts tt : List T} {vs : List V} {t : T}
end
section
variable {X : Cx} {CL : Str -> Addr} {b : Bx} {δ : List (Option T)} {tt : List T} {t : T} {i : Nat} {x : Str} {pp pc ps : Pos} {kj : Nat}
end
section
variable {X : Cx} {CL : Str -> Addr} {b : Bx} {δ δ1 : List (Option T)} {e : Expr} {ds : List D} {t : T} {i : Nat} {x : Str} {pos pp p2 : Pos} {kj : Nat}
theorem vFL (n : Vn X i x) (h : δ[i]? = some (some (.lst (ds.map T.sh)))) : bS X CL b (.Name x pos) δ (.sh (.lst ds)) (δ.set i (some (.sh (.lst ds)))) := by
 have := vF (CL := CL) (b := b) (pos := pos) n h
 rwa [T.fh, j6] at this
end
section
variable {K : PySem.W.Frag} {CL : Str -> Addr} {b : Bx} {H H' Z Z' : Hp} {δ δ' : List (Option T)} {σ σ' : L2.St} {ts tl : List T} {vs us : List V} {t : T} {v : V}
theorem qt.get : ∀ {fs : List (Str × D)} {gs : List (Str × V)} {f : Str} {d : D}, qt K CL Z fs gs -> fs.lookup f = some d -> ∃ v, gs.lookup f = some v /\ bq K CL Z d v
 | _, _, _, _, .nil, e => by simp at e
 | _, _, f, d, .cons (x := x) r t, e => by
   rw [aeO] at e ⊢
   cases h : f == x with
   | true => rw [h] at e; cases e; exact ⟨_, rfl, r⟩
   | false => rw [h] at e; exact qt.get t e
noncomputable def zP (f : Str) (t : T) : List (Str × T) -> List (Str × T)
 | [] => [(f, t)]
 | (g, x) :: r => if g = f then (g, t) :: r else (g, x) :: zP f t r
theorem dz.length {fs : List (Str × T)} {gs : List (Str × V)} {fp : List Addr} (h : dz K CL H Z fs gs fp) : fs.length = gs.length :=
 dz.ind (P := fun d v _ => d.length = v.length) rfl (fun _ _ i => congrArg (· + 1) i) h
theorem dz.put {f : Str} {g : List Addr} (q : cU K CL H Z t v g) : ∀ {fs : List (Str × T)} {gs : List (Str × V)} {fp : List Addr}, dz K CL H Z fs gs fp →
   ∃ Hg f', dz K CL H Z (zP f t fs) (kG f v gs) Hg /\ f'.Sublist fp /\ Hg.Perm (g ++ f')
 | _, _, _, .nil => ⟨g ++ [], [], .cons q .nil, aeG _, afN _⟩
 | _, _, _, .cons (x := x) (fp := fp) (gp := gp) r rs => by
   rw [zP, kG]
   by_cases h : x = f
   . rw [aer h, aer h]
     exact ⟨g ++ gp, gp, .cons q rs, ae5 _ _, afN _⟩
   . rw [aeq h, aeq h]
     obtain ⟨p, p', h1, h2, h3⟩ := dz.put (f := f) q rs
     refine ⟨fp ++ p, fp ++ p', .cons r h1, aeL (aeG _) h2, (aeT fp h3).trans ?_⟩
     rw [← aed, ← aed]
     exact aeP.append_right p'
theorem bJ.Lp {a : Addr} {o : HO} {Hg gp fp Uj : List Addr} {δ2 : List (Option T)} (hm : nV o = false) (S : bJ K CL b H Z δ σ ts vs) (own : ∀ c ∈ fp ++ gp, Z c = none /\ b.B c = none) (ha : a ∈ fp ++ gp)
   (e' : gI K CL (upd H a o) Z δ2 σ Hg) (r' : aL K CL (upd H a o) Z tl us Uj) (pm : (Hg ++ Uj).Nodup) (sub : ∀ c ∈ Hg ++ Uj, c ∈ fp ++ gp) :
   bJ K CL b (upd H a o) Z δ2 σ tl us := by
 have oa := own a ha
 refine ⟨⟨_, _, e', r', pm, fun c hc => own c (sub c hc)⟩, fun c u q => ?_, S.zz, fun c u q => ?_, S.new, fun c u q i => ?_, S.tab⟩
 . rw [aB (bx q oa.2)]; exact S.bh c u q
 . rw [aB (bx q oa.1)]; exact S.zh c u q
 . by_cases hc : c = a
   . subst hc; rw [aQ] at q; cases q; rw [hm] at i; cases i
   . rw [aB hc] at q; exact S.tp c u q i
theorem bJ.setField {i : Nat} {x : Addr} {c f : Str} {fs : List (Str × T)} (S : bJ K CL b H Z δ σ (t :: ts) (v :: vs)) (hi : δ[i]? = some (some (.pin x (.ins c fs)))) :
   ∃ dx gs, σ[i]? = some (some (.ref x)) /\ H x = some (.ins (CL c) dx gs) /\ gs.length = fs.length /\ bJ K CL b (upd H x (.ins (CL c) dx (kG f v gs))) Z (δ.set i (some (.pin x (.ins c (zP f t fs))))) σ ts vs := by
 obtain ⟨fp, gp, e, r, nd, k⟩ := S.rep
 obtain ⟨v0, f1, f2, f3, hv, vq, rt, put, _⟩ := e.get hi
 subst vq
 cases rt with
 | pin rt =>
 cases rt with
 | @ins a dx _ gs _ g ha rs =>
   cases r with
   | @cons _ _ _ _ ft gr q1 q2 =>
     have ne : ∀ c ∈ (f1 ++ (g ++ f3)) ++ (ft ++ gr), c ≠ x := fun c hc e => by
       subst e
       have hp : ((f1 ++ ((c :: g) ++ f3)) ++ (ft ++ gr)).Perm (c :: ((f1 ++ (g ++ f3)) ++ (ft ++ gr))) := by
         rw [aeB, ← aeB]
         exact (afk.append_right _)
       exact (ae9.mp (hp.nodup_iff.mp nd)).1 hc
     refine ⟨dx, gs, hv, ha, rs.length.symm, ?_⟩
     have q1' := q1.mono (H' := upd H x (.ins (CL c) dx (kG f v gs))) (.refl _) fun c hc => aB (ne c (by simp [hc]))
     have rs' := rs.mono (H' := upd H x (.ins (CL c) dx (kG f v gs))) (.refl _) fun c hc => aB (ne c (by simp [hc]))
     obtain ⟨p, p', h1, h2, h3⟩ := dz.put (f := f) q1' rs'
     have r1 : cU K CL (upd H x (.ins (CL c) dx (kG f v gs))) Z (.pin x (.ins c (zP f t fs))) (.ref x) (x :: p) := .pin (.ins aQ h1)
     have e2 := put (H' := upd H x (.ins (CL c) dx (kG f v gs))) (.refl _) (fun c hc => aB (ne c (by
       rcases aen.mp hc with h | h
       . simp [h]
       . simp [h]))) r1
     rw [rW hv] at e2
     have hp : ((f1 ++ ((x :: p) ++ f3)) ++ gr).Perm ((f1 ++ ((x :: p') ++ f3)) ++ (ft ++ gr)) := by
       have h4 : ((f1 ++ ((x :: p) ++ f3)) ++ gr).Perm ((f1 ++ ((x :: (ft ++ p')) ++ f3)) ++ gr) := ((h3.cons x).append_right f3).append_left f1 |>.append_right gr
       refine h4.trans ?_
       simp only [aeB, aed]
       refine aeT f1 (List.Perm.cons x ?_)
       have := (aeP (l₁ := ft) (l₂ := p' ++ f3)).append_right gr
       simp only [aed] at this
       exact this
     have sb : ((f1 ++ ((x :: p') ++ f3)) ++ (ft ++ gr)).Sublist ((f1 ++ ((x :: g) ++ f3)) ++ (ft ++ gr)) :=
       aeL (aeL (aeG _) (aeL (List.Sublist.cons₂ x h2) (aeG _))) (aeG _)
     exact S.Lp rfl k (by simp) e2 (q2.mono (.refl _) fun c hc => aB (ne c (by simp [hc]))) (hp.nodup_iff.mpr (nd.sublist sb)) fun c hc => sb.subset (hp.mem_iff.mp hc)
end
section
variable {X : Cx} {CL : Str -> Addr} {b : Bx} {δ δ1 δ2 : List (Option T)} {e : Expr} {es : List Expr} {t : T} {d : D} {c f x : Str} {fs : List (Str × D)} {pos pp : Pos} {DD : cH} {i : Nat}
theorem cg (hc : rQ X.K (CL c)) (n : aH X.K (CL c) f) (h : cG X CL b e δ (.ins c fs) δ1) (hl : fs.lookup f = some d) (hb : attributeBase e f X.env (eval e X.env) = eval e X.env := by rfl) :
   cG X CL b (.Attribute e f pos) δ d δ1 := fun H Z σ ts vs Q S k =>
 cC (Kw dB hb) (h H Z σ ts vs _ S fun v H' Z' z s S' r => by
   cases r with
   | @ins a dx _ gs _ ha rf =>
     obtain ⟨w, hw, TN⟩ := rf.get hl
     exact ⟨a, CL c, dx, gs, w, rfl, ha, hc, n, hw, k w H' Z' z s S' TN⟩)
theorem iI (hc : rQ X.K (CL c)) (n : aH X.K (CL c) f) (h : bS X CL b e δ (.sh (.ins c fs)) δ1) (hl : fs.lookup f = some d) (hb : attributeBase e f X.env (eval e X.env) = eval e X.env := by rfl) :
   bS X CL b (.Attribute e f pos) δ (.sh d) δ1 := fun H Z σ ts vs Q S k =>
 cC (Kw dB hb) (h H Z σ ts vs _ S fun v H' Z' z s S' => by
   obtain ⟨fp, gp, _, r, _, _⟩ := S'.rep
   cases r with
   | cons r _ =>
     cases r with
     | sh r =>
       cases r with
       | @ins a dx _ gs _ ha rf =>
         obtain ⟨w, hw, TN⟩ := rf.get hl
         exact ⟨a, CL c, dx, gs, w, rfl, S'.zh _ _ ha, hc, n, hw, k w H' Z' z s (S'.pop.push TN)⟩)
theorem rZ {gi : List Stmt} {a : Addr} {gs : List (Str × T)} {pa pb pc : Pos} (hc : rQ X.K (CL c)) (n : aH X.K (CL c) f) (nm : Vn X i x) (h : bS X CL b e δ t δ1) (h1 : δ1[i]? = some (some (.pin a (.ins c gs)))) (hl : gs.length < 1000)
   (k : gk X CL b gi (δ1.set i (some (.pin a (.ins c (zP f t gs))))) DD) (hs : swapsWith e (some (.Attribute (.Name x pa) f pb)) pc.line X.env = pure false := by rfl) :
   gk X CL b (.Assign [.Attribute (.Name x pa) f pb] e pc :: gi) δ DD := eK fun H Z σ ts vs E S M =>
 xO (TF (mE nm.hi nm.hv nm.hd nm.n8) dB hs) (h H Z σ ts vs _ S fun v H' Z' z s S' => by
   obtain ⟨dx, ws, hv, hx, hlen, S2⟩ := S'.setField (f := f) h1
   exact ⟨.ref a, hv, a, CL c, dx, ws, rfl, hx, hc, n, by rw [hlen]; exact hl, M.nx _ σ _ Z' z S2 k⟩)
end
noncomputable def Xo (K : PySem.W.Frag) (CL : Str -> Addr) {A : Type} (c : Str) (n : Nat) (arg : A -> List D) (Pre : A -> Prop) (res : A -> List (Str × T)) : Sp := fun vs H Q _ =>
 ∃ (W H0 : Hp) (a : A) (x dx : Addr) (us : List V), vs = .ref x :: us /\ H0 x = none /\ H0 dx = none /\ dx ≠ x /\ H = upd (upd H0 dx (.own x)) x (.ins (CL c) dx []) ∧
   aD W H0 /\ (∀ c o, H0 c = some o -> nV o = true -> W c = some o) /\ aE K CL W (arg a) us /\ (arg a).length + 1 = n /\ Pre a /\ ou CL W ∧
   ∀ H' W' fp, aD H0 H' -> aD W W' -> aD W' H' -> (∀ c o, W' c = some o -> W c = none -> H0 c = none) -> (∀ c o, H' c = some o -> nV o = true -> W' c = some o) →
     cU K CL H' W' (.ins c (res a)) (.ref x) fp -> fp.Nodup -> (∀ c ∈ fp, W' c = none /\ H0 c = none) -> Q .non H'
section
variable {X : Cx} {CL : Str -> Addr} {b : Bx} {δ δ1 δ2 : List (Option T)} {e o : Expr} {es : List Expr} {pos pp apos : Pos}
variable {A : Type} {k n : Nat} {f : Addr} {fd : FuncData} {ps : List Str} {arg : A -> List D} {Pre : A -> Prop} {x c m : Str}
theorem Pb {res : A -> List (Str × T)} (a : A) (M : Mk X.K (CL c) f) (F : bT X.prog X.w X.K X.mg X.base jA k f fd ps (Xo X.K CL c n arg Pre res)) (hr : gW (k + 1) X.A) (hm : X.mg x = some (.ref (CL c))) (hb : Binds X.K fd ps [])
   (h : RP X CL b (e :: es) δ (arg a) δ1) (hn : (arg a).length + 1 = n) (hp : Pre a) (hc : T.bV (res a) = true) (hg : Gl X x)
   (vR : (x == ("__debug__" : Str)) = false := by decide) (he : starEach (e :: es) X.env = (false, eval e X.env) :: starEach es X.env := by exact bR rfl) (vS : (backTo pos (starEach es X.env)).any (·.1) = false := by rfl) :
   bS X CL b (.Call (.Name x pp) (e :: es) [] pos) δ (.ins c (res a)) δ1 := fun H Z σ ts vs Q S kk =>
 cC (GY M F hr hg hm hb .nil Di N2 vR he vS) (h H Z σ ts vs _ S fun us H1 Z1 z1 k1 S1 r x dx hx Xp ne => by
   rw [aeY]
   refine ⟨H1, H1, a, x, dx, us, rfl, hx, Xp, ne, rfl, .refl _, fun _ _ q _ => q, r, hn, hp, S1.OS, fun H' W' fp hh ww wh nw tp rt nd own => ⟨rfl, ?_⟩⟩
   obtain ⟨Z', z', S'⟩ := S1.back hh S1.zh ww wh nw tp rt nd own (.inr (by rw [T.clean]; exact hc))
   exact kk _ H' Z' (z1.trans z') (k1.trans hh) S')
end
theorem Hh {P : Program} {w : World} {K : PySem.W.Frag} {mg : Str -> Option Value} {base : Heap} {CL : Str -> Addr} {x qual c : Str} {st : Stmt} {f : Addr} {fd : FuncData} {N ps : List Str} {k : Nat} {A : Type} {arg : A -> List D} {Pre : A -> Prop} {res : A -> List (Str × T)} (F : lN K x qual st f fd) (S : aK N ps (aq st))
   (hb : ∀ (gf : Value) (Ar : Around) (outer : List Env) (s : Shared) (H : Hp) (E : XK) (b : Bx) (a : A) (y : Addr), gW k (Ar.deeper (envOfC qual (aq st) s.heap.objs.size f gf)) -> Pre a →
     gk (C9 jA P w K mg base N qual (aq st) f gf Ar outer s H E).V4 CL b (jx st) (some (.pin y (.ins c [])) :: ((arg a).map (fun d => some (T.sh d)) ++ List.replicate (N.length - ((arg a).length + 1)) none))
       { nx := fun δ => δ[0]? = some (some (.pin y (.ins c (res a)))), rt := fun _ _ => False }) :
   bT P w K mg base jA (k + 1) f fd ps (Xo K CL c ps.length arg Pre res) := by
 refine F.ok S (fun vs H Q E h => ?_) (fun gf Ar outer s H vs Q E hr h => ?_)
 . obtain ⟨W, H0, a, y, dx, us, rfl, _, _, _, _, _, _, r, hl, _⟩ := h
   rw [aeV, ← r.length]; exact hl
 . obtain ⟨W, H0, a, y, dx, us, rfl, hy, Xp, ne, rfl, wh, tp, r, hl, hp, tb, kk⟩ := h
   have old : ∀ {d : Addr} {o : HO}, H0 d = some o -> upd (upd H0 dx (.own y)) y (.ins (CL c) dx []) d = some o := fun {d o} q => by
     rw [aB (bx q hy), aB (bx q Xp)]; exact q
   refine ⟨_, OQ, hb gf Ar outer s _ E ⟨H0, W⟩ a y hr hp _ W _ [] [] _ ⟨⟨[y] ++ [], [], ?_, .nil, by simp, fun d hd => ?_⟩, fun d o q => old q, .refl _, fun d o q => old (wh d o q), fun d o q z => ?_, fun d o q i => ?_, tb⟩ ⟨fun δ' σ' H' Z' s' S' e => ?_, fun t v H' Z' δ' σ' s' S' e => e.elim, fun _ _ _ _ _ _ e => e.elim, fun _ _ _ _ _ _ e => e.elim⟩⟩
   . unfold L2.start
     rw [aew, aeV, aeB, ← r.length]
     exact .cons (.pin (.ins aQ .nil)) (mH _ r)
   . have : d = y := by simpa using hd
     subst this
     exact ⟨Ua wh hy, hy⟩
   . have q' : W d = some o := q
     have z' : W d = none := z
     rw [q'] at z'; cases z'
   . by_cases h1 : d = y
     . subst h1; rw [aQ] at q; cases q; cases i
     . rw [aB h1] at q
       by_cases h2 : d = dx
       . subst h2; rw [aQ] at q; cases q; cases i
       . rw [aB h2] at q; exact tp d o q i
   . obtain ⟨fp, gp, eE, _, nd, own⟩ := S'.rep
     obtain ⟨v, f1, f2, f3, hv, vq, rt, _, _⟩ := eE.get e
     subst vq
     cases rt with
     | pin rt =>
       refine kk H' Z' f2 S'.bh S'.zz S'.zh S'.new S'.tp rt ?_ fun d hd => own d (by simp [hd])
       have h1 := (ae0.mp nd).1
       exact (ae0.mp (ae0.mp h1).2.1).1
section
variable {X : Cx} {CL : Str -> Addr} {b : Bx} {δ δ1 δ2 : List (Option T)} {e e1 e2 : Expr} {es : List Expr} {t : T} {d : D} {ds Jd : List D} {x : Str} {pos pp : Pos} {DD : cH} {i : Nat} {gi body : List Stmt}
theorem Hi (g : Gx X) (P : Nat -> List (Option T) -> Prop) (m : Nat) (h0 : P m δ)
   (hs : ∀ m δ, P m δ -> ∃ p δ1, pN X CL b e δ p δ1 ∧
     (p = true -> gk X CL b body δ1 { nx := fun δ2 => ∃ m', m' < m /\ P m' δ2, rt := DD.rt, bk := fun δ2 => gk X CL b gi δ2 DD, ct := fun δ2 => ∃ m', m' < m /\ P m' δ2 }) /\ (p = false -> gk X CL b gi δ1 DD)) :
   gk X CL b (.While e body [] pos :: gi) δ DD := eK fun H Z σ ts vs E S M =>
 xO (Ko (by rw [g.xe]; exact PassesOwn.never) RM OQ) (by
   refine ⟨fun m σ H => ∃ Z2 δ2, aD Z Z2 /\ bJ X.K CL b H Z2 δ2 σ ts vs /\ P m δ2, ⟨m, Z, δ, .refl _, S, h0⟩, ?_⟩
   rintro m σ H ⟨Z2, δ2, z2, S2, p2⟩
   obtain ⟨p, δ3, ht, h1, h2⟩ := hs m δ2 p2
   refine ht H Z2 σ ts vs _ S2 fun H3 Z3 z3 k3 S3 => ?_
   cases p with
   | true =>
     rw [aer rfl]
     refine ⟨fun σ' H' => ∃ m', m' < m /\ ∃ Z2 δ2, aD Z Z2 /\ bJ X.K CL b H' Z2 δ2 σ' ts vs /\ P m' δ2, fun σ' H' q => q, ?_⟩
     refine h1 rfl H3 Z3 σ ts vs _ S3 ⟨fun δ' σ' H' Z' s' S' ⟨m', l, q⟩ => ⟨m', l, Z', δ', z2.trans (z3.trans s'), S', q⟩, fun t v H' Z' δ' σ' s' S' q => M.rt t v H' Z' δ' σ' (z2.trans (z3.trans s')) S' q,
       fun δ' σ' H' Z' s' S' q => M.nx δ' σ' H' Z' (z2.trans (z3.trans s')) S' q, fun δ' σ' H' Z' s' S' ⟨m', l, q⟩ => ⟨m', l, Z', δ', z2.trans (z3.trans s'), S', q⟩⟩
   | false =>
     rw [aeq (by decide)]
     exact M.nx δ3 σ H3 Z3 (z2.trans z3) S3 (h2 rfl))
noncomputable def Xq (K : PySem.W.Frag) : R2 := fun x y H Q => ∃ l b xs zs, x = .ref l /\ y = .ref b /\ qk K H l xs /\ qk K H b zs /\ xs.length + zs.length <= sizeLine /\ ∀ p, H p = none -> Q (.ref p) (upd H p (.lst (xs ++ zs)))
theorem Pg : ql X (binaryOp .Add) (Xq X.K) := by
 intro pins s σ H x y v u Q I rx ry h
 obtain ⟨l, b, xs, zs, rfl, rfl, hH, hB, hz, q⟩ := h
 cases rx
 cases ry
 obtain ⟨its, r, pl, _⟩ := I.list hH
 obtain ⟨Us, r2, pl2, _⟩ := I.list hB
 have e1 := r.length
 have e2 := r2.length
 obtain ⟨⟨c1, dd, da1, sl⟩, ho, hc, n, hd⟩ := pl.isList
 obtain ⟨⟨c2, dd2, da2, sl2⟩, ho2, hc2, n2, hd2⟩ := pl2.isList
 cases hc; cases hc2; cases hd; cases hd2
 refine concat_meets ⟨_, ho, rfl⟩ ⟨_, ho2, rfl⟩ noFill_list_add seq_list_add PySem.F.slot_list_add PySem.F.entry_list_add (PySem.F.args_list_add_2 (Value.ref l) (Value.ref b))
   (list_addW l b its.toArray Us.toArray n n2 dd dd2 sl sl2 (by rw [aeE, aeE]; omega)) ⟨ho, ho2, ?_⟩
 have ea : its.toArray ++ Us.toArray = (its ++ Us).toArray := by simp
 rw [ea]
 exact ⟨.ref _, _, I.ZX (t' := s.toks) (r.append r2) (by rw [aex]; omega), rfl, q _ I.fresh⟩
theorem aE.app {K : PySem.W.Frag} {Z : Hp} {ds Jd : List L3.D} {vs vs2 : List V} (h : aE K CL Z ds vs) (r2 : aE K CL Z Jd vs2) : aE K CL Z (ds ++ Jd) (vs ++ vs2) :=
 aE.ind (P := fun ds vs => aE K CL Z (ds ++ Jd) (vs ++ vs2)) r2 (fun r _ i => .cons r i) h
theorem w6 (h1 : cG X CL b e1 δ (.lst ds) δ1) (h2 : cG X CL b e2 δ1 (.lst Jd) δ2) (i1 : D.bZ ds = true) (i2 : D.bZ Jd = true) (hz : ds.length + Jd.length <= sizeLine) :
   bS X CL b (.BinOp e1 .Add e2 pos) δ (.lst ((ds ++ Jd).map T.sh)) δ2 := fun H Z σ ts vs Q S k =>
 cC (Rz Pg dB dB) (h1 H Z σ ts vs _ S fun v1 H1 Z1 z1 k1 S1 r1 => h2 H1 Z1 σ ts vs _ S1 fun v2 H2 Z2 z2 k2 S2 r2 => by
   have Xf := r1.mono k2
   cases Xf with
   | lst hq1 rr1 =>
     cases r2 with
     | lst hq2 rr2 =>
       refine ⟨_, _, _, _, rfl, rfl, hq1, hq2, by rw [← rr1.length, ← rr2.length]; exact hz, fun p hp => ?_⟩
       have rc := aE.app (aE.nM S2.tp i1 rr1) (aE.nM S2.tp i2 rr2)
       obtain ⟨c, S4⟩ := (bJ.xQ rc S2).uC (g0 := []) (by simp [rc.length, rr1.length, rr2.length]) hp
       exact k _ _ _ (z1.trans z2) (k1.trans (k2.trans c)) S4)
theorem boot_str : bootBuiltins "str" = some (.type "str") := by decide +kernel
theorem Hj {i : Int} (hm : X.mg "str" = none) (hg : Gl X "str") (h : cG X CL b e δ (.int i) δ1) (hi : i.natAbs.log2 < 1920) (hs : starEach [e] X.env = (false, eval e X.env) :: starEach [] X.env := by exact bR rfl) :
   bS X CL b (.Call (.Name "str" pp) [e] [] pos) δ (.sh (.str (toString i))) δ1 := fun H Z σ ts vs Q S k =>
 cC (lR Ay hg hm boot_str (cy dB gH hs) (he := hs)) (h H Z σ ts vs _ S fun v H1 Z1 z1 k1 S1 r => by
   rw [r.sc rfl]
   exact ⟨i, rfl, hi, k _ H1 Z1 z1 k1 (S1.push (.str _))⟩)
end
structure Fm (X : Cx) (CL : Str -> Addr) (x : Str) (k n : Nat) {A : Type} (arg : A -> List D) (Pre : A -> Prop) (res : A -> List (Str × T)) : Prop where
 ex : ∃ f fd ps, Mk X.K (CL x) f /\ bT X.prog X.w X.K X.mg X.base jA k f fd ps (Xo X.K CL x n arg Pre res) /\ X.mg x = some (.ref (CL x)) /\ Binds X.K fd ps []
 room : gW (k + 1) X.A
noncomputable def Lq (N : List Str) (y : Addr) (c : Str) (ds : List D) : List (Option T) := some (.pin y (.ins c [])) :: (ds.map (fun d => some (T.sh d)) ++ List.replicate (N.length - (ds.length + 1)) none)
theorem Ut {K : PySem.W.Frag} {CL CL' : Str -> Addr} {arg : List Int -> List D} {pre : List Int -> Prop} {res : List Int -> T} (ha : ∀ a, arg a = [.lst (a.map .int)]) (hr : ∀ a, res a = .sh (.bl true)) (h0 : ∀ x, G5 x = true -> CL x = 0) :
   ∀ (vs : List V) (H : Hp) (Q : VK) (E : XK), lu K CL' 1 arg pre res vs H Q E -> lu K CL 1 arg pre res vs H Q E := by
 rintro vs H Q E ⟨W, a, h1, h2, h3, h4, h5, _, k⟩
 have Uu : ∀ {l : List Int} {us : List V}, aE K CL' W (l.map .int) us -> aE K CL W (l.map .int) us := by
   intro l
   induction l with
   | nil => intro us r; cases r; exact .nil
   | cons i l ih =>
     intro us r
     cases r with
     | cons r t => cases r; exact .cons (.int i) (ih t)
 refine ⟨W, a, h1, h2, ?_, h4, h5, fun x hx e => absurd (h0 x hx) e, fun v H' W' fp a1 a2 a3 a4 a5 r nd own => k v H' W' fp a1 a2 a3 a4 a5 ?_ nd own⟩
 . rw [ha] at h3 ⊢
   cases h3 with
   | cons r t =>
     cases t
     cases r with
     | lst q rr => exact .cons (.lst q (Uu rr)) .nil
 . rw [hr] at r ⊢
   cases r with
   | sh r => cases r; exact .sh (.bl _)
section
variable {X : Cx} {CL : Str -> Addr} {b : Bx} {δ δ1 δ2 : List (Option T)} {e e1 e2 o : Expr} {es : List Expr} {d : L3.D} {t : T} {i : Nat} {x c m : Str} {pos pp apos : Pos} {D : cH} {gi : List Stmt} {ds : List L3.D}
theorem mk_ {k n : Nat} {A : Type} {arg : A -> List L3.D} {Pre : A -> Prop} {res : A -> List (Str × T)} (a : A) (F : Fm X CL x k n arg Pre res) (hg : Gl X x) (h : RP X CL b (e :: es) δ (arg a) δ1) (hp : Pre a) (hc : T.bV (res a) = true) (hn : (arg a).length + 1 = n := by rfl)
   (vR : (x == ("__debug__" : Str)) = false := by decide) (he : starEach (e :: es) X.env = (false, eval e X.env) :: starEach es X.env := by exact bR rfl) (vS : (backTo pos (starEach es X.env)).any (·.1) = false := by rfl) :
   bS X CL b (.Call (.Name x pp) (e :: es) [] pos) δ (.ins x (res a)) δ1 := by
 obtain ⟨f, fd, ps, M, F1, m, b⟩ := F.ex
 exact Pb a M F1 F.room m b h hn hp hc hg vR he vS
end
theorem j9 {α : Type} {f : Str} {d : α} {fs : List (Str × α)} : ((f, d) :: fs).lookup f = some d := by
 rw [aeO, beq_self_eq_true]
theorem c7 {α : Type} {f g : Str} {d : α} {fs : List (Str × α)} (h : (f == g) = false) : ((g, d) :: fs).lookup f = fs.lookup f := by
 rw [aeO, h]
theorem iJ {f : Str} {t : T} : zP f t [] = [(f, t)] := rfl
theorem bK {f g : Str} {t u : T} {fs : List (Str × T)} (h : ¬ g = f) : zP f t ((g, u) :: fs) = (g, u) :: zP f t fs := by
 rw [zP, aeq h]
section
variable {X : Cx} {CL : Str -> Addr} {b : Bx} {δ δ1 δ2 : List (Option T)} {e1 e2 : Expr} {x : Str} {pos : Pos} {d : L3.D}
theorem AU (x : Int) : ∀ l : List Int, RG (.int x) (l.map V.int) = decide (x ∈ l)
 | [] => by simp [RG]
 | y :: l => by
   have ih := AU x l
   unfold RG at ih ⊢
   rw [aew, ae7, ih]
   by_cases h : y = x
   . subst h; simp [KG]
   . have h' : ¬ x = y := fun e => h e.symm
     simp [KG, h, h']
theorem aE.ints {K : PySem.W.Frag} {Z : Hp} : ∀ {l : List Int} {vs : List V}, aE K CL Z (l.map D.int) vs -> vs = l.map V.int
 | [], _, r => by
   have r' : aE K CL Z [] _ := r
   cases r'; rfl
 | y :: l, _, r => by
   have r' : aE K CL Z (D.int y :: l.map D.int) _ := r
   cases r' with
   | cons r1 r2 => rw [r1.sc rfl, aE.ints r2]; rfl
theorem mL : ∀ l : List Int, (l.map V.int).all qq = true
 | [] => rfl
 | y :: l => by rw [aew, afc, mL l]; rfl
noncomputable def xV (d : L3.D) : Option (List L3.D) := match d with
 | .lst ds => some ds
 | .tup ds => some ds
 | _ => none
theorem bq.xV {K : PySem.W.Frag} {Z : Hp} {v : V} {ds : List L3.D} (r : bq K CL Z d v) (h : L3.xV d = some ds) : ∃ p us, v = .ref p /\ (qk K Z p us \/ wX K Z p us) /\ aE K CL Z ds us := by
 cases r with
 | tup hq rr => cases h; exact ⟨_, _, rfl, .inr hq, rr⟩
 | lst hq rr => cases h; exact ⟨_, _, rfl, .inl hq, rr⟩
 | non => cases h
 | bl => cases h
 | int => cases h
 | str => cases h
 | any => cases h
 | val => cases h
 | pM => cases h
 | dct => cases h
 | ins => cases h
theorem Ph {l : List Int} {i : Int} (h1 : cG X CL b e1 δ (.int i) δ1) (h2 : cG X CL b e2 δ1 d δ2) (hd : L3.xV d = some (l.map .int)) (hm : behindInMarks .NotIn e2 = false) :
   pN X CL b (.Compare e1 [.NotIn] [e2] pos) δ (!decide (i ∈ l)) δ2 /\ bS X CL b (.Compare e1 [.NotIn] [e2] pos) δ (.sh (.bl (!decide (i ∈ l)))) δ2 := by
 constructor
 . intro H Z σ ts vs Q S k
   refine xN (pK j5 dB dB hm) (h1 H Z σ ts vs _ S fun v1 H1 Z1 z1 k1 S1 r1 => h2 H1 Z1 σ ts vs _ S1 fun v2 H2 Z2 z2 k2 S2 r2 => ?_)
   obtain ⟨p, us, rfl, hq, rr⟩ := bq.xV r2 hd
   have e := rr.ints
   subst e
   refine ⟨_, _, rfl, hq, by rw [r1.sc rfl]; rfl, mL l, _, rfl, ?_⟩
   rw [aer rfl, r1.sc rfl, AU]
   exact k H2 Z2 (z1.trans z2) (k1.trans k2) S2
 . intro H Z σ ts vs Q S k
   refine cC (pJ j5 dB dB hm) (h1 H Z σ ts vs _ S fun v1 H1 Z1 z1 k1 S1 r1 => h2 H1 Z1 σ ts vs _ S1 fun v2 H2 Z2 z2 k2 S2 r2 => ?_)
   obtain ⟨p, us, rfl, hq, rr⟩ := bq.xV r2 hd
   have e := rr.ints
   subst e
   refine ⟨_, _, rfl, hq, by rw [r1.sc rfl]; rfl, mL l, ?_⟩
   rw [aer rfl, r1.sc rfl, AU]
   exact k _ H2 Z2 (z1.trans z2) (k1.trans k2) (S2.push (.bl _))
theorem Hl {l : List Str} (h1 : cG X CL b e1 δ (.str x) δ1) (h2 : cG X CL b e2 δ1 d δ2) (hd : L3.xV d = some (l.map .str)) (hm : behindInMarks .In e2 = false) :
   pN X CL b (.Compare e1 [.In] [e2] pos) δ (decide (x ∈ l)) δ2 /\ bS X CL b (.Compare e1 [.In] [e2] pos) δ (.sh (.bl (decide (x ∈ l)))) δ2 := by
 constructor
 . intro H Z σ ts vs Q S k
   refine xN (pK pL dB dB hm) (h1 H Z σ ts vs _ S fun v1 H1 Z1 z1 k1 S1 r1 => h2 H1 Z1 σ ts vs _ S1 fun v2 H2 Z2 z2 k2 S2 r2 => ?_)
   obtain ⟨p, us, rfl, hq, rr⟩ := bq.xV r2 hd
   have e := rr.strs
   subst e
   refine ⟨_, _, rfl, hq, by rw [r1.sc rfl]; rfl, eV l, _, rfl, ?_⟩
   rw [aeq aep, r1.sc rfl, mK]
   exact k H2 Z2 (z1.trans z2) (k1.trans k2) S2
 . intro H Z σ ts vs Q S k
   refine cC (pJ pL dB dB hm) (h1 H Z σ ts vs _ S fun v1 H1 Z1 z1 k1 S1 r1 => h2 H1 Z1 σ ts vs _ S1 fun v2 H2 Z2 z2 k2 S2 r2 => ?_)
   obtain ⟨p, us, rfl, hq, rr⟩ := bq.xV r2 hd
   have e := rr.strs
   subst e
   refine ⟨_, _, rfl, hq, by rw [r1.sc rfl]; rfl, eV l, ?_⟩
   rw [aeq aep, r1.sc rfl, mK]
   exact k _ H2 Z2 (z1.trans z2) (k1.trans k2) (S2.push (.bl _))
theorem Ho {l : List Str} (h1 : cG X CL b e1 δ (.str x) δ1) (h2 : cG X CL b e2 δ1 d δ2) (hd : L3.xV d = some (l.map .str)) (hm : behindInMarks .NotIn e2 = false) :
   pN X CL b (.Compare e1 [.NotIn] [e2] pos) δ (!decide (x ∈ l)) δ2 /\ bS X CL b (.Compare e1 [.NotIn] [e2] pos) δ (.sh (.bl (!decide (x ∈ l)))) δ2 := by
 constructor
 . intro H Z σ ts vs Q S k
   refine xN (pK j5 dB dB hm) (h1 H Z σ ts vs _ S fun v1 H1 Z1 z1 k1 S1 r1 => h2 H1 Z1 σ ts vs _ S1 fun v2 H2 Z2 z2 k2 S2 r2 => ?_)
   obtain ⟨p, us, rfl, hq, rr⟩ := bq.xV r2 hd
   have e := rr.strs
   subst e
   refine ⟨_, _, rfl, hq, by rw [r1.sc rfl]; rfl, eV l, _, rfl, ?_⟩
   rw [aer rfl, r1.sc rfl, mK]
   exact k H2 Z2 (z1.trans z2) (k1.trans k2) S2
 . intro H Z σ ts vs Q S k
   refine cC (pJ j5 dB dB hm) (h1 H Z σ ts vs _ S fun v1 H1 Z1 z1 k1 S1 r1 => h2 H1 Z1 σ ts vs _ S1 fun v2 H2 Z2 z2 k2 S2 r2 => ?_)
   obtain ⟨p, us, rfl, hq, rr⟩ := bq.xV r2 hd
   have e := rr.strs
   subst e
   refine ⟨_, _, rfl, hq, by rw [r1.sc rfl]; rfl, eV l, ?_⟩
   rw [aer rfl, r1.sc rfl, mK]
   exact k _ H2 Z2 (z1.trans z2) (k1.trans k2) (S2.push (.bl _))
end
section
variable {X : Cx} {CL : Str -> Addr} {b : Bx} {δ δ1 δ2 : List (Option T)} {e : Expr} {es : List Expr} {d : L3.D} {ds : List L3.D} {t : T} {i : Nat} {x : Str} {pos pp : Pos} {DD : cH} {gi : List Stmt}
theorem jl : EJ X CL b [] δ (([] : List L3.D).map T.sh) δ := eG
theorem aR (h1 : bS X CL b e δ (.sh d) δ1) (h2 : EJ X CL b es δ1 (ds.map T.sh) δ2) (hs : starEach (e :: es) X.env = (false, eval e X.env) :: starEach es X.env := by exact bR rfl) : EJ X CL b (e :: es) δ ((d :: ds).map T.sh) δ2 := c5 h1 h2 hs
theorem Pj (h : EJ X CL b es δ (ds.map T.sh) δ1) (hl : ds.length <= sizeLine) : bS X CL b (.List es pos) δ (.lst (ds.map T.sh)) δ1 := dh h (by simpa using hl)
theorem r6 (l : List Str) : D.bZ (l.map L3.D.str) = true := bY (fun _ => rfl) _
theorem Hq (h : bS X CL b e δ (.lst (ds.map T.sh)) δ1) : bS X CL b e δ (.sh (.lst ds)) δ1 := by
 have := AJ h
 rwa [T.fh, j6] at this
theorem AV (h : bS X CL b e δ t δ1) (q : t.fh = d) : bS X CL b e δ (.sh d) δ1 := q ▸ AJ h
theorem Lr {d2 : L3.D} (h : cG X CL b e δ d δ1) (q : d = d2) : cG X CL b e δ d2 δ1 := q ▸ h
theorem aC {t2 : T} (h : bS X CL b e δ t δ1) (q : t = t2) : bS X CL b e δ t2 δ1 := q ▸ h
end
structure AW (Z H Z' H' : Hp) : Prop where
 z : aD Z Z'
 h : aD H H'
 zh : aD Z' H'
 new : ∀ a o, Z' a = some o -> Z a = none -> H a = none
 tp : ∀ a o, H' a = some o -> nV o = true -> Z' a = some o
theorem AW.refl {Z H : Hp} (zh : aD Z H) (tp : ∀ a o, H a = some o -> nV o = true -> Z a = some o) : AW Z H Z H := ⟨.refl _, .refl _, zh, fun a o q z => (by rw [q] at z; cases z), tp⟩
theorem AW.tup {Z H : Hp} {p : Addr} {xs : List V} (zh : aD Z H) (tp : ∀ a o, H a = some o -> nV o = true -> Z a = some o) (hp : H p = none) : AW Z H (upd Z p (.tup xs)) (upd H p (.tup xs)) := by
 have zp : Z p = none := zh.free hp
 refine ⟨aD.upd zp, aD.upd hp, fun a o q => ?_, fun a o q z => ?_, fun a o q i => ?_⟩
 . by_cases e : a = p
   . subst e; rw [aQ] at q ⊢; exact q
   . rw [aB e] at q ⊢; exact zh a o q
 . by_cases e : a = p
   . subst e; exact hp
   . rw [aB e, z] at q; cases q
 . by_cases e : a = p
   . subst e; rw [aQ] at q ⊢; exact q
   . rw [aB e] at q ⊢; exact tp a o q i
section
variable {K : PySem.W.Frag} {CL : Str -> Addr} {b : Bx} {H H' Z Z' : Hp} {δ : List (Option T)} {σ : L2.St} {ts : List T} {vs : List V}
theorem bJ.grow (S : bJ K CL b H Z δ σ ts vs) (g : AW Z H Z' H') : bJ K CL b H' Z' δ σ ts vs := by
 obtain ⟨fp, gp, e, r, nd, k⟩ := S.rep
 have old : ∀ a ∈ fp ++ gp, ∃ o, H a = some o := fun a ha => (aen.mp ha).elim (e.there a) (r.there a)
 have keep : ∀ a ∈ fp ++ gp, H' a = H a := fun a ha => by
   obtain ⟨o, q⟩ := old a ha
   rw [q]; exact g.h a o q
 refine ⟨⟨fp, gp, e.mono g.z (fun a ha => keep a (aei _ ha)), r.mono g.z (fun a ha => keep a (aeb _ ha)), nd, fun a ha => ⟨?_, (k a ha).2⟩⟩, S.bh.trans g.h, S.zz.trans g.z, g.zh, fun a o q z => ?_, g.tp, S.tab⟩
 . cases q : Z' a with
   | none => rfl
   | some o =>
     obtain ⟨u, hu⟩ := old a ha
     rw [g.new a o q (k a ha).1] at hu; cases hu
 . cases e2 : Z a with
   | none => exact S.bh.free (g.new a o q e2)
   | some u =>
     have := g.z a u e2
     rw [q] at this; cases this
     exact S.new a o e2 z
noncomputable def Hr (δ : List (Option T)) : List Nat -> List D -> List (Option T)
 | i :: is, d :: ds => Hr (δ.set i (some (.sh d))) is ds
 | _, _ => δ
noncomputable def xW (σ : L2.St) : List Nat -> List V -> L2.St
 | i :: is, v :: vs => xW (σ.set i (some v)) is vs
 | _, _ => σ
theorem bJ.sets {ps : List D} {ys : List V} : ∀ {is : List Nat} {δ : List (Option T)} {σ : L2.St}, bJ K CL b H Z δ σ ts vs -> aE K CL Z ps ys -> (∀ i ∈ is, i < δ.length) -> bJ K CL b H Z (Hr δ is ps) (xW σ is ys) ts vs := by
 intro is
 induction is generalizing ps ys with
 | nil =>
   intro δ σ S r _
   cases ps <;> cases ys <;> exact S
 | cons i is ih =>
   intro δ σ S r hl
   cases r with
   | nil => exact S
   | cons r rr => exact ih ((S.push r).set (hl i aef)) rr (fun j hj => by rw [List.length_set]; exact hl j (aeh _ hj))
end
section
variable {X : Cx} {CL : Str -> Addr} {b : Bx} {δ δ1 : List (Option T)} {ds : List D} {iter tg : Expr} {pos : Pos}
structure AX (X : Cx) (CL : Str -> Addr) (b : Bx) (δ1 : List (Option T)) (σ : L2.St) (ts : List T) (vs : List V) (Z H : Hp) (ds : List D) (J : It) (H1 : Hp) : Prop where
 ex : ∃ Z1, aD Z Z1 /\ aD H H1 /\ bJ X.K CL b H1 Z1 δ1 σ ts vs /\ (∀ i H2, aD Z1 H2 -> i < ds.length -> J.go i H2) ∧
   (∀ i Z2 H2 x H', aD Z1 Z2 -> aD Z2 H2 -> (∀ a o, H2 a = some o -> nV o = true -> Z2 a = some o) -> i < ds.length -> J.Ry i H2 x H' -> ∃ Z3 d, ds[i]? = some d /\ AW Z2 H2 Z3 H' /\ bq X.K CL Z3 d x) /\ (∀ H2, aD Z1 H2 -> J.stop ds.length H2)
noncomputable def RZ (X : Cx) (CL : Str -> Addr) (b : Bx) (tg e : Expr) (δ : List (Option T)) (ds : List D) (δ1 : List (Option T)) : Prop :=
 ∃ wi, PI X tg e wi /\ ∀ (H Z : Hp) (σ : L2.St) (ts : List T) (vs : List V) (R : It -> Hp -> Prop), bJ X.K CL b H Z δ σ ts vs -> (∀ J H1, AX X CL b δ1 σ ts vs Z H ds J H1 -> R J H1) -> wi σ H R
theorem R0 (h : N4 X CL b tg iter δ ds δ1) : RZ X CL b tg iter δ ds δ1 := by
 obtain ⟨wi, pi, hw⟩ := h
 refine ⟨wi, pi, fun H Z σ ts vs R S k => hw H Z σ ts vs R S fun J H1 zz => ?_⟩
 obtain ⟨Z1, us, z1, k1, S1, rr, go, yl, st⟩ := zz
 refine k J H1 ⟨Z1, z1, k1, S1, go, fun i Z2 H2 x H' s1 s2 tp hi hy => ?_, st⟩
 obtain ⟨e, hu⟩ := yl i H2 x H' (s1.trans s2) hi hy
 subst e
 obtain ⟨d, hd, rd⟩ := rr.OL hu
 exact ⟨Z2, d, hd, .refl s2 tp, rd.mono s1⟩
noncomputable def Xr (X : Cx) (CL : Str -> Addr) (tg : Expr) (is : List Nat) (parts : D -> Option (List D)) : Prop :=
 ∃ t : TG, PG X tg t /\ ∀ (Z H : Hp) (d : D) (ps : List D) (x : V) (σ : L2.St) (Q : L2.St -> Hp -> Prop), aD Z H -> bq X.K CL Z d x -> parts d = some ps -> (∀ ys, aE X.K CL Z ps ys -> Q (xW σ is ys) H) -> t x σ H Q
noncomputable def part1 (d : D) : Option (List D) := some [d]
noncomputable def part2 : D -> Option (List D)
 | .tup [a, c] => some [a, c]
 | _ => none
theorem Je {d : D} {ps : List D} (h : part2 d = some ps) : ∃ d1 d2, d = .tup [d1, d2] /\ ps = [d1, d2] := by
 unfold part2 at h
 split at h
 . cases h; exact ⟨_, _, rfl, rfl⟩
 . cases h
theorem ER {K : PySem.W.Frag} {i j : Nat} {Z H : Hp} {d : D} {ps : List D} {x : V} {σ : L2.St} {Q : L2.St -> Hp -> Prop} (zh : aD Z H) (r : bq K CL Z d x) (e : part2 d = some ps) (k : ∀ ys, aE K CL Z ps ys -> Q (xW σ [i, j] ys) H) : S8 K 2 (C4 (vh i) (C4 (vh j) S7)) x σ H Q := by
 obtain ⟨d1, d2, rfl, rfl⟩ := Je e
 cases r with
 | tup hq rr =>
   cases rr with
   | cons r1 rr =>
     cases rr with
     | cons r2 rr =>
       cases rr
       exact ⟨_, _, rfl, aD.RL zh hq, rfl, _, _, rfl, _, _, rfl, rfl, k _ (.cons r1 (.cons r2 .nil))⟩
theorem Ls {i : Nat} {x : Str} {px : Pos} (hN : X.N.Nodup) (n : Ln X i x) : Xr X CL (.Name x px) [i] part1 :=
 ⟨vh i, pI hN n.hi n.loc n.hf, fun Z H d ps x σ Q zh r e k => by
   cases e
   exact k [x] (.cons r .nil)⟩
theorem Hs {i j k : Nat} {x y : Str} {px py pt : Pos} (hN : X.N.Nodup) (hc : X.calm = true) (n : Ln X i x) (m : Ln X j y) (hs : (assignEach [.Name x px, .Name y py] X.env).map (·.2) = assign (.Name x px) X.env :: (assignEach [.Name y py] X.env).map (·.2) := by rfl) (Eo : (assignEach [.Name y py] X.env).map (·.2) = assign (.Name y py) X.env :: (assignEach [] X.env).map (·.2) := by rfl)
   (hn : (assignEach [.Name x px, .Name y py] X.env).length = 2 := by rfl) (Oj : (assignEach [.Name x px, .Name y py] X.env).findIdx? (·.1) = none := by rfl) : Xr X CL (.Tuple [.Name x px, .Name y py] k pt) [i, j] part2 :=
 ⟨S8 X.K 2 (C4 (vh i) (C4 (vh j) S7)), S9 hc (C5 (pI hN n.hi n.loc n.hf) (C5 (pI hN m.hi m.loc m.hf) Oi Eo) hs) hn Oj, fun Z H d ps x σ Q zh r e k => ER zh r e k⟩
theorem Pk {D : cH} {gi : List Stmt} (is : List Nat) (parts : L3.D -> Option (List L3.D)) (P : Nat -> List (Option T) -> Prop) (h : RZ X CL b tg iter δ ds δ1) (ht : Xr X CL tg is parts) (h0 : P 0 δ1) (hl : ∀ j δ, P j δ -> ∀ i ∈ is, i < δ.length)
   (hs : ∀ j d δ, ds[j]? = some d -> P j δ -> ∃ ps, parts d = some ps /\ gk X CL b gi (Hr δ is ps) { nx := P (j + 1), rt := D.rt, bk := D.nx, ct := P (j + 1) }) (hd : ∀ δ, P ds.length δ -> D.nx δ)
   (hp : PassesOwn (model X.prog X.w) X.A X.env X.xe) (hc : X.calm = true) (hq : ∀ x, foldedSetIterable iter X.env x = pure x := by intro _; rfl) :
   RQ X CL b (.For tg iter gi [] pos) δ D := fun H Z σ ts vs E S M => by
 obtain ⟨wi, pi, hw⟩ := h
 obtain ⟨t, pg, ht⟩ := ht
 refine xO (Ex hp hc pi pg OQ hq) (hw H Z σ ts vs _ S fun J H1 zz => ?_)
 obtain ⟨Z1, z1, k1, S1, go, yl, st⟩ := zz
 refine ⟨fun j m σ H2 => m = ds.length - j /\ j <= ds.length /\ ∃ Z2 δ2, aD Z1 Z2 /\ bJ X.K CL b H2 Z2 δ2 σ ts vs /\ P j δ2, ⟨_, rfl, aey _, Z1, δ1, .refl _, S1, h0⟩, ?_⟩
 rintro j m σ H2 ⟨rfl, hj, Z2, δ2, s, S2, p2⟩
 by_cases z9 : j < ds.length
 . refine .inr ⟨go j H2 (s.trans S2.zh) z9, fun σ' H' => ∃ Z2 δ2, aD Z1 Z2 /\ bJ X.K CL b H' Z2 δ2 σ' ts vs /\ P (j + 1) δ2, fun σ' H' h => ⟨ds.length - (j + 1), by omega, rfl, z9, h⟩, fun y H' hy => ?_⟩
   obtain ⟨Z3, d, N1, gr, rd⟩ := yl j Z2 H2 y H' s S2.zh S2.tp z9 hy
   obtain ⟨ps, hps, hb⟩ := hs j d δ2 N1 p2
   have S3 := S2.grow gr
   refine ht Z3 H' d ps y σ _ S3.zh rd hps fun ys Y3 => ?_
   have S4 := S3.sets (is := is) Y3 (hl j δ2 p2)
   have s3 := s.trans gr.z
   exact hb _ Z3 _ ts vs _ S4 ⟨fun δ' σ' H' Z' s' S' k => ⟨Z', δ', s3.trans s', S', k⟩, fun t v H' Z' δ' σ' s' S' k => M.rt t v H' Z' δ' σ' (z1.trans (s3.trans s')) S' k, fun δ' σ' H' Z' s' S' k => M.nx δ' σ' H' Z' (z1.trans (s3.trans s')) S' k, fun δ' σ' H' Z' s' S' k => ⟨Z', δ', s3.trans s', S', k⟩⟩
 . have e : j = ds.length := by omega
   subst e
   exact .inl ⟨st H2 (s.trans S2.zh), M.nx δ2 σ H2 Z2 (z1.trans s) S2 (hd δ2 p2)⟩
theorem Lv {D : cH} {body gi : List Stmt} {is : List Nat} {parts : L3.D -> Option (List L3.D)} (g : Gx X) (ht : Xr X CL tg is parts) (P : Nat -> List (Option T) -> Prop) (h : RZ X CL b tg iter δ ds δ1) (h0 : P 0 δ1) (hl : ∀ j δ, P j δ -> ∀ i ∈ is, i < δ.length)
   (hs : ∀ j d δ, ds[j]? = some d -> P j δ -> ∃ ps, parts d = some ps /\ gk X CL b body (Hr δ is ps) { nx := P (j + 1), rt := D.rt, bk := fun δ2 => gk X CL b gi δ2 D, ct := P (j + 1) }) (hd : ∀ δ, P ds.length δ -> gk X CL b gi δ D) (hq : ∀ x, foldedSetIterable iter X.env x = pure x := by intro _; rfl) :
   gk X CL b (.For tg iter body [] pos :: gi) δ D :=
 eK (Pk (D := { D with nx := fun δ1 => gk X CL b gi δ1 D }) is parts P h ht h0 hl hs hd (by rw [g.xe]; exact PassesOwn.never) g.calm hq)
end
structure oE (X : Cx) (scope : Scope) (xs : List Str) (Nc : List Str) (ix : List Nat) : Prop where
 kind : scope.kind = .function
 AQ : ∀ y ∈ scope.names, y.2 ≠ .cell
 nd : Nc.Nodup
 names : ∀ y ∈ scope.names, y.2 = .local -> scope.names.lookup y.1 = some .local
 own : ∀ x ∈ xs, scope.names.lookup x = some .local
 frees : ∀ y ∈ scope.names, y.2 = .free -> scope.names.lookup y.1 = some .free /\ (X.env.kindOf y.1 = some .cell \/ X.env.kindOf y.1 = some .free)
 hd : Nc = xs ++ ix.filterMap (X.N[·]?)
 Xj : ∀ i ∈ ix, ∃ y, X.N[i]? = some y /\ scope.names.lookup y = some .free
noncomputable def Jf (σ : L2.St) (ix : List Nat) (os : List (Option V)) : L2.St := os ++ ix.map fun i => (σ[i]?).getD none
section
variable {X : Cx} {scope : Scope} {xs : List Str} {Nc : List Str} {ix : List Nat} {pins : List (Addr × Obj)} {σ : L2.St} {H : Hp} {s : Shared}
theorem Dv {fp : List Addr} (sc : oE X scope xs Nc ix) (I : Inv X pins σ H s) (vq : ∀ b ∈ fp, vQ X pins H b /\ b < s.heap.objs.size) {h' : Heap} {m : Str -> Option Value} {tk : Nat}
   (hn : h'.Ns s.heap.objs.size m) (hk : ∀ b o, s.heap.get? b = some o -> h'.get? b = some o) :
   Inv (di X scope Nc s.heap.objs.size s H fp) [] (Jf σ ix (List.replicate xs.length none)) H { s with heap := h', toks := tk } := by
 have frees : ∀ y ∈ scope.names, y.2 = .free -> ∃ c, X.env.cells.lookup y.1 = some c := fun y hy e => I.ok.has y.1 (sc.frees y hy e).2
 have sub : ∀ {y : Str} {c : Addr}, (iG X.env scope.names []).lookup y = some c -> X.env.cells.lookup y = some c := fun {y c} e => qD frees (fun _ _ z => by cases z) e
 have hlen : (Jf σ ix (List.replicate xs.length none)).length = Nc.length := by
   have all : ∀ l : List Nat, (∀ i ∈ l, ∃ y, X.N[i]? = some y /\ scope.names.lookup y = some .free) -> (l.filterMap (X.N[·]?)).length = l.length := by
     intro l
     induction l with
     | nil => intro _; rfl
     | cons i r ih =>
       intro h
       obtain ⟨y, e, _⟩ := h i aef
       rw [afi, e]
       show _ + 1 = _ + 1
       rw [ih fun j hj => h j (aeh _ hj)]
   unfold Jf
   rw [sc.hd, aex, aex, aea, afg, all ix sc.Xj]
 have C0 : s.heap.get? s.heap.objs.size = none := Heap.get?_none_of_le (ael _)
 refine ⟨⟨I.ok.mod, sc.kind, I.ok.glob, I.ok.blt, ael _, fun y z c h1 h2 => I.ok.inj y z c (sub h1) (sub h2), fun y hy => ?_, fun y c hf _ => (by cases (show false = true from hf)), I.ok.hd, I.ok.frames, .inl rfl, fun b hb => ⟨aeM (vq b hb).2, fun y c e => (vq b hb).1.2.2.2.2.1 y c (sub e)⟩, I.bs, aeZ I.ok.Oa I.sz, fun b o e hb => ?_, fun b hb hf => ?_, I.stack, I.GJ⟩,
   rfl, I.bare, Un.kept hk, ⟨m, hn, fun i y v h1 h2 h3 => ?_⟩, fun y c e => ?_, I.fN.fresh (ael _), fun y c e => I.qp y c (sub e), fun p hp => absurd (show p ∈ ([] : List (Addr × Obj)) from hp) (by simp), I.fN.kept hk, hlen⟩
 . 
   have hy' : (relabel scope X.env).names.lookup y = some .cell \/ (relabel scope X.env).names.lookup y = some .free := hy
   cases e : scope.names.lookup y with
   | none => 
     have := j0 (env := X.env) e
     rcases hy' with q | q <;> (rw [show (relabel scope X.env).names.lookup y = none from this] at q; cases q)
   | some k =>
     have q := fQ (env := X.env) e
     have hk : k = .free := by
       by_cases hk : k = .free
       . exact hk
       . have hb : (k == NameKind.free) = false := by simpa using hk
         rw [aeq (by rw [hb]; simp)] at q
         have nc : k ≠ .cell := fun z => by
           subst z
           exact sc.AQ _ (afa e) rfl
         rcases hy' with z | z
         . rw [show (relabel scope X.env).names.lookup y = some k from q] at z
           exact absurd (aeH z) nc
         . rw [show (relabel scope X.env).names.lookup y = some k from q] at z
           exact absurd (aeH z) hk
     subst hk
     exact qE e
 . 
   rcases (vq b hb).1.2.2.2.1 with z | z
   . exact I.ok.Kf b o e z
   . exact absurd (aeI (aes e) (aeZ I.ok.Oa z)) (afJ _)
 . rcases aek.mp (I.Au b hf) with z | z
   . exact (vq b hb).1.2.1 z
   . exact (vq b hb).1.2.2.1 z
 . 
   unfold Jf at h2
   by_cases hi : i < xs.length
   . rw [afK (by rw [afg]; exact hi), List.getElem?_replicate, aer hi] at h2
     cases h2
   . obtain ⟨n, rfl⟩ : ∃ n, i = xs.length + n := ⟨i - xs.length, by omega⟩
     rw [afd (by rw [afg]; omega), afg, Nat.add_sub_cancel_left, aeS] at h2
     cases ei : ix[n]? with
     | none => rw [ei] at h2; cases h2
     | some j =>
       rw [ei] at h2
       have Y4 : (σ[j]?).getD none = some v := aeH h2
       have hj : σ[j]? = some (some v) := by
         cases q : σ[j]? with
         | none => rw [q] at Y4; cases Y4
         | some o => rw [q] at Y4; exact congrArg some Y4
       obtain ⟨y', hy1, hy2⟩ := sc.Xj j (aeQ ei)
       have hNc : Nc[xs.length + n]? = some y' := by
         have all : ∀ (l : List Nat) (i : Nat), (∀ j ∈ l, ∃ y, X.N[j]? = some y /\ scope.names.lookup y = some .free) -> l[i]? = some j -> (l.filterMap (X.N[·]?))[i]? = some y' := by
           intro l
           induction l with
           | nil => intro i _ h; simp at h
           | cons a r ih =>
             intro i h hi
             obtain ⟨ya, ea, _⟩ := h a aef
             rw [afi, ea]
             cases i with
             | zero =>
               simp at hi
               subst hi
               rw [hy1] at ea
               cases ea
               rfl
             | succ i => exact ih i (fun j hj => h j (List.mem_cons_of_mem _ hj)) (by simpa using hi)
         rw [sc.hd, afd (by omega), Nat.add_sub_cancel_left]
         exact all ix n sc.Xj ei
       have ey : y' = y := by
         have h1' : Nc[xs.length + n]? = some y := h1
         rw [hNc] at h1'
         exact aeH h1'
       subst ey
       have GZ := (sc.frees (y', .free) (afa hy2) rfl).2
       have aay : V3 X.env.scope y' := GZ.elim (fun z => .inr (.inl z)) (fun z => .inr (.inr z))
       obtain ⟨m0, hn0, hl0⟩ := I.loc
       obtain ⟨u, ru, lk⟩ := hl0 j y' v hy1 hj aay
       refine ⟨u, ru, ?_⟩
       rcases lk with ⟨kk, _⟩ | ⟨_, c, hc, zV⟩
       . rcases GZ with z | z
         . rw [kk] at z; cases z
         . rw [kk] at z; cases z
       . obtain ⟨c', Wo⟩ := qE (env := X.env) (cs := []) hy2
         have : c' = c := by
           have := sub Wo
           rw [hc] at this
           exact (aeH this).symm
         subst this
         obtain ⟨o, ho, hd⟩ := zV
         refine .inr ⟨?_, c', Wo, o, hk _ _ ho, hd⟩
         have q := fQ (env := X.env) hy2
         show (relabel scope X.env).names.lookup y' = some .cell \/ (relabel scope X.env).names.lookup y' = some .free
         rw [show (relabel scope X.env).names.lookup y' = _ from q]
         split
         . exact .inl rfl
         . exact .inr rfl
 . obtain ⟨v, o, ho, hd⟩ := I.cell y c (sub e)
   exact ⟨v, o, hk _ _ ho, hd⟩
noncomputable def Lw (X : Cx) (tg elt : Expr) (ifs : List Expr) (n : Nat) (σ : L2.St) (ix : List Nat) (D : Addr) (N : Hp -> Prop) (xv : V) (os : List (Option V)) (H3 : Hp) : Prop :=
 ∃ t : TG, PG X tg t /\ t xv (Jf σ ix os) H3 fun σ8 H4 => ∃ V6, V6.length = n /\ σ8 = Jf σ ix V6 /\ Ui X ifs σ8 H4 fun ok H5 =>
   if ok = true then KY X elt σ8 H5 fun y H6 => ∃ acc, H6 D = some (.lst acc) /\ acc.length < sizeLine /\ N (upd H6 D (.lst (acc ++ [y]))) else N H5
theorem EV {elt iter tg : Expr} {pos : Pos} {ifs : List Expr} {J : It} {fp : List Addr} {it : Addr} {tn : Nat -> Heap -> Prop} {G : Addr -> Hp -> Prop} {RR : Value -> Addr -> Result -> Shared -> Prop} {E : Value -> Shared -> Prop}
   (sc : oE X scope xs Nc ix) (hc : X.calm = true) (I : Inv X pins σ H s) (Tn : Turn X.prog X.w X.K tg J fp it tn) (st : tn 0 s.heap) (hf : ∀ b ∈ fp, vQ X pins H b)
   (loop : ∀ D, H D = none -> ∃ W : Nat -> Nat -> Hp -> Prop, (∃ m, W 0 m (upd H D (.lst []))) /\ ∀ i m H2, W i m H2 -> (J.stop i H2 /\ G D H2) ∨
     (J.go i H2 /\ ∃ N : Hp -> Prop, (∀ H', N H' -> ∃ m', m' < m /\ W (i + 1) m' H') /\ ∀ xv H3, J.Ry i H2 xv H3 -> ∀ C s0 H0 f0 os, os.length = xs.length -> Lw (di X scope Nc C s0 H0 f0) tg elt ifs xs.length σ ix D N xv os H3))
   (hRR : ∀ D C s' H', (∃ m, s'.heap.Ns C m) -> (∃ o, s'.heap.get? C = some o /\ ∀ v, o.data ≠ .cell v) -> H' C = none -> (C ≠ X.env.locals /\ C ∉ X.fs /\ X.s₀.heap.objs.size <= C /\ (∀ y c, X.env.cells.lookup y = some c -> c ≠ C) /\ ∀ q ∈ X.pn ++ pins, q.1 ≠ C) -> (∀ h', Heap.SameBut C s'.heap h' -> Inv X pins σ H' { s' with heap := h' }) -> G D H' -> RR (.ref D) C (.ok .next) s') :
   wpAny (model X.prog X.w) X.A (newList []) (fun acc s₃ => wpAny (model X.prog X.w) X.A (newFunctionEnv scope X.env.globals (iG X.env scope.names []) [] X.env.qual none .none (some X.env)) (fun Lx s₄ =>
     codeAny (model X.prog X.w) X.A (.compStart (.ListComp elt [⟨tg, iter, ifs, 0⟩] scope pos) 0 (.ref it) acc { Lx with scope := relabel scope X.env }) (RR acc Lx.locals) s₄) E s₃) E s := by
 refine wpAny_newObj_type ?_
 have I3 : Inv X pins σ (upd H s.heap.objs.size (.lst [])) { s with heap := s.heap.push { cls := .type "list", dict := none, data := .seq ([] : List Value).toArray } } :=
   I.laid (t' := s.toks) (fun b u e => aem _ e) (ael _) ⟨by show 0 <= sizeLine; exact aey _, [], 0, .nil, aeK _ rfl⟩
 have hD : H s.heap.objs.size = none := I.fN.fresh (ael _)
 obtain ⟨W, ⟨m0, w0⟩, turn⟩ := loop _ hD
 have Ly : ∀ b ∈ fp, vQ X pins (upd H s.heap.objs.size (.lst [])) b /\ b < (s.heap.push { cls := .type "list", dict := none, data := .seq ([] : List Value).toArray }).objs.size := fun b hb => by
   obtain ⟨f0, f1⟩ := hf b hb
   obtain ⟨o, ho, _⟩ := Tn.obj 0 _ st b hb
   have z9 := aes ho
   refine ⟨⟨by rw [aB (aeM z9)]; exact f0, f1⟩, ?_⟩
   rw [Heap.size_push]; exact Nat.lt_succ_of_lt z9
 have WG : tn 0 (s.heap.push { cls := .type "list", dict := none, data := .seq ([] : List Value).toArray }) := Tn.keep 0 _ _ st fun b _ o e => aem _ e
 generalize hs3 : ({ s with heap := s.heap.push { cls := .type "list", dict := none, data := .seq ([] : List Value).toArray } } : Shared) = s3 at I3 ⊢
 have Uv : s3.heap = s.heap.push { cls := .type "list", dict := none, data := .seq ([] : List Value).toArray } := by rw [← hs3]
 rw [← Uv] at Ly WG
 refine wpAny_newFunctionEnv sc.AQ (by intro y hy; simp at hy) (fun h₁ Uw Ux => ?_) sc.kind
 have old : ∀ b o, s3.heap.get? b = some o -> h₁.get? b = some o := fun b o e => (Ux.2 b (aeM (aes e))).trans (aem _ e)
 have J0 := Dv (tk := s3.toks + ([] : List (Str × Value)).length) sc I3 Ly Uw old
 have st4 : tn 0 h₁ := Tn.keep 0 _ _ WG fun b _ o e => old b o e
 have R1 : ∀ s4 : Shared, s4 = { s3 with heap := h₁, toks := s3.toks + ([] : List (Str × Value)).length } -> codeAny (model X.prog X.w) X.A (.compLoop (.ListComp elt [⟨tg, iter, ifs, 0⟩] scope pos) 0 (.ref it) (.ref s.heap.objs.size) (compEnvC scope (iG X.env scope.names []) s3.heap.objs.size X.env)) (RR (.ref s.heap.objs.size) s3.heap.objs.size) s4 := by
   rintro s4 rfl
   have stat : ∀ {H' : Hp}, (∀ b ∈ fp, H' b = none) -> ∀ b ∈ fp, vQ (di X scope Nc s3.heap.objs.size s3 (upd H s.heap.objs.size (.lst [])) fp) [] H' b := fun {H'} hn b hb => by
     obtain ⟨⟨f0, f1, f2, f3, f4, f5⟩, z9⟩ := Ly b hb
     refine ⟨hn b hb, aeM z9, fun z => ?_, .inl hb, fun y c e => f4 y c (qD (fun y hy e => I.ok.has y.1 (sc.frees y hy e).2) (fun _ _ z => by cases z) e), fun p hp => absurd (show p ∈ ([] : List (Addr × Obj)) from hp) (by simp)⟩
     rcases aek.mp (I3.Au b z) with q | q
     . exact f1 q
     . exact f2 q
   refine AO (fun n s' => ∃ i o H', o.length = xs.length /\ Inv (di X scope Nc s3.heap.objs.size s3 (upd H s.heap.objs.size (.lst [])) fp) [] (Jf σ ix o) H' s' /\ tn i s'.heap /\ (∀ b ∈ fp, H' b = none) /\ W i n H') ?_ m0 ⟨0, _, _, afg, J0, st4, fun b hb => (Ly b hb).1.1, w0⟩
   rintro n s5 ⟨i, o5, H5, ol5, I5, V5, YS, w5⟩
   rcases turn i n H5 w5 with ⟨stop, g⟩ | ⟨go, N, hN, step⟩
   . refine dU (Tn.done (di X scope Nc s3.heap.objs.size s3 (upd H s.heap.objs.size (.lst [])) fp) rfl rfl rfl hc i [] s5 _ H5 _ I5 (stat YS) V5 stop) fun r s6 zz => ?_
     obtain ⟨hr, I6⟩ := zz
     subst hr
     obtain ⟨m6, hn6, _⟩ := I6.loc
     obtain ⟨oc, esc, epc, YL, hdc, _⟩ := id hn6
     have Y5 := I3.Aw (ael s3.heap.objs.size) (H' := fun _ => none) rfl
     refine hRR _ _ s6 H5 ⟨m6, hn6⟩ ⟨oc, YL, fun v z => by rw [hdc] at z; cases z⟩ I6.free ⟨Y5.2.1, Y5.2.2.1, ?_, Y5.2.2.2.2.1, Y5.2.2.2.2.2⟩ (fun h' Uy => I0 I3 (fun b hb => (Ly b hb).1) I6 Uy) g
     exact I3.sz
   . refine dU (Tn.item (di X scope Nc s3.heap.objs.size s3 (upd H s.heap.objs.size (.lst [])) fp) rfl rfl rfl hc i [] s5 _ H5 _ I5 (stat YS) V5 go) fun r s6 zz => ?_
     obtain ⟨u, hr, h6⟩ := zz
     subst hr
     refine dU h6 fun _ s7 zz => ?_
     obtain ⟨xv, H7, I7, r7, y7, st7, fr7⟩ := zz
     have I7' := I7.pinned (stat fr7) (Tn.obj _ _ st7)
     obtain ⟨t, hg, ht⟩ := step xv _ y7 s3.heap.objs.size s3 (upd H s.heap.objs.size (.lst [])) fp o5 ol5
     refine dU (hg _ s7 _ H7 xv u _ I7' r7 ht) fun _ s8 zz => ?_
     obtain ⟨σ8, H8, I8, os8, ol8, e8, h8⟩ := zz
     subst e8
     refine dU (Lc I8 h8 rfl) fun ok s9 zz => ?_
     obtain ⟨H9, I9, q9⟩ := zz
     have again : ∀ {Ha : Hp} {sa : Shared}, Inv (di X scope Nc s3.heap.objs.size s3 (upd H s.heap.objs.size (.lst [])) fp) ([] ++ xK fp s7.heap) (Jf σ ix os8) Ha sa -> N Ha -> ∃ m, m < n /\ ∃ i o H', o.length = xs.length /\ Inv (di X scope Nc s3.heap.objs.size s3 (upd H s.heap.objs.size (.lst [])) fp) [] (Jf σ ix o) H' sa /\ tn i sa.heap /\ (∀ b ∈ fp, H' b = none) /\ W i m H' := fun {Ha sa} Ia na => by
       obtain ⟨m', hm, wa⟩ := hN Ha na
       refine ⟨m', hm, i + 1, os8, Ha, ol8, Ia.rP, Tn.keep _ _ _ st7 fun b hb o e => (Ia.pin (b, o) (aeb _ (aeb _ (mF hb e)))).1, fun b hb => ?_, wa⟩
       obtain ⟨o, e, d⟩ := Tn.obj _ _ st7 b hb
       exact (Ia.pin (b, o) (aeb _ (aeb _ (mF hb e)))).2.1
     cases ok with
     | false =>
       rw [aeq aep] at q9 ⊢
       exact again I9 q9
     | true =>
       rw [aer rfl] at q9 ⊢
       refine dU (q9 _ s9 I9) fun v sa zz => ?_
       obtain ⟨y, Ha, Ia, ra, acc, aaC, hlen, na⟩ := zz
       refine dU (z0 (X := di X scope Nc s3.heap.objs.size s3 (upd H s.heap.objs.size (.lst [])) fp) _ sa _ Ha (.ref s.heap.objs.size) [y] (.ref s.heap.objs.size) [v] (fun _ Hb => Hb = upd Ha s.heap.objs.size (.lst (acc ++ [y]))) Ia rfl (.cons ra .nil) ⟨_, acc, y, rfl, rfl, aaC, hlen, rfl⟩) fun _ sb zz => ?_
       obtain ⟨_, Hb, Ib, _, eb⟩ := zz
       subst eb
       exact again Ib na
 exact codeAny_compStart_list (R1 _ rfl) (Tn.self _ 0 _ _ _ st4 (R1 _ rfl))
end
noncomputable def Jg (ps : List D) : List (Option T) := ps.map fun p => some (.sh p)
theorem Aa : ∀ {ys : List V} {os : List (Option V)} {pre r : L2.St}, os.length = ys.length -> xW (pre ++ (os ++ r)) (List.range' pre.length ys.length) ys = pre ++ (ys.map some ++ r)
 | [], os, pre, r, h => by
   have : os = [] := List.length_eq_zero_iff.mp h
   subst this
   rfl
 | y :: ys, os, pre, r, h => by
   match os, h with
   | o :: os, h =>
     show xW ((pre ++ (o :: (os ++ r))).set pre.length (some y)) (List.range' (pre.length + 1) ys.length) ys = _
     rw [List.set_append_right _ _ (ael _), Nat.sub_self, List.set_cons_zero]
     have := Aa (ys := ys) (os := os) (pre := pre ++ [some y]) (r := r) (by simpa using h)
     simp only [aex, aeV, List.length_nil, aed, List.singleton_append] at this
     rw [this]
     simp
theorem Pn {K : PySem.W.Frag} {CL : Str -> Addr} {H Z : Hp} : ∀ {ps : List D} {ys : List V} {δc : List (Option T)} {σc : L2.St}, aE K CL Z ps ys -> gI K CL H Z δc σc [] -> gI K CL H Z (Jg ps ++ δc) (ys.map some ++ σc) [] := fun {ps ys δc σc} h e =>
 aE.ind (P := fun ps ys => gI K CL H Z (Jg ps ++ δc) (ys.map some ++ σc) []) e (fun r _ i => .cons (fp := []) (gp := []) (.sh r) i) h
section
variable {X : Cx} {CL : Str -> Addr} {b : Bx} {H Z W1 : Hp} {δ δc : List (Option T)} {σ : L2.St} {ts : List T} {vs : List V} {ds : List D} {scope : Scope} {Nc : List Str} {n : Nat} {ix : List Nat} {elt tg : Expr} {ifs : List Expr} {p : D -> Bool} {g : D -> T} {J : It} {parts : D -> Option (List D)}
noncomputable def uF (X : Cx) (CL : Str -> Addr) (scope : Scope) (Nc : List Str) (n : Nat) (tg : Expr) (parts : D -> Option (List D)) (ifs : List Expr) (elt : Expr) (δc : List (Option T)) (ds : List D) (p : D -> Bool) (g : D -> T) : Prop :=
 ∀ C s0 H0 f0 b', Xr (di X scope Nc C s0 H0 f0) CL tg (List.range' 0 n) parts /\ ∀ d, d ∈ ds -> ∃ ps, parts d = some ps /\ ps.length = n /\ YZ (di X scope Nc C s0 H0 f0) CL b' ifs (Jg ps ++ δc) (p d) /\ (p d = true -> bS (di X scope Nc C s0 H0 f0) CL b' elt (Jg ps ++ δc) (g d) (Jg ps ++ δc))
structure GW (K : PySem.W.Frag) (CL : Str -> Addr) (H W1 : Hp) (D : Addr) (l : List T) (k : Nat) (H2 Z2 : Hp) (Er : List V) (fp : List Addr) : Prop where
 a1 : aD H H2
 a2 : aD W1 Z2
 a3 : aD Z2 H2
 a4 : Z2 D = none
 a5 : ∀ a o, Z2 a = some o -> W1 a = none -> H a = none
 a6 : ∀ a o, H2 a = some o -> nV o = true -> Z2 a = some o
 a7 : H2 D = some (.lst Er)
 a8 : aL K CL H2 Z2 l Er fp
 a9 : fp.Nodup
 b1 : D ∉ fp
 b2 : ∀ a ∈ fp, Z2 a = none /\ H a = none
 b3 : Er.length <= k
theorem xX (S : bJ X.K CL b H Z δ σ ts vs) (zw : aD Z W1) (wh : aD W1 H) (tp : ∀ a o, H a = some o -> nV o = true -> W1 a = some o)
   (cap : ∀ H', gI X.K CL H' W1 δc (ix.map fun i => (σ[i]?).getD none) []) (inner : uF X CL scope Nc n tg parts ifs elt δc ds p g)
   (hgo : ∀ i H2, aD W1 H2 -> i < ds.length -> J.go i H2)
   (hy : ∀ i Z2 H2 x H', aD W1 Z2 -> aD Z2 H2 -> (∀ a o, H2 a = some o -> nV o = true -> Z2 a = some o) -> i < ds.length -> J.Ry i H2 x H' -> ∃ Z3 d, ds[i]? = some d /\ AW Z2 H2 Z3 H' /\ bq X.K CL Z3 d x)
   (Oj : ∀ H2, aD W1 H2 -> J.stop ds.length H2) (hlen : ds.length <= sizeLine) (c : W1 = Z \/ ∀ d ∈ ds, (g d).clean = true) :
   ∀ D, H D = none -> ∃ W : Nat -> Nat -> Hp -> Prop, (∃ m, W 0 m (upd H D (.lst []))) /\ ∀ i m H2, W i m H2 -> (J.stop i H2 /\ ∃ Z2, aD Z Z2 /\ aD H H2 /\ bJ X.K CL b H2 Z2 δ σ (.lst ((ds.filter p).map g) :: ts) (.ref D :: vs)) ∨
     (J.go i H2 /\ ∃ N : Hp -> Prop, (∀ H', N H' -> ∃ m', m' < m /\ W (i + 1) m' H') /\ ∀ xv H3, J.Ry i H2 xv H3 -> ∀ C s0 H0 f0 os, os.length = n -> Lw (di X scope Nc C s0 H0 f0) tg elt ifs n σ ix D N xv os H3) := by
 intro D hD
 have wD : W1 D = none := wh.free hD
 refine ⟨fun i m H2 => m = ds.length - i /\ i <= ds.length /\ ∃ Z2 Er fp, GW X.K CL H W1 D (((ds.take i).filter p).map g) i H2 Z2 Er fp, ⟨ds.length, rfl, aey _, W1, [], [], aD.upd hD, .refl _, wh.trans (aD.upd hD), wD, fun a o q z => ?_, fun a o q i => ?_, aQ, .nil, afO, by simp, by simp, by simp⟩, ?_⟩
 . rw [q] at z; cases z
 . by_cases ha : a = D
   . subst ha; rw [aQ] at q; cases q; cases i
   . rw [aB ha] at q; exact tp a o q i
 . rintro i m H2 ⟨rfl, hi, Z2, Er, fp, hh, wz, zh, zD, nw, tp2, Y6, ra, nd, nD, own, hav⟩
   by_cases z9 : i < ds.length
   . refine .inr ⟨hgo i H2 (wz.trans zh) z9, fun H' => ∃ Z2 Er fp, GW X.K CL H W1 D (((ds.take (i + 1)).filter p).map g) (i + 1) H' Z2 Er fp, fun H' h => ⟨ds.length - (i + 1), by omega, rfl, z9, h⟩, fun xv H3 y C s0 H0 f0 os hos => ?_⟩
     obtain ⟨Z3, d, hd, gr, rd⟩ := hy i Z2 H2 xv H3 wz zh tp2 z9 y
     have Uz : ∀ a, Z2 a = none -> (∃ o, H2 a = some o) -> Z3 a = none := fun a e ⟨o, e2⟩ => by
       cases q : Z3 a with
       | none => rfl
       | some u => rw [gr.new a u q e] at e2; cases e2
     have nw3 : ∀ a o, Z3 a = some o -> W1 a = none -> H a = none := fun a o q z => by
       cases e : Z2 a with
       | none => exact hh.free (gr.new a o q e)
       | some u =>
         have := gr.z a u e
         rw [q] at this; cases this
         exact nw a o e z
     have UA : aL X.K CL H3 Z3 (((ds.take i).filter p).map g) Er fp := ra.mono gr.z fun a ha => by
       obtain ⟨o, e⟩ := ra.there a ha
       rw [e]; exact gr.h a o e
     have Y7 : ∀ a ∈ fp, Z3 a = none /\ H a = none := fun a ha => ⟨Uz a (own a ha).1 (ra.there a ha), (own a ha).2⟩
     have zD3 : Z3 D = none := Uz D zD ⟨_, Y6⟩
     have R3 : H3 D = some (.lst Er) := gr.h D _ Y6
     have Uv := hh.trans gr.h
     have Y8 := wz.trans gr.z
     have zh3 := gr.zh
     have tp3 := gr.tp
     clear own nw ra zD Y6 hh wz zh tp2 gr Uz
     have aaF : d ∈ ds := aeQ hd
     have Y9 : ds.take (i + 1) = ds.take i ++ [d] := by rw [afQ, hd]; rfl
     obtain ⟨tgt, inn⟩ := inner C s0 H0 f0 ⟨H3, Z3⟩
     obtain ⟨ps, hps, vS, it, ie⟩ := inn d aaF
     obtain ⟨t, pg, ht⟩ := tgt
     refine ⟨t, pg, ht Z3 H3 d ps xv _ _ zh3 rd hps fun ys Y3 => ?_⟩
     have hyl : ys.length = n := by rw [← Y3.length]; exact vS
     have es : xW (Jf σ ix os) (List.range' 0 n) ys = Jf σ ix (ys.map some) := by
       have := Aa (ys := ys) (os := os) (pre := []) (r := ix.map fun i => (σ[i]?).getD none) (by rw [hos, hyl])
       rw [hyl] at this
       exact this
     refine ⟨ys.map some, by rw [aea]; exact hyl, es, ?_⟩
     rw [es]
     have S0 : bJ X.K CL ⟨H3, Z3⟩ H3 Z3 (Jg ps ++ δc) (Jf σ ix (ys.map some)) [] [] :=
       ⟨⟨[], [], Pn Y3 ((cap H3).mono Y8 fun a ha => by cases ha), .nil, afO, fun a ha => by cases ha⟩, .refl _, .refl _, zh3, fun a o q z => (by have z' : Z3 a = none := z; rw [show Z3 a = some o from q] at z'; cases z'), tp3, (S.T9.mono zw).mono Y8⟩
     refine it.sem S0 fun H4 Z4 z4 k4 S4 => ?_
     have aaH : ∀ a ∈ fp, H4 a = H3 a := fun a ha => by
       obtain ⟨o, e⟩ := UA.there a ha
       rw [e]; exact k4 a o e
     have Lz : ∀ a, Z3 a = none -> (∃ o, H3 a = some o) -> Z4 a = none := fun a e ⟨o, e2⟩ => by
       cases q : Z4 a with
       | none => rfl
       | some u =>
         have := S4.new a u q e
         rw [show H3 a = none from this] at e2; cases e2
     cases hp : p d with
     | false =>
       refine EG ⟨Z4, Er, fp, Uv.trans k4, Y8.trans z4, S4.zh, Lz D zD3 ⟨_, R3⟩, fun a o q z => ?_, S4.tp, k4 D _ R3, ?_, nd, nD, fun a ha => ⟨Lz a (Y7 a ha).1 (UA.there a ha), (Y7 a ha).2⟩, by omega⟩
       . cases e : Z3 a with
         | none => exact Uv.free (S4.new a o q e)
         | some u => 
           have := z4 a u e
           rw [q] at this; cases this
           exact nw3 a o e z
       . rw [Y9, List.filter_append, List.filter_cons_of_neg (by simp [hp]), List.filter_nil, aeY]
         exact UA.mono z4 aaH
     | true =>
       refine EH ((ie hp) H4 Z4 (Jf σ ix (ys.map some)) [] [] _ S4 fun yv H5 Z5 z5 k5 S5 => ⟨Er, k5 D _ (k4 D _ R3), by omega, ?_⟩)
       obtain ⟨f1, g1, e1, r1, Xb, Xs⟩ := S5.rep
       cases r1 with
       | @cons _ _ _ _ fy fn ry rn =>
         cases rn
         rw [aeY] at Xb Xs
         have ndy : fy.Nodup := (ae0.mp Xb).2.1
         have Pp : ∀ a ∈ fy, Z5 a = none /\ H3 a = none := fun a ha => Xs a (aeb _ ha)
         have EW : ∀ a, Z3 a = none -> (∃ o, H3 a = some o) -> Z5 a = none := fun a e ⟨o, e2⟩ => by
           cases q : Z5 a with
           | none => rfl
           | some u =>
             have := S5.new a u q e
             rw [show H3 a = none from this] at e2; cases e2
         have yD : ∀ a ∈ fy, a ≠ D := fun a ha e => by
           subst e
           rw [(Pp a ha).2] at R3; cases R3
         have h5D : H5 D = some (.lst Er) := k5 D _ (k4 D _ R3)
         have sD : aD H (upd H5 D (.lst (Er ++ [yv]))) := fun a o q => by
           rw [aB (bx q hD)]
           exact k5 a o (k4 a o (Uv a o q))
         refine ⟨Z5, Er ++ [yv], fp ++ fy, sD, Y8.trans (z4.trans z5), fun a o q => ?_, EW D zD3 ⟨_, R3⟩, fun a o q z => ?_, fun a o q im => ?_, aQ, ?_, ?_, ?_, fun a ha => ?_, ?_⟩
         . rw [aB (bx q (EW D zD3 ⟨_, R3⟩))]; exact S5.zh a o q
         . cases e : Z3 a with
           | none => exact Uv.free (S5.new a o q e)
           | some u =>
             have := z5 a u (z4 a u e)
             rw [q] at this; cases this
             exact nw3 a o e z
         . by_cases ha : a = D
           . subst ha; rw [aQ] at q; cases q; cases im
           . rw [aB ha] at q; exact S5.tp a o q im
         . rw [Y9, List.filter_append, List.filter_cons_of_pos hp, List.filter_nil, afC]
           refine aL.app (UA.mono (z4.trans z5) fun a ha => ?_) (by
             have := aL.cons (fp := fy) (gp := []) (ry.mono (.refl _) fun a ha => aB (yD a ha)) (aL.nil (H := upd H5 D (.lst (Er ++ [yv]))) (Z := Z5))
             rwa [aeY] at this)
           have : a ≠ D := fun e => nD (e ▸ ha)
           rw [aB this]
           obtain ⟨o, e⟩ := UA.there a ha
           rw [e]; exact k5 a o (k4 a o e)
         . refine ae0.mpr ⟨nd, ndy, fun a ha a' K1 e => ?_⟩
           subst e
           obtain ⟨o, e⟩ := UA.there a ha
           rw [(Pp a K1).2] at e; cases e
         . intro h
           rcases aen.mp h with h | h
           . exact nD h
           . exact yD D h rfl
         . rcases aen.mp ha with h | h
           . exact ⟨EW a (Y7 a h).1 (UA.there a h), (Y7 a h).2⟩
           . exact ⟨(Pp a h).1, Uv.free (Pp a h).2⟩
         . rw [aex, List.length_singleton]; omega
   . have e : i = ds.length := by omega
     subst e
     refine .inl ⟨Oj H2 (wz.trans zh), ?_⟩
     rw [List.take_length] at ra
     obtain ⟨Z', z', S'⟩ := S.back (H' := H2) (W := W1) (W' := Z2) (t := .lst ((ds.filter p).map g)) (v := .ref D) (fp := D :: fp) hh zw wz zh nw tp2 (.lst Y6 ra) (ae9.mpr ⟨nD, nd⟩) (fun a ha => by
       rcases aek.mp ha with h | h
       . subst h; exact ⟨zD, hD⟩
       . exact own a h) (c.imp id fun c => by
         rw [lT]
         exact xR fun d hd => c d (afy.mp hd).1)
     exact ⟨Z', z', hh, S'⟩
end
section
variable {X : Cx} {CL : Str -> Addr} {b : Bx} {δ δ1 : List (Option T)} {scope : Scope} {xs : List Str} {Nc : List Str} {ix : List Nat} {elt iter tg : Expr} {ifs : List Expr} {pos : Pos} {ds : List D} {p : D -> Bool} {g : D -> T} {δc : List (Option T)} {parts : D -> Option (List D)}
theorem Ab {J : It} {fp : List Addr} {it : Addr} {tn : Nat -> Heap -> Prop} {pins : List (Addr × Obj)} {σ : L2.St} {H H1 Z : Hp} {s : Shared} {ts : List T} {vs : List V} {RR : Value -> Addr -> Result -> Shared -> Prop} {E : Value -> Shared -> Prop}
   (sc : oE X scope xs Nc ix) (hc : X.calm = true) (C : AX X CL b δ1 σ ts vs Z H ds J H1) (I : L2.Inv X pins σ H1 s) (Tn : Turn X.prog X.w X.K tg J fp it tn) (st : tn 0 s.heap) (hf : ∀ b ∈ fp, vQ X pins H1 b)
   (hb : (δc = Dk δ1 ix /\ ∀ d ∈ ds, (g d).clean = true) \/ δc = Dl δ1 ix) (inner : uF X CL scope Nc xs.length tg parts ifs elt δc ds p g) (hlen : ds.length <= sizeLine)
   (hRR : ∀ D C s' H' Z', (∃ m, s'.heap.Ns C m) -> (∃ o, s'.heap.get? C = some o /\ ∀ v, o.data ≠ .cell v) -> H' C = none -> (C ≠ X.env.locals /\ C ∉ X.fs /\ X.s₀.heap.objs.size <= C /\ (∀ y c, X.env.cells.lookup y = some c -> c ≠ C) /\ ∀ q ∈ X.pn ++ pins, q.1 ≠ C) -> (∀ h', Heap.SameBut C s'.heap h' -> L2.Inv X pins σ H' { s' with heap := h' }) -> aD Z Z' -> aD H H' -> bJ X.K CL b H' Z' δ1 σ (.lst ((ds.filter p).map g) :: ts) (.ref D :: vs) -> RR (.ref D) C (.ok .next) s') :
   wpAny (model X.prog X.w) X.A (newList []) (fun acc s₃ => wpAny (model X.prog X.w) X.A (newFunctionEnv scope X.env.globals (iG X.env scope.names []) [] X.env.qual none .none (some X.env)) (fun Lx s₄ =>
     codeAny (model X.prog X.w) X.A (.compStart (.ListComp elt [⟨tg, iter, ifs, 0⟩] scope pos) 0 (.ref it) acc { Lx with scope := relabel scope X.env }) (RR acc Lx.locals) s₄) E s₃) E s := by
 obtain ⟨Z1, z1, k1, S1, go, yl, stp⟩ := C.ex
 have lp : ∀ D, H1 D = none -> ∃ W : Nat -> Nat -> Hp -> Prop, (∃ m, W 0 m (upd H1 D (.lst []))) /\ ∀ i m H2, W i m H2 -> (J.stop i H2 /\ ∃ Z2, aD Z1 Z2 /\ aD H1 H2 /\ bJ X.K CL b H2 Z2 δ1 σ (.lst ((ds.filter p).map g) :: ts) (.ref D :: vs)) ∨
     (J.go i H2 /\ ∃ N : Hp -> Prop, (∀ H', N H' -> ∃ m', m' < m /\ W (i + 1) m' H') /\ ∀ xv H3, J.Ry i H2 xv H3 -> ∀ C s0 H0 f0 os, os.length = xs.length -> Lw (di X scope Nc C s0 H0 f0) tg elt ifs xs.length σ ix D N xv os H3) := by
   rcases hb with ⟨e, cl⟩ | e
   . subst e
     exact xX (W1 := H1) S1 S1.zh (.refl _) (fun _ _ q _ => q) (Dm S1 ix) inner (fun i H2 s => go i H2 (S1.zh.trans s)) (fun i Z2 H2 y H' s => yl i Z2 H2 y H' (S1.zh.trans s)) (fun H2 s => stp H2 (S1.zh.trans s)) hlen (.inr cl)
   . subst e
     exact xX (W1 := Z1) S1 (.refl _) S1.zh S1.tp (Dn S1 ix) inner go yl stp hlen (.inl rfl)
 exact EV sc hc I Tn st hf lp fun D C s' H' m io nC ch ci ⟨Z', z', k', S'⟩ => hRR D C s' H' Z' m io nC ch ci (z1.trans z') (k1.trans k') S'
theorem vA (sc : oE X scope xs Nc ix) {pins : List (Addr × Obj)} {σ : L2.St} {H : Hp} {s : Shared} (I : L2.Inv X pins σ H s) : closureFor scope X.env = pure (iG X.env scope.names []) :=
 zO fun y hy e => I.ok.has y.1 (sc.frees y hy e).2
theorem Dw (sc : oE X scope xs Nc ix) (hc : X.calm = true) (h : RZ X CL b tg iter δ ds δ1) (hb : (δc = Dk δ1 ix /\ ∀ d ∈ ds, (g d).clean = true) \/ δc = Dl δ1 ix) (inner : uF X CL scope Nc xs.length tg parts ifs elt δc ds p g) (hlen : ds.length <= sizeLine)
   (hs : ∀ x, foldedSetIterable iter X.env x = pure x := by intro _; rfl) : bS X CL b (.ListComp elt [⟨tg, iter, ifs, 0⟩] scope pos) δ (.lst ((ds.filter p).map g)) δ1 := fun H Z σ ts vs Q S k pins s I => by
 obtain ⟨wi, pi, hw⟩ := h
 rw [eval_ListComp]
 refine wpAny_comprehension_free (use := none) rfl hs (vA sc I) sc.kind sc.names ?_
 refine dU (pi pins s σ H _ I (hw H Z σ ts vs (fun J H1 => AX X CL b δ1 σ ts vs Z H ds J H1) S fun J H1 C => C)) fun v s1 h1 => dU h1 fun YQ s2 zz => ?_
 obtain ⟨it, fp, tn, J, H1, e, I1, Tn, st, hf, C⟩ := zz
 subst e
 refine Ab (RR := fun acc C => compPost (model X.prog X.w) X.A X.xe none (EP X pins σ Q) acc C) sc hc C I1 Tn st hf hb inner hlen fun D C' s' H' Z' m io nC ch ci z' k' S' => ?_
 obtain ⟨m, hn⟩ := m
 exact ⟨m, hn, fun h' Uy => ⟨.ref D, H', ci h' Uy, rfl, k _ H' Z' z' k' S'⟩⟩
theorem Pq {D : cH} {y : Str} {py Xu : Pos} (i : Nat) (sc : oE X scope xs Nc ix) (hc : X.calm = true) (h : RZ X CL b tg iter δ ds δ1) (hb : (δc = Dk δ1 ix /\ ∀ d ∈ ds, (g d).clean = true) \/ δc = Dl δ1 ix) (inner : uF X CL scope Nc xs.length tg parts ifs elt δc ds p g) (hlen : ds.length <= sizeLine)
   (k : D.nx (δ1.set i (some (.lst ((ds.filter p).map g))))) (hl : i < δ1.length) (hN : X.N.Nodup) (hi : X.N[i]? = some y) (hx : Loc X.env.scope y) (hf' : X.fn y = true \/ X.env.scope.names.lookup y = some .local)
   (Ja : swapsWith (.ListComp elt [⟨tg, iter, ifs, 0⟩] scope pos) (some (.Name y py)) Xu.line X.env = pure true)
   (hs : ∀ x, foldedSetIterable iter X.env x = pure x := by intro _; rfl) : RQ X CL b (.Assign [.Name y py] (.ListComp elt [⟨tg, iter, ifs, 0⟩] scope pos) Xu) δ D := fun H Z σ ts vs E S M pins s I => by
 obtain ⟨wi, pi, hw⟩ := h
 rw [exec_Assign_Name_used _ _ _ _ Ja]
 refine aeC (wpAny_standAt (aeC ?_))
 show wpAny _ X.A (do let _ ← comprehension (.ListComp elt [⟨tg, iter, ifs, 0⟩] scope pos) scope X.env _ (newList []) false (eval iter X.env) (some (assign (.Name y py) X.env))) _ _ s
 refine aeC (afr (wpAny_comprehension_free (use := some (assign (.Name y py) X.env)) (Q := fun _ s' => SP X pins E .next s') rfl hs (vA sc I) sc.kind sc.names ?_) (fun _ s' hq => aeX (aeX hq)) fun _ _ e => e)
 refine dU (pi pins s σ H _ I (hw H Z σ ts vs (fun J H1 => AX X CL b δ1 σ ts vs Z H ds J H1) S fun J H1 C => C)) fun v s1 h1 => dU h1 fun YQ s2 zz => ?_
 obtain ⟨it, fp, tn, J, H1, e, I1, Tn, st, hf, C⟩ := zz
 subst e
 refine Ab (RR := fun acc C => compPost (model X.prog X.w) X.A X.xe (some (assign (.Name y py) X.env)) (fun _ s' => SP X pins E .next s') acc C) sc hc C I1 Tn st hf hb inner hlen fun D' C' s' H' Z' m io nC ch ci z' k' S' => ?_
 obtain ⟨m, hn⟩ := m
 obtain ⟨o, ho, zV⟩ := io
 have I' : L2.Inv X pins σ H' s' := ci s'.heap (.refl ..)
 have I2 : L2.Inv X (pins ++ [(C', o)]) σ H' s' := I'.wV fun q hq => by
   rcases aen.mp hq with z | z
   . exact I'.pin q (aeb _ z)
   . have e : q = (C', o) := by simpa using z
     subst e
     exact ⟨ho, nC, ch.1, ch.2.1, zV⟩
 show wpAny _ X.A (assign (.Name y py) X.env (.ref D')) _ _ s'
 have hg : PG X (.Name y py) (vh i) := pI hN hi hx hf'
 refine dU (hg _ s' σ H' (.ref D') (.ref D') (fun σ8 H8 => σ8 = σ.set i (some (.ref D')) /\ H8 = H') I2 rfl ⟨rfl, rfl⟩) fun _ s8 zz => ?_
 obtain ⟨σ8, H8, I8, e8, e8'⟩ := zz
 subst e8
 subst e8'
 obtain ⟨hC8, nC8, _⟩ := I8.pin (C', o) (aeb _ (aeb _ (by simp)))
 refine ⟨m, hn.at' fun o' e' => by rw [ho] at e'; cases e'; exact hC8, fun h' Uy => ?_⟩
 have I9 : L2.Inv X pins (σ.set i (some (.ref D'))) _ s8 := I8.wV fun q hq => I8.pin q (aeb _ (aei _ hq))
 have I10 := I9.turned (it := C') (h' := h') (t' := s8.toks) (fun b o hb e => (Uy.2 b hb).trans e) nC8 ch.1.symm.symm (.inr ch.2.2.1) ch.2.2.2.1 ch.2.2.2.2
 exact ⟨_, _, I10, M.nx _ _ _ Z' z' (S'.set hl) k⟩
theorem UB {D : cH} {gi : List Stmt} {i : Nat} {x : Str} {pos' pc : Pos} (gx : Gx X) (n : Ln X i x) (sc : oE X scope xs Nc ix) (h : RZ X CL b tg iter δ ds δ1)
   (hb : (δc = Dk δ1 ix /\ ∀ d ∈ ds, (g d).clean = true) \/ δc = Dl δ1 ix) (inner : uF X CL scope Nc xs.length tg parts ifs elt δc ds p g) (hlen : ds.length <= sizeLine) (k : gk X CL b gi (δ1.set i (some (.lst ((ds.filter p).map g)))) D) (hl : i < δ1.length)
   (Ja : swapsWith (.ListComp elt [⟨tg, iter, ifs, 0⟩] scope pc) (some (.Name x pos')) pos.line X.env = pure true \/ swapsWith (.ListComp elt [⟨tg, iter, ifs, 0⟩] scope pc) (some (.Name x pos')) pos.line X.env = pure false) (hs : ∀ x, foldedSetIterable iter X.env x = pure x := by intro _; rfl) :
   gk X CL b (.Assign [.Name x pos'] (.ListComp elt [⟨tg, iter, ifs, 0⟩] scope pc) pos :: gi) δ D := by
 rcases Ja with Ja | Ja
 . exact eK (Pq i sc gx.calm h hb inner hlen k hl gx.nd n.hi n.loc n.hf Ja hs)
 . exact eK (Lb i (Dw sc gx.calm h hb inner hlen hs) k hl gx.nd n.hi n.loc Ja n.hf)
theorem UC {i : Nat} {x : Str} {C : Addr} {s : Shared} {H : Hp} {fp : List Addr} (h1 : Nc[i]? = some x) (h2 : scope.names.lookup x = some .local) (hd : (x == ("__debug__" : Str)) = false := by decide) (n8 : (x == ("__classdict__" : Str)) = false := by decide) : Ln (di X scope Nc C s H fp) i x :=
 ⟨jJ h1 h2 hd n8, .inl (lookup_relabel_local h2), .inr (lookup_relabel_local h2)⟩
end
noncomputable def Ite (K : PySem.W.Frag) (a : Addr) : It :=
 ⟨fun i H => ∃ xs x, qk K H a xs /\ xs[i]? = some x, fun i H x H' => ∃ T y, H T = none /\ x = .ref T /\ (∀ xs, qk K H a xs -> xs[i]? = some y) /\ H' = upd H T (.tup [.int i, y]), fun i H => ∃ xs, qk K H a xs /\ xs.length <= i⟩
theorem Jh {P : Program} {w : World} {K : PySem.W.Frag} {elts : List Expr} {kk : Nat} {pt : Pos} (a e it : Addr) (Za : e ≠ it) : Turn P w K (.Tuple elts kk pt) (Ite K a) [e, it] e (fun i h => (∃ old, PySem.IsEnum h e it i old) /\ h.IsListIter it a i) where
 mem := by simp
 obj := fun i h st b hb => by
   obtain ⟨⟨old, he⟩, hit⟩ := st
   rcases aek.mp hb with z | z
   . subst z
     exact ⟨_, he, fun v z => by
       have z' : Data.fields _ = Data.cell v := z
       cases z'⟩
   . have z : b = it := by simpa using z
     subst z
     obtain ⟨o, e, c, d⟩ := hit
     exact ⟨o, e, fun v z => by rw [d] at z; cases z⟩
 keep := fun i h h' st k => by
   obtain ⟨⟨old, he⟩, hit⟩ := st
   exact ⟨⟨old, k e (by simp) _ he⟩, hit.at fun o q => k it (by simp) o q⟩
 item := by
   intro X hP hw hK hc i pins s σ H E I hf st hg
   subst hP hw hK
   obtain ⟨xs, x, hq, hx⟩ := hg
   obtain ⟨its, rv, p, hz⟩ := I.list hq
   obtain ⟨u, hu, ru⟩ := rv.get hx
   obtain ⟨⟨old, he⟩, hit⟩ := st
   have fe := hf e (by simp)
   have fi := hf it (by simp)
   have hT0 : H s.heap.objs.size = none := I.fN.fresh (ael _)
   have fT := I.Aw (ael s.heap.objs.size) hT0
   refine PySem.wpAny_pyNext_enum_item he hit p.isList (x := u) (by simpa using hu) Za fun h' ho aaJ hT hsz hk => ⟨_, rfl, ?_⟩
   refine PySem.wpAny_letOwnedTupleGo_enum ho fun h2 he2 Eo => ?_
   replace Eo : Heap.SameBut e h' h2 := Eo
   have eT : e < s.heap.objs.size := aes he
   have keep : ∀ b o, b ≠ e -> b ≠ it -> s.heap.get? b = some o -> h2.get? b = some o := fun b o h1 h3 q => (Eo.2 b h1).trans (hk b o h1 h3 q)
   have hT2 : h2.get? s.heap.objs.size = some { cls := .type "tuple", data := .seq #[.int i s.toks, u] } := (Eo.2 _ (Nat.ne_of_gt eT)).trans hT
   have nH : ∀ b o, H b = some o -> b ≠ e /\ b ≠ it /\ b ≠ s.heap.objs.size := fun b o q => ⟨fun z => (by rw [z, fe.1] at q; cases q), fun z => (by rw [z, fi.1] at q; cases q), fun z => (by rw [z, hT0] at q; cases q)⟩
   have I' : L2.Inv X pins σ (upd H s.heap.objs.size (.tup [.int i, x])) { s with heap := h2, toks := s.toks + 1 } := by
     refine I.step (g' := s.gens) (d' := s.drawn) (ch := [e, it, s.heap.objs.size]) (fun b hb => ?_) (fun b o _ _ hc q _ => ?_) (fun b o _ _ hc q _ => ⟨o.slots, ?_⟩) (fun b o hc q n => ?_) (fun b o hc q => ⟨o, ?_⟩) (fun b ys q => ?_) (fun b o u q => ?_) (fun b ps q => ⟨#[], ?_⟩) (fun m hm => ?_) (fun b o q => ?_) I.bare
     . rcases aek.mp hb with z | hb
       . subst z; exact ⟨fe.2.2.2.1, fe.2.1, fe.2.2.2.2.1, fe.2.2.2.2.2⟩
       . rcases aek.mp hb with z | hb
         . subst z; exact ⟨fi.2.2.2.1, fi.2.1, fi.2.2.2.2.1, fi.2.2.2.2.2⟩
         . have z : b = s.heap.objs.size := by simpa using hb
           subst z; exact ⟨fT.2.2.2.1, fT.2.1, fT.2.2.2.2.1, fT.2.2.2.2.2⟩
     . exact keep b o (fun z => hc (by simp [z])) (fun z => hc (by simp [z])) q
     . exact keep b o (fun z => hc (by simp [z])) (fun z => hc (by simp [z])) q
     . rw [aB (fun z => hc (by simp [z]))]; exact n
     . exact keep b o (fun z => hc (by simp [z])) (fun z => hc (by simp [z])) q
     . rw [aB (nH b _ q).2.2]; exact q
     . rw [aB (nH b _ q).2.2]; exact q
     . rw [aB (nH b _ q).2.2, q]; simp
     . obtain ⟨o, es, ep, ho, r⟩ := hm
       exact ⟨o, es, ep, keep _ o (afG fe.2.1) (afG fi.2.1) ho, r⟩
     . by_cases hb : b = s.heap.objs.size
       . subst hb
         rw [aQ] at q
         cases q
         exact ⟨ae2 (cz (aec rfl)), [.int i s.toks, u], .cons ⟨s.toks, rfl⟩ (.cons ru .nil), ⟨_, hT2, rfl, _, rfl⟩⟩
       . rw [aB hb] at q
         refine (I.fN b o q).Et (fun c v hc z => keep c v ?_ ?_ z) (fun c z => by rw [aB (nH c _ z).2.2]; exact z) (fun c ys z => by rw [aB (nH c _ z).2.2]; exact z) fun c ys z => by rw [aB (nH c _ z).2.2]; exact z
         . rcases hc with z | z
           . rw [z]; exact (nH b _ q).1
           . exact (nH c _ z).1
         . rcases hc with z | z
           . rw [z]; exact (nH b _ q).2.1
           . exact (nH c _ z).2.1
   have ei : ((i + 1 : Nat) : Int) = (i : Int) + 1 := by omega
   refine ⟨.ref s.heap.objs.size, _, I', rfl, ⟨_, x, hT0, rfl, fun ys hy => by rw [I.C3 hy hq]; exact hx, rfl⟩, ⟨⟨u, by rw [ei]; exact he2⟩, aaJ.at fun o q => (Eo.2 it (afG Za)).trans q⟩, fun b hb => ?_⟩
   have hb' := hf b hb
   obtain ⟨o, En, _⟩ : ∃ o, s.heap.get? b = some o /\ True := by
     rcases aek.mp hb with z | z
     . subst z; exact ⟨_, he, trivial⟩
     . have z : b = it := by simpa using z
       subst z
       obtain ⟨o, q, _⟩ := hit
       exact ⟨o, q, trivial⟩
   rw [aB (aeM (aes En))]
   exact hb'.1
 done := by
   intro X hP hw hK hc i pins s σ H E I hf st hg
   subst hP hw hK
   obtain ⟨xs, hq, hx⟩ := hg
   obtain ⟨its, rv, p, hz⟩ := I.list hq
   obtain ⟨⟨old, he⟩, hit⟩ := st
   obtain ⟨f0, f1, f2, f3, f4, f5⟩ := hf it (by simp)
   have hl := rv.length
   exact PySem.wpAny_pyNext_enum_end (I.ok.hd hc) he hit p.isList (by simp; omega) fun h' eb => ⟨rfl, I.turned (t' := s.toks) (fun b o hb e => eb b o hb e) f0 f1 f3 f4 f5⟩
 self := fun _ _ _ _ _ st h => by
   obtain ⟨⟨old, he⟩, _⟩ := st
   exact PySem.wpAny_pyIter_enum he h
section
variable {X : Cx} {elts : List Expr} {kk : Nat} {pt : Pos}
noncomputable def Xv (K : PySem.W.Frag) (ta : TA) : TI := fun σ H R => ta σ H fun vs H1 => ∃ a xs, vs = [.ref a] /\ qk K H1 a xs /\ R (Ite K a) H1
theorem Pr {a : Expr} {ta : TA} {p pos : Pos} (hg : Gl X "enumerate") (hm : X.mg "enumerate" = none) (ha : PA X [a] ta) (hs : starEach [a] X.env = (false, eval a X.env) :: starEach [] X.env) : PI X (.Tuple elts kk pt) (.Call (.Name "enumerate" p) [a] [] pos) (Xv X.K ta) := by
 intro pins s σ H R I h
 refine Call_ (uy I hg hm boot_enumerate (afl (dU (ha pos pins s σ H _ I h) fun us s1 zz => ?_) hs rfl))
 obtain ⟨vs, H1, I1, r1, q1⟩ := zz
 obtain ⟨l, xs, e, hq, q⟩ := q1
 subst e
 cases r1 with
 | cons r rr =>
   cases rr
   cases r
   obtain ⟨its, rv, p, hz⟩ := I1.list hq
   refine PySem.call_enumerate_list p.isList fun h' he hit hsz hk => ?_
   have I2 : L2.Inv X pins σ H1 { s1 with heap := h' } := I1.kept (t' := s1.toks) fun b o e => hk b o e
   refine PySem.wpAny_pyIter_enum he ?_
   refine ⟨s1.heap.objs.size + 1, [s1.heap.objs.size + 1, s1.heap.objs.size], _, _, H1, rfl, I2, Jh l _ _ (Nat.succ_ne_self _), ⟨⟨_, he⟩, hit⟩, fun b hb => ?_, q⟩
   rcases aek.mp hb with z | z
   . subst z
     exact I1.Aw (Nat.le_succ _) (I1.fN.fresh (Nat.le_succ _))
   . have z : b = s1.heap.objs.size := by simpa using z
     subst z
     exact I1.Aw (ael _) (I1.fN.fresh (ael _))
end
noncomputable def xY (ds : List D) : List D := (List.range ds.length).map fun (i : Nat) => .tup [.int i, ds.getD i .non]
theorem uG (ds : List D) : (xY ds).length = ds.length := by simp [xY]
theorem Ji {ds : List D} {i : Nat} {d : D} (h : ds[i]? = some d) : (xY ds)[i]? = some (.tup [.int i, d]) := by
 have hi : i < ds.length := (aeD.mp h).1
 unfold xY
 rw [aeS, afj hi]
 show some (D.tup [.int i, ds.getD i .non]) = _
 rw [aeg, h]
 rfl
section
variable {X : Cx} {CL : Str -> Addr} {b : Bx} {δ δ1 : List (Option T)} {e : Expr} {ds : List D} {elts : List Expr} {kk : Nat} {pt pr pc : Pos}
theorem Pu (hm : X.mg "enumerate" = none) (h : bS X CL b e δ (.sh (.lst ds)) δ1) (hg : Gl X "enumerate") (hs : starEach [e] X.env = (false, eval e X.env) :: starEach [] X.env := by exact bR rfl) : RZ X CL b (.Tuple elts kk pt) (.Call (.Name "enumerate" pr) [e] [] pc) δ (xY ds) δ1 := by
 refine ⟨_, Pr hg hm (cy dB gH hs) hs, fun H Z σ ts vs R S k => h H Z σ ts vs _ S fun v H1 Z1 z1 k1 S1 => ?_⟩
 obtain ⟨fp, gp, _, r, _, _⟩ := S1.rep
 cases r with
 | cons r _ =>
   cases r with
   | sh r =>
     cases r with
     | @lst a us _ hq rr =>
       have hl := rr.length
       refine ⟨a, us, rfl, S1.zh.seq hq, k _ _ ⟨Z1, z1, k1, S1.pop, fun i H2 s hi => ?_, fun i Z2 H2 x H' s1 s2 tp hi hy => ?_, fun H2 s => ?_⟩⟩
       . rw [uG] at hi
         have N5 : i < us.length := by rw [← hl]; exact hi
         exact ⟨us, us[i], s.seq hq, aeo N5⟩
       . rw [uG] at hi
         obtain ⟨T, y, hT, rfl, hx, rfl⟩ := hy
         obtain ⟨d, hd, rd⟩ := rr.OL (hx us ((s1.trans s2).seq hq))
         have gr : AW Z2 H2 _ _ := AW.tup (xs := [.int i, y]) s2 tp hT
         exact ⟨_, _, Ji hd, gr, .tup (wX.of aQ) (.cons (.int _) (.cons ((rd.mono s1).mono gr.z) .nil))⟩
       . rw [uG]
         exact ⟨us, s.seq hq, by rw [← hl]; exact ael _⟩
end
noncomputable def insI (x : Int) : List Int -> List Int
 | [] => [x]
 | y :: l => if x <= y then x :: y :: l else y :: insI x l
noncomputable def sortI : List Int -> List Int
 | [] => []
 | x :: l => insI x (sortI l)
theorem insI_perm (x : Int) : ∀ l, (insI x l).Perm (x :: l)
 | [] => .refl _
 | y :: l => by
   rw [insI]
   split
   . exact .refl _
   . exact ((insI_perm x l).cons y).trans (.swap x y l)
theorem sortI_perm : ∀ l, (sortI l).Perm l
 | [] => .refl _
 | x :: l => (insI_perm x (sortI l)).trans ((sortI_perm l).cons x)
theorem Ac {l : List Int} {x : Int} : x ∈ sortI l ↔ x ∈ l := (sortI_perm l).mem_iff
theorem uH (l : List Int) : (sortI l).length = l.length := (sortI_perm l).length_eq
theorem vC (x : Int) : ∀ {l : List Int}, l.Pairwise (· <= ·) -> (insI x l).Pairwise (· <= ·)
 | [], _ => List.pairwise_singleton _ _
 | y :: l, h => by
   rw [insI]
   obtain ⟨h1, h2⟩ := afm.mp h
   split
   . rename_i e
     refine afm.mpr ⟨fun z hz => ?_, h⟩
     rcases aek.mp hz with rfl | hz
     . exact e
     . exact Int.le_trans e (h1 z hz)
   . rename_i e
     refine afm.mpr ⟨fun z hz => ?_, vC x h2⟩
     rcases aek.mp ((insI_perm x l).mem_iff.mp hz) with rfl | hz
     . omega
     . exact h1 z hz
theorem mO : ∀ l, (sortI l).Pairwise (· <= ·)
 | [] => .nil
 | x :: l => vC x (mO l)
theorem vD : ∀ {a b : List Int}, a.Perm b -> a.Pairwise (· <= ·) -> b.Pairwise (· <= ·) -> a = b
 | [], b, p, _, _ => (List.nil_perm.mp p).symm
 | x :: a, [], p, _, _ => absurd p.length_eq (by simp)
 | x :: a, y :: b, p, ha, hb => by
   obtain ⟨a1, a2⟩ := afm.mp ha
   obtain ⟨b1, b2⟩ := afm.mp hb
   have e : x = y := by
     have h1 : x ∈ y :: b := p.mem_iff.mp aef
     have h2 : y ∈ x :: a := p.mem_iff.mpr aef
     rcases aek.mp h1 with e | h1
     . exact e
     . rcases aek.mp h2 with e | h2
       . exact e.symm
       . exact Int.le_antisymm (a1 y h2) (b1 x h1)
   subst e
   rw [vD (List.Perm.cons_inv p) a2 b2]
theorem LC {l z : List Int} (p : z.Perm l) (s : z.Pairwise (· <= ·)) : z = sortI l := vD (p.trans (sortI_perm l).symm) s (mO l)
theorem r9 : ∀ {us : List Value} {ns : List Int}, IntsAre us ns -> Vals (ns.map V.int) us
 | _, _, .nil => .nil
 | _, _, .cons n t r => .cons ⟨t, rfl⟩ (r9 r)
section
variable {X : Cx}
theorem AY : oh X (.builtin "sorted") (fun xs H Q => ∃ p ns, xs = [.ref p] /\ qk X.K H p (ns.map .int) /\ ns.length < 64 /\ ∀ l, H l = none -> Q (.ref l) (upd H l (.lst ((sortI ns).map .int)))) := by
 intro pins s σ H xs us Q I r h
 obtain ⟨p, ns, rfl, hq, hl, q⟩ := h
 obtain ⟨u, rfl, rx⟩ := vals1 r
 cases rx
 obtain ⟨its, r', pl, hz⟩ := I.list hq
 have hlen := r'.length
 rw [aea] at hlen
 refine sorted_ints pl.isList (intsAre_of r') (by omega) fun out ns' a1 a2 a3 => ?_
 obtain ⟨e, he⟩ := sortedAll_at s.heap its out
 have e2 : ns' = sortI ns := LC a2 a3
 subst e2
 refine ⟨.ref (s.heap.objs.size + 1), _, I.laid (t' := s.toks) (fun _ _ => sortedAll_old) (Nat.le_succ _) (show fO X.prog X.w _ _ _ (.lst ((sortI ns).map .int)) from ⟨?_, out.toList, e, r9 a1, ?_⟩), rfl, q _ (I.fN.fresh (Nat.le_succ _))⟩
 . rw [aea, uH]
   rw [aea] at hz
   exact hz
 . simpa using he
theorem AZ : bootBuiltins "sorted" = some (.builtin "sorted") := by decide +kernel
end
section
variable {X : Cx} {CL : Str -> Addr} {b : Bx} {δ δ1 : List (Option T)} {e : Expr} {pos pp : Pos}
theorem Jj {K : PySem.W.Frag} {Z : Hp} {l : List Int} {us : List V} (h : aE K CL Z (l.map D.int) us) : us = l.map V.int := by
 refine aE.ind (P := fun ds us => ∀ l : List Int, ds = l.map D.int -> us = l.map V.int) ?_ ?_ h l rfl
 . intro l e
   cases l with
   | nil => rfl
   | cons => cases e
 . intro d v ds vs r _ i l e
   cases l with
   | nil => cases e
   | cons a l =>
     injection e with e1 e2
     subst e1
     rw [i l e2]
     cases r
     rfl
theorem ints_rep {K : PySem.W.Frag} {Z : Hp} : ∀ (l : List Int), aE K CL Z (l.map D.int) (l.map V.int)
 | [] => .nil
 | _ :: l => .cons (.int _) (ints_rep l)
theorem EX {l : List Int} (hm : X.mg "sorted" = none) (h : cG X CL b e δ (.lst (l.map .int)) δ1) (hl : l.length < 64) (hg : Gl X "sorted") (hs : starEach [e] X.env = (false, eval e X.env) :: starEach [] X.env := by exact bR rfl) : bS X CL b (.Call (.Name "sorted" pp) [e] [] pos) δ (.lst (((sortI l).map D.int).map T.sh)) δ1 := fun H Z σ ts vs Q S k =>
 cC (oj AY hg hm AZ (cy dB gH hs) (he := hs)) (h H Z σ ts vs _ S fun v H1 Z1 z1 k1 S1 r => by
   cases r with
   | @lst a us _ hq rr =>
     have := Jj rr
     subst this
     refine ⟨a, l, rfl, hq, hl, fun p hp => ?_⟩
     obtain ⟨c, S2⟩ := (bJ.xQ (ints_rep (sortI l)) S1).uC (g0 := []) (by simp) hp
     exact k _ _ _ z1 (k1.trans c) S2)
end
section
variable {X : Cx}
end
section
variable {X : Cx} {CL : Str -> Addr} {b : Bx} {δ δ1 : List (Option T)} {e : Expr} {pos pp : Pos}
end
section
variable {prog : Program} {w : World} {A : Around} {s : Shared}
end
section
variable {prog : Program} {w : World} {A : Around} {s : Shared}
end
section
variable {X : Cx}
end
section
variable {X : Cx} {CL : Str -> Addr} {b : Bx} {δ δ1 : List (Option T)} {e : Expr} {ds : List D} {pos pp pq pr : Pos}
end
theorem A0 {α β : Type} {f : α -> β} {l : List α} {j : Nat} {d : β} (h : (l.map f)[j]? = some d) : ∃ x, d = f x /\ l[j]? = some x /\ x ∈ l /\ j < l.length /\ l.drop j = x :: l.drop (j + 1) /\ l.take (j + 1) = l.take j ++ [x] := by
 rw [aeS] at h
 cases hx : l[j]? with
 | none => rw [hx] at h; cases h
 | some x =>
   rw [hx] at h
   cases h
   have hj : j < l.length := (aeD.mp hx).1
   have e : l[j] = x := (aeD.mp hx).2
   exact ⟨x, rfl, rfl, aeQ hx, hj, by rw [afs hj, e], by rw [afQ, hx]; rfl⟩
noncomputable def D.at1 : L3.D -> L3.D
 | .tup (a :: _) => a
 | d => d
section
variable {X : Cx} {CL : Str -> Addr} {b : Bx} {δ δ1 : List (Option T)} {e : Expr} {elts : List Expr} {kk : Nat} {pt pr pc : Pos}
theorem Jk {α : Type} (f : α -> L3.D) (z : α) (l : List α) : xY (l.map f) = (List.range l.length).map fun (i : Nat) => L3.D.tup [.int i, f (l.getD i z)] := by
 unfold xY
 rw [aea]
 apply afw
 intro i hi
 have hi : i < l.length := aeR.mp hi
 have : (l.map f).getD i .non = f (l.getD i z) := by
   rw [aeg, aeg, aeS, aeo hi]
   rfl
 rw [this]
theorem Dy {α : Type} {f : α -> L3.D} {l : List α} (z : α) (hm : X.mg "enumerate" = none) (h : bS X CL b e δ (.sh (.lst (l.map f))) δ1) (hg : Gl X "enumerate") (hs : starEach [e] X.env = (false, eval e X.env) :: starEach [] X.env := by exact bR rfl) :
   RZ X CL b (.Tuple elts kk pt) (.Call (.Name "enumerate" pr) [e] [] pc) δ ((List.range l.length).map fun (i : Nat) => L3.D.tup [.int i, f (l.getD i z)]) δ1 := by
 have := Pu (elts := elts) (kk := kk) (pt := pt) (pr := pr) (pc := pc) hm h hg hs
 rwa [Jk f z l] at this
end
section
variable {K : PySem.W.Frag} {CL : Str -> Addr} {b : Bx} {H H' Z Z' : Hp} {δ δ' : List (Option T)} {σ σ' : L2.St} {ts tl : List T} {vs us : List V} {t : T} {v : V}
end
section
variable {X : Cx} {CL : Str -> Addr} {b : Bx} {δ δ1 δ2 : List (Option T)} {e e2 : Expr} {t : T} {tl N3 tt tt0 : List T} {D : cH} {pos pp pa pb : Pos}
end
section
variable {X : Cx} {CL : Str -> Addr} {b : Bx} {δ δ1 : List (Option T)} {e : Expr} {t : T} {i : Nat} {x : Str} {pos pp : Pos} {DD : cH} {gi : List Stmt}
end
section
variable {X : Cx}
end
section
variable {K : PySem.W.Frag} {CL : Str -> Addr} {b : Bx} {H Z : Hp} {δ : List (Option T)} {σ : L2.St} {ts tl : List T} {vs : List V} {t : T} {v : V}
end
section
variable {X : Cx} {CL : Str -> Addr} {b : Bx} {δ δ1 : List (Option T)} {e : Expr} {t : T} {tl N3 : List T} {D : cH} {pos pp pa pb pc : Pos} {kj i : Nat} {x : Str} {gi : List Stmt}
end
section
variable {X : Cx} {CL : Str -> Addr} {b : Bx} {δ δ1 : List (Option T)} {e : Expr} {pos pp : Pos}
end
section
variable {K : PySem.W.Frag} {CL : Str -> Addr} {b : Bx} {H Z : Hp} {δ : List (Option T)} {σ : L2.St} {ts tl tl2 : List T} {vs : List V} {v : V}
end
section
variable {X : Cx} {CL : Str -> Addr} {b : Bx} {δ δ1 : List (Option T)} {e : Expr} {tl N3 tl2 : List T} {D : cH} {pos pp pa pb : Pos} {i : Nat} {x : Str} {gi : List Stmt}
end
section
variable {X : Cx} {CL : Str -> Addr} {b : Bx} {e1 e2 : Expr} {δ δ1 δ2 : List (Option T)} {ds : List L3.D} {pos : Pos}
end
section
variable {X : Cx} {CL : Str -> Addr} {b : Bx} {δ : List (Option T)} {x : Str} {pos : Pos}
theorem Dz {k : Str} (hm : ∃ u, X.mg x = some (.str k u)) (hg : Gl X x) (hd : (x == ("__debug__" : Str)) = false := by decide) : bS X CL b (.Name x pos) δ (.sh (.str k)) δ := fun H Z σ ts vs Q S kk => by
 obtain ⟨u, hm⟩ := hm
 exact cC (Av (v := .str k) hg hm ⟨u, rfl⟩ hd) (kk _ H Z (.refl _) (.refl _) (S.push (.str k)))
theorem aE.R4 {K : PySem.W.Frag} {Z : Hp} : ∀ l : List Str, aE K CL Z (l.map .str) (l.map V.str)
 | [] => .nil
 | x :: l => .cons (.str x) (aE.R4 l)
noncomputable def GT (X : Cx) (x : Str) (l : List Str) : Prop := ∃ a, X.mg x = some (.ref a) /\ ∀ H : Hp, wX X.K H a (l.map V.str)
theorem sd {l : List Str} (hm : GT X x l) (hg : Gl X x) (hd : (x == ("__debug__" : Str)) = false := by decide) : bS X CL b (.Name x pos) δ (.sh (.tup (l.map .str))) δ := fun H Z σ ts vs Q S kk => by
 obtain ⟨a, hm, hs⟩ := hm
 exact cC (Av (v := .ref a) hg hm rfl hd) (kk _ H Z (.refl _) (.refl _) (S.push (.tup (hs Z) (aE.R4 l))))
theorem Ht {l : List Str} {a : Addr} {od : Option Addr} {its : Array Value} {n : Nat} {sl : Array (Option Value)} (h1 : X.mg x = some (.ref a)) (h2 : X.K.lookup a = some ⟨.type "tuple", od, .seq its n, sl⟩) (h3 : its.size <= sizeLine) (h4 : Vals (l.map V.str) its.toList) : GT X x l :=
 ⟨a, h1, fun H => .inr ⟨_, its, n, h2, rfl, rfl, h3, h4⟩⟩
end
section
variable {X : Cx} {CL : Str -> Addr} {b : Bx} {e1 e2 e iter : Expr} {δ δ1 δ2 : List (Option T)} {pos : Pos}
noncomputable def Ad (x y : Str) : Bool := !(Builtin.Str.occurrences y x 0 y.length 1).isEmpty
theorem vG {i j : Str} (h1 : cG X CL b e1 δ (.str i) δ1) (h2 : cG X CL b e2 δ1 (.str j) δ2) (hm : behindInMarks .NotIn e2 = false) : pN X CL b (.Compare e1 [.NotIn] [e2] pos) δ (!Ad i j) δ2 /\ bS X CL b (.Compare e1 [.NotIn] [e2] pos) δ (.sh (.bl (!Ad i j))) δ2 :=
 vt Ax h1 h2 rfl rfl (fun _ _ q => ⟨i, j, rfl, rfl, q⟩) hm
noncomputable def Its (x : Str) : It := ⟨fun i _ => i < x.cps.size, fun i H v H' => H' = H /\ ∃ c, x.cps[i]? = some c /\ v = .str ⟨#[c]⟩, fun i _ => x.cps.size <= i⟩
theorem Jl {P : Program} {w : World} {K : PySem.W.Frag} {tg : Expr} (x : Str) (t : Tok) (it : Addr) : Turn P w K tg (Its x) [it] it (fun i h => h.IsStrIter it "str_ascii_iterator" x t i) where
 mem := by simp
 obj := fun i h st b hb => by
   have e : b = it := by simpa using hb
   subst e
   obtain ⟨o, e, c, d⟩ := st
   exact ⟨o, e, fun v z => by rw [d] at z; cases z⟩
 keep := fun i h h' st k => by
   obtain ⟨o, e, r⟩ := st
   exact ⟨o, k it (by simp) o e, r⟩
 item := by
   intro X hP hw hK hc i pins s σ H E I hf st hg
   subst hP hw hK
   have hg : i < x.cps.size := hg
   obtain ⟨f0, f1, f2, f3, f4, f5⟩ := hf it (by simp)
   refine wpAny_pyNext_ascii_item st (c := x.cps[i]) (by simp [hg]) fun h' GN sb => ?_
   have I1 : Inv X pins σ H { s with heap := h', toks := s.toks + 1 } := I.turned (fun b o hb e => (sb.2 b hb).trans e) f0 f1 f3 f4 f5
   obtain ⟨o, e, c, d⟩ := id GN
   exact ⟨_, rfl, C6 (s := { s with heap := h', toks := s.toks + 1 }) e c d (by decide) ⟨.str ⟨#[x.cps[i]]⟩, H, I1, ⟨_, rfl⟩, ⟨rfl, _, by simp [hg], rfl⟩, GN, fun b hb => (hf b hb).1⟩⟩
 done := by
   intro X hP hw hK hc i pins s σ H E I hf st hg
   subst hP hw hK
   have hg : x.cps.size <= i := hg
   obtain ⟨f0, f1, f2, f3, f4, f5⟩ := hf it (by simp)
   exact wpAny_pyNext_ascii_end (I.ok.hd hc) st (by simp [hg]) fun h' eb => ⟨rfl, I.turned (t' := s.toks) (fun b o hb e => eb b o hb e) f0 f1 f3 f4 f5⟩
 self := fun _ _ _ _ _ st h => wpAny_pyIter_striter_ascii st h
theorem Jm {P : Program} {w : World} {K : PySem.W.Frag} {tg : Expr} (x : Str) (t : Tok) (it : Addr) : Turn P w K tg (Its x) [it] it (fun i h => h.IsStrIter it "str_iterator" x t i) where
 mem := by simp
 obj := fun i h st b hb => by
   have e : b = it := by simpa using hb
   subst e
   obtain ⟨o, e, c, d⟩ := st
   exact ⟨o, e, fun v z => by rw [d] at z; cases z⟩
 keep := fun i h h' st k => by
   obtain ⟨o, e, r⟩ := st
   exact ⟨o, k it (by simp) o e, r⟩
 item := by
   intro X hP hw hK hc i pins s σ H E I hf st hg
   subst hP hw hK
   have hg : i < x.cps.size := hg
   obtain ⟨f0, f1, f2, f3, f4, f5⟩ := hf it (by simp)
   refine wpAny_pyNext_wide_item st (c := x.cps[i]) (by simp [hg]) fun h' GN sb => ?_
   have I1 : Inv X pins σ H { s with heap := h', toks := s.toks + 1 } := I.turned (fun b o hb e => (sb.2 b hb).trans e) f0 f1 f3 f4 f5
   obtain ⟨o, e, c, d⟩ := id GN
   exact ⟨_, rfl, C6 (s := { s with heap := h', toks := s.toks + 1 }) e c d (by decide) ⟨.str ⟨#[x.cps[i]]⟩, H, I1, ⟨_, rfl⟩, ⟨rfl, _, by simp [hg], rfl⟩, GN, fun b hb => (hf b hb).1⟩⟩
 done := by
   intro X hP hw hK hc i pins s σ H E I hf st hg
   subst hP hw hK
   have hg : x.cps.size <= i := hg
   obtain ⟨f0, f1, f2, f3, f4, f5⟩ := hf it (by simp)
   exact wpAny_pyNext_wide_end (I.ok.hd hc) st (by simp [hg]) fun h' eb => ⟨rfl, I.turned (t' := s.toks) (fun b o hb e => eb b o hb e) f0 f1 f3 f4 f5⟩
 self := fun _ _ _ _ _ st h => wpAny_pyIter_striter_wide st h
noncomputable def aaL (tl : TE) : TI := fun σ H R => tl σ H fun v H1 => ∃ x, v = .str x /\ R (Its x) H1
theorem UD {l : Expr} {tl : TE} {tg : Expr} (hl : PE X l tl) : PI X tg l (aaL tl) := by
 intro pins s σ H R I h
 refine dU (hl pins s σ H _ I h) fun v s1 zz => ?_
 obtain ⟨y, H1, I1, r1, q1⟩ := zz
 obtain ⟨x, e, q⟩ := q1
 subst e
 obtain ⟨t, rfl⟩ := r1
 cases ha : x.cps.all (· < 128) with
 | true =>
   refine wpAny_pyIter_ascii ha ?_
   refine ⟨s1.heap.objs.size, [s1.heap.objs.size], _, _, H1, rfl, I1.kept (t' := s1.toks) fun b o e => aem _ e, Jl x t _, ⟨_, aeK _ rfl, rfl, rfl⟩, fun b hb => ?_, q⟩
   have e : b = s1.heap.objs.size := by simpa using hb
   subst e
   exact I1.Aw (ael _) (I1.fN.fresh (ael _))
 | false =>
   refine wpAny_pyIter_wide ha ?_
   refine ⟨s1.heap.objs.size, [s1.heap.objs.size], _, _, H1, rfl, I1.kept (t' := s1.toks) fun b o e => aem _ e, Jm x t _, ⟨_, aeK _ rfl, rfl, rfl⟩, fun b hb => ?_, q⟩
   have e : b = s1.heap.objs.size := by simpa using hb
   subst e
   exact I1.Aw (ael _) (I1.fN.fresh (ael _))
noncomputable def jF (x : Str) : List L3.D := x.cps.toList.map fun c => .str ⟨#[c]⟩
theorem DB {K : PySem.W.Frag} {Z : Hp} (l : List Nat) : aE K CL Z (l.map fun c => L3.D.str ⟨#[c]⟩) (l.map fun c => V.str ⟨#[c]⟩) := by
 induction l with
 | nil => exact .nil
 | cons c l ih => exact .cons (.str _) ih
theorem UE {x : Str} {tg : Expr} (h : bS X CL b iter δ (.sh (.str x)) δ1) : N4 X CL b tg iter δ (jF x) δ1 := by
 refine ⟨_, UD dB, fun H Z σ ts vs R S k => h H Z σ ts vs _ S fun v H1 Z1 z1 k1 S1 => ?_⟩
 obtain ⟨fp, gp, _, r, _, _⟩ := S1.rep
 cases r with
 | cons r _ =>
   cases r with
   | sh r =>
     cases r with
     | str =>
       refine ⟨x, rfl, k _ _ ⟨Z1, _, z1, k1, S1.pop, DB _, fun i H2 s hi => ?_, fun i H2 y H' s hi hy => ⟨hy.1, ?_⟩, fun H2 s => ?_⟩⟩
       . show i < x.cps.size
         simpa [jF] using hi
       . obtain ⟨c, hc, rfl⟩ := hy.2
         simp [hc]
       . show x.cps.size <= (jF x).length
         simp [jF]
end
section
variable {X : Cx} {CL : Str -> Addr} {b : Bx} {e : Expr} {δ δ1 δ2 δ3 : List (Option T)} {pos p2 : Pos}
noncomputable def aaM : V -> Option Int -> Option Int -> Hp -> VK -> Prop := fun x lo hi H Q => ∃ z, x = .str z /\ z.length <= sizeLine /\ Q (.str (Txt.slice z lo hi)) H
theorem UG : ZR X aaM := by
 intro pins s σ H x v vl vu lo hi sl Q I rx hs pl pu h
 obtain ⟨z, rfl, hz, q⟩ := h
 obtain ⟨t, rfl⟩ := rx
 obtain ⟨o, ho, hc, hd⟩ := hs
 have fin : ∀ t' k, EP X pins σ Q (.str (Txt.slice z lo hi) t') { s with toks := k } := fun t' k => ⟨.str _, H, I.tok k, ⟨t', rfl⟩, q⟩
 refine ⟨"str", _, F.slot_str_getitem.lookup, typeIs_str _ _ _, ?_⟩
 cases pl with
 | none =>
   cases pu with
   | none => exact afx (l := none) (u := none) (st := none) ⟨o, ho, hc, hd⟩ rfl (post_val_or_str ⟨aeZ (afH z _ _) hz, fin⟩)
   | int j uj => exact afx (l := none) (u := some (j, uj)) (st := none) ⟨o, ho, hc, hd⟩ rfl (post_val_or_str ⟨aeZ (afH z _ _) hz, fin⟩)
 | int i ui =>
   cases pu with
   | none => exact afx (l := some (i, ui)) (u := none) (st := none) ⟨o, ho, hc, hd⟩ rfl (post_val_or_str ⟨aeZ (afH z _ _) hz, fin⟩)
   | int j uj => exact afx (l := some (i, ui)) (u := some (j, uj)) (st := none) ⟨o, ho, hc, hd⟩ rfl (post_val_or_str ⟨aeZ (afH z _ _) hz, fin⟩)
theorem uI {lo hi : Option Expr} {l h : Option Int} {z : Str} (h1 : cG X CL b e δ (.str z) δ1) (hz : z.length <= sizeLine) (h2 : V8 X CL b lo δ1 l δ2) (h3 : V8 X CL b hi δ2 h δ3) : bS X CL b (.Subscript e (.Slice lo hi none p2) pos) δ (.sh (.str (Txt.slice z l h))) δ3 := fun H Z σ ts vs Q S k => by
 obtain ⟨t2, po2, w2⟩ := h2
 obtain ⟨t3, po3, w3⟩ := h3
 refine cC (Dd UG dB po2 po3) (h1 H Z σ ts vs _ S fun v H1 Z1 z1 k1 S1 r => w2 H1 Z1 σ ts vs _ S1 fun H2 Z2 z2 k2 S2 => w3 H2 Z2 σ ts vs _ S2 fun H3 Z3 z3 k3 S3 => ?_)
 exact ⟨z, r.sc rfl, hz, k _ H3 Z3 (z1.trans (z2.trans z3)) (k1.trans (k2.trans k3)) (S3.push (.str _))⟩
end
end L3
namespace L3
open PySem PySem.Spec PyProof.Rows L2 PySem.Builtin PySem.Builtin.Str
section
variable {X : Cx} {CL : Str -> Addr} {b : Bx} {e o : Expr} {δ δ1 δ2 : List (Option T)} {pos apos : Pos}
end
end L3
namespace L3
open PySem PySem.Spec PyProof.Rows L2
section
variable {X : Cx} {CL : Str -> Addr} {b : Bx} {δ : List (Option T)} {pos pp : Pos} {x : Str}
theorem c0 {k n : Nat} {A : Type} {arg : A -> List L3.D} {Pre : A -> Prop} {res : A -> T} (a : A) (F : Fc X CL x k n arg Pre res) (hg : Gl X x) (ha : arg a = []) (hp : Pre a) (hc : (res a).clean = true) (hn : (arg a).length = n := by rfl)
   (vR : (x == ("__debug__" : Str)) = false := by decide) : bS X CL b (.Call (.Name x pp) [] [] pos) δ (res a) δ := by
 obtain ⟨f, fd, ps, F1, m, kk, bb⟩ := F.ex
 intro H Z σ ts vs Q S k
 refine cC (Ky F1 F.room hg m kk bb .nil Di vR) ?_
 refine ⟨H, a, .refl _, fun _ _ q _ => q, by rw [ha]; exact .nil, hn, hp, S.OS, fun v H' W' fp hh ww wh nw tp rt nd own => ?_⟩
 obtain ⟨Z', z', S'⟩ := S.back hh S.zh ww wh nw tp rt nd own (.inr hc)
 exact k v H' Z' z' hh S'
end
noncomputable def UH : Key -> D
 | .inl i => .int i
 | .inr x => .str x
noncomputable def A1 (aU : List (Key × D)) (k : Key) : Option D := (aU.find? fun kv => decide (kv.1 = k)).map (·.2)
noncomputable def xZ (aU : List (Key × D)) (k : Key) (d : D) : List (Key × D) :=
 if (aU.any fun kv => decide (kv.1 = k)) = true then aU.map (fun kv => if kv.1 = k then (kv.1, d) else kv) else aU ++ [(k, d)]
section
variable {K : PySem.W.Frag} {CL : Str -> Addr} {b : Bx} {H Z : Hp} {δ : List (Option T)} {σ : L2.St} {ts tl : List T} {vs : List V} {t : T} {v : V} {d : D} {aU : List (Key × D)} {gs : List (Key × V)}
theorem bC.length {aU : List (Key × D)} {gs : List (Key × V)} (h : bC K CL Z aU gs) : aU.length = gs.length :=
 bC.ind (P := fun aU gs => aU.length = gs.length) rfl (fun _ _ i => congrArg (· + 1) i) h
theorem bC.val {k : Key} : ∀ {aU : List (Key × D)} {gs : List (Key × V)}, bC K CL Z aU gs -> (A1 aU k = none /\ qC gs k = none) \/ ∃ d v, A1 aU k = some d /\ qC gs k = some v /\ bq K CL Z d v
 | _, _, .nil => .inl ⟨rfl, rfl⟩
 | _, _, .cons (x := x) (d := d) (v := v) h r => by
   by_cases e : x = k
   . exact .inr ⟨d, v, by simp [A1, e], rV e, h⟩
   . rcases bC.val (k := k) r with ⟨h1, h2⟩ | ⟨d', v', h1, h2, h3⟩
     . exact .inl ⟨by simpa [A1, e] using h1, by rw [oq e]; exact h2⟩
     . exact .inr ⟨d', v', by simpa [A1, e] using h1, by rw [oq e]; exact h2, h3⟩
theorem bC.any {k : Key} : ∀ {aU : List (Key × D)} {gs : List (Key × V)}, bC K CL Z aU gs -> (aU.any fun kv => decide (kv.1 = k)) = (gs.any fun kv => decide (kv.1 = k))
 | _, _, .nil => rfl
 | _, _, .cons _ r => by rw [ae7, ae7, bC.any r]
theorem bC.repl {k : Key} (q : bq K CL Z d v) : ∀ {aU : List (Key × D)} {gs : List (Key × V)}, bC K CL Z aU gs -> bC K CL Z (aU.map (fun kv => if kv.1 = k then (kv.1, d) else kv)) (gs.map (fun kv => if kv.1 = k then (kv.1, v) else kv))
 | _, _, .nil => .nil
 | _, _, .cons (x := x) h r => by
   rw [aew, aew]
   by_cases e : x = k
   . rw [aer e, aer e]; exact .cons q (bC.repl q r)
   . rw [aeq e, aeq e]; exact .cons h (bC.repl q r)
theorem bC.snoc {k : Key} (q : bq K CL Z d v) : ∀ {aU : List (Key × D)} {gs : List (Key × V)}, bC K CL Z aU gs -> bC K CL Z (aU ++ [(k, d)]) (gs ++ [(k, v)])
 | _, _, .nil => .cons q .nil
 | _, _, .cons h r => .cons h (bC.snoc q r)
theorem bC.put {k : Key} (q : bq K CL Z d v) (r : bC K CL Z aU gs) : bC K CL Z (xZ aU k d) (putK gs k v) := by
 unfold xZ putK
 rw [r.any]
 split
 . exact r.repl q
 . exact r.snoc q
theorem bq.key {k : Key} (r : bq K CL Z (UH k) v) : v = kV k := by
 cases k with
 | inl i => exact r.sc rfl
 | inr x => exact r.sc rfl
theorem bJ.UI {p : Addr} (S : bJ K CL b H Z δ σ ts vs) (hp : H p = none) : aD H (upd H p (.dK [])) /\ bJ K CL b (upd H p (.dK [])) Z δ σ (.pM [] :: ts) (.ref p :: vs) := by
 obtain ⟨fp, gp, e, r, nd, k⟩ := S.rep
 have zp : Z p = none := S.zh.free hp
 have sh : aD H (upd H p (.dK [])) := aD.upd hp
 have keep : ∀ a ∈ fp ++ gp, a ≠ p := fun a ha => by
   have : ∃ o, H a = some o := by
     rcases aen.mp ha with h | h
     . exact e.there a h
     . exact r.there a h
   obtain ⟨o, q⟩ := this
   exact bx q hp
 refine ⟨sh, ⟨⟨fp, [p] ++ gp, e.mono (.refl _) (fun a ha => aB (keep a (aei _ ha))), .cons (.pM aQ .nil) (r.mono (.refl _) fun a ha => aB (keep a (by simp [ha]))), ?_, fun a ha => ?_⟩, S.bh.trans sh, S.zz, S.zh.trans sh, S.new, fun a o q i => ?_, S.tab⟩⟩
 . refine (afk (l₁ := fp) (l₂ := gp) (a := p)).nodup_iff.mpr (ae9.mpr ⟨fun h => keep p h rfl, nd⟩)
 . rcases aek.mp ((afk (l₁ := fp) (l₂ := gp) (a := p)).mem_iff.mp ha) with h | h
   . subst h; exact ⟨zp, S.bh.free hp⟩
   . exact k a h
 . by_cases ha : a = p
   . subst ha; rw [aQ] at q; cases q; cases i
   . rw [aB ha] at q; exact S.tp a o q i
theorem bJ.UJ {i : Nat} (k : Key) (S : bJ K CL b H Z δ σ (.sh d :: ts) (v :: vs)) (hi : δ[i]? = some (some (.pM aU))) :
   ∃ a gs, σ[i]? = some (some (.ref a)) /\ H a = some (.dK gs) /\ gs.length = aU.length /\ bJ K CL b (upd H a (.dK (putK gs k v))) Z (δ.set i (some (.pM (xZ aU k d)))) σ ts vs := by
 obtain ⟨fp, gp, e, r, nd, kk⟩ := S.rep
 obtain ⟨v0, f1, f2, f3, hv, vq, rt, put, _⟩ := e.get hi
 subst vq
 cases rt with
 | @pM a gs _ ha rs =>
   cases r with
   | @cons _ _ _ _ ft gr q1 q2 =>
     cases q1 with
     | sh q1 =>
       have ne : ∀ c ∈ (f1 ++ f3) ++ gr, c ≠ a := fun c hc e => by
         subst e
         have hp : ((f1 ++ ([c] ++ f3)) ++ ([] ++ gr)).Perm (c :: ((f1 ++ f3) ++ gr)) := by
           rw [List.nil_append, List.singleton_append]
           exact (afk.append_right _)
         exact (ae9.mp (hp.nodup_iff.mp nd)).1 hc
       refine ⟨a, gs, hv, ha, rs.length.symm, ?_⟩
       have r1 : cU K CL (upd H a (.dK (putK gs k v))) Z (.pM (xZ aU k d)) (.ref a) [a] := .pM aQ (rs.put q1)
       have e2 := put (H' := upd H a (.dK (putK gs k v))) (.refl _) (fun c hc => aB (ne c (by
         rcases aen.mp hc with h | h
         . simp [h]
         . simp [h]))) r1
       rw [rW hv] at e2
       exact S.Lp rfl kk (by simp) e2 (q2.mono (.refl _) fun c hc => aB (ne c (by simp [hc]))) nd fun c hc => hc
end
section
variable {X : Cx} {CL : Str -> Addr} {b : Bx} {δ δ1 δ2 : List (Option T)} {e e1 e2 : Expr} {t : T} {d : L3.D} {D : cH} {pos pp ps : Pos} {i : Nat} {x : Str} {gi : List Stmt} {aU : List (Key × L3.D)} {k : Key}
theorem Pw : bS X CL b (.Dict [] [] pos) δ (.pM []) δ := fun H Z σ ts vs Q S kk => cC KS fun p hp => by
 obtain ⟨c, S1⟩ := S.UI hp
 exact kk _ _ Z (.refl _) c S1
theorem UK (k : Key) (hu : X.A.units + 64 < cLine) (n : Vn X i x) (h : bS X CL b e δ (.sh d) δ1) (h2 : cG X CL b e2 δ1 (UH k) δ1) (h1 : δ1[i]? = some (some (.pM aU))) (hl : aU.length <= 1000000) (kk : gk X CL b gi (δ1.set i (some (.pM (xZ aU k d)))) D)
   (hs : swapsWith e (some (.Subscript (.Name x pp) e2 ps)) pos.line X.env = pure false := by rfl) :
   gk X CL b (.Assign [.Subscript (.Name x pp) e2 ps] e pos :: gi) δ D := eK fun H Z σ ts vs E S M =>
 xO (OJ (by omega) (mE n.hi n.hv n.hd n.n8) dB dB hs) (h H Z σ ts vs _ S fun v H1 Z1 z1 k1 S1 => by
   obtain ⟨v0, e0, _⟩ := S1.look h1
   refine ⟨v0, e0, h2 H1 Z1 σ _ _ _ S1 fun v2 H2 Z2 z2 k2 S2 r2 => ?_⟩
   obtain ⟨a, gs, ea, ha, hg, S3⟩ := S2.UJ k h1
   rw [e0] at ea
   cases ea
   exact ⟨a, _, rfl, by rw [r2.key]; exact KQ.k ha (by rw [hg]; exact Nat.lt_of_le_of_lt hl (by rw [afh]; decide)), M.nx _ σ _ Z2 (z1.trans z2) S3 kk⟩)
theorem LD {Z : Hp} {gs : List (Key × V)} {K : PySem.W.Frag} (rr : bC K CL Z aU gs) : (qC gs k).isSome = (A1 aU k).isSome := by
 rcases rr.val (k := k) with ⟨h0, h1⟩ | ⟨d', v', h0, h1, _⟩
 . rw [h0, h1]; rfl
 . rw [h0, h1]; rfl
end
section
variable {K : PySem.W.Frag} {CL : Str -> Addr} {b : Bx} {H Z : Hp} {δ : List (Option T)} {σ : L2.St} {ts : List T} {vs : List V} {t : T} {v w : V} {f c : Str} {J9 : List (Str × T)}
theorem dz.Px {ft : List Addr} (rt : cU K CL H Z t v ft) : ∀ {DC : List (Str × T)} {gs : List (Str × V)} {fp : List Addr}, dz K CL H Z (DC ++ (f, .sh (.val v)) :: J9) gs fp -> ∃ Hg, dz K CL H Z (DC ++ (f, t) :: J9) gs Hg /\ Hg.Perm (fp ++ ft)
 | [], _, _, r => by
   cases r with
   | @cons _ _ v' _ _ f1 gp h r =>
     cases h with
     | sh h =>
       cases h
       exact ⟨ft ++ gp, .cons rt r, aeP⟩
 | (y, u) :: DC, _, _, r => by
   cases r with
   | @cons _ _ v' _ _ f1 gp h r =>
     obtain ⟨Hg, r', p⟩ := dz.Px rt (DC := DC) r
     refine ⟨f1 ++ Hg, .cons h r', ?_⟩
     rw [aed]
     exact p.append_left f1
theorem bJ.Px {DC : List (Str × T)} (S : bJ K CL b H Z δ σ (.ins c (DC ++ (f, .sh (.val v)) :: J9) :: t :: ts) (w :: v :: vs)) : bJ K CL b H Z δ σ (.ins c (DC ++ (f, t) :: J9) :: ts) (w :: vs) := by
 obtain ⟨fp, gp, e, r, nd, k⟩ := S.rep
 cases r with
 | @cons _ _ _ _ g1 g2 r1 r2 =>
   cases r2 with
   | @cons _ _ _ _ g3 g4 r3 r4 =>
     cases r1 with
     | @ins a dx _ gs _ fp1 ha rf =>
       obtain ⟨Hg, rf', p⟩ := dz.Px r3 rf
       have pm : (fp ++ ((a :: Hg) ++ g4)).Perm (fp ++ ((a :: fp1) ++ (g3 ++ g4))) := by
         refine aeT fp ?_
         rw [← aed]
         refine List.Perm.append_right g4 ?_
         rw [aeB]
         exact List.Perm.cons a p
       exact ⟨⟨fp, (a :: Hg) ++ g4, e, .cons (.ins ha rf') r4, pm.nodup_iff.mpr nd, fun c hc => k c (pm.mem_iff.mp hc)⟩, S.bh, S.zz, S.zh, S.new, S.tp, S.tab⟩
end
noncomputable def Zb (X : Cx) (CL : Str -> Addr) (b : Bx) (es : List Expr) (δ : List (Option T)) (dv : V -> List D) (t : T) (δ' : List (Option T)) : Prop :=
 ∀ (H Z : Hp) (σ : L2.St) (ts : List T) (vs : List V) (Q : List V -> Hp -> Prop), bJ X.K CL b H Z δ σ ts vs →
   (∀ us H' Z' v, aD Z Z' -> aD H H' -> bJ X.K CL b H' Z' δ' σ (t :: ts) (v :: vs) -> aE X.K CL H' (dv v) us -> Q us H') -> KZ X es σ H Q
theorem T.x6 {f : Str} {v : V} {J9 : List (Str × T)} (h2 : T.bV J9 = true) : ∀ {DC : List (Str × T)}, T.bV DC = true -> T.bV (DC ++ (f, .sh (.val v)) :: J9) = true
 | [], _ => by rw [List.nil_append, T.bV, h2]; rfl
 | (x, t) :: DC, h => by
   rw [T.bV, aev] at h
   rw [aeB, T.bV, h.1, T.x6 h2 h.2]; rfl
section
variable {X : Cx} {CL : Str -> Addr} {b : Bx} {δ δ1 δ2 : List (Option T)} {e o : Expr} {es : List Expr} {pos pp apos : Pos} {t : T} {ds : List D} {d : D} {dv : V -> List D}
theorem LJ (h : bS X CL b e δ t δ1) (r : RP X CL b es δ1 ds δ2) (hs : notStar e = true := by rfl) : Zb X CL b (e :: es) δ (fun v => .val v :: ds) t δ2 := fun H Z σ ts vs Q S k =>
 IZ (cy dB N2 (bR hs)) (h H Z σ ts vs _ S fun v H1 Z1 z1 k1 S1 => r H1 Z1 σ _ _ _ S1 fun us H2 Z2 z2 k2 S2 r2 => k (v :: us) H2 Z2 v (z1.trans z2) (k1.trans k2) S2 (.cons (.val v) r2))
theorem DE (h : cG X CL b e δ d δ1) (r : Zb X CL b es δ1 dv t δ2) (hs : notStar e = true := by rfl) : Zb X CL b (e :: es) δ (fun v => d :: dv v) t δ2 := fun H Z σ ts vs Q S k =>
 IZ (cy dB N2 (bR hs)) (h H Z σ ts vs _ S fun v H1 Z1 z1 k1 S1 r1 => r H1 Z1 σ ts vs _ S1 fun us H2 Z2 v2 z2 k2 S2 r2 => k (v :: us) H2 Z2 v2 (z1.trans z2) (k1.trans k2) S2 (.cons (r1.mono k2) r2))
variable {A : Type} {k n : Nat} {arg : A -> List D} {Pre : A -> Prop} {x c m f : Str}
theorem mkP {res : A -> List (Str × T)} (a : V -> A) {DC J9 : List (Str × T)} (F : Fm X CL x k n arg Pre res) (hg : Gl X x) (h : Zb X CL b (e :: es) δ dv t δ1) (ha : ∀ v, arg (a v) = dv v) (hp : ∀ v, Pre (a v)) (hr : ∀ v, res (a v) = DC ++ (f, .sh (.val v)) :: J9) (hc : T.bV DC = true) (hc2 : T.bV J9 = true) (hn : ∀ v, (arg (a v)).length + 1 = n := by exact fun _ => rfl)
   (vR : (x == ("__debug__" : Str)) = false := by decide) (he : starEach (e :: es) X.env = (false, eval e X.env) :: starEach es X.env := by exact bR rfl) (vS : (backTo pos (starEach es X.env)).any (·.1) = false := by rfl) :
   bS X CL b (.Call (.Name x pp) (e :: es) [] pos) δ (.ins x (DC ++ (f, t) :: J9)) δ1 := fun H Z σ ts vs Q S kk => by
 obtain ⟨f', fd, ps, M, F1, hm, hb⟩ := F.ex
 exact cC (GY M F1 F.room hg hm hb .nil Di N2 vR he vS) (h H Z σ ts vs _ S fun us H1 Z1 v z1 k1 S1 r y dx hx Xp ne => by
   rw [aeY]
   refine ⟨H1, H1, a v, y, dx, us, rfl, hx, Xp, ne, rfl, .refl _, fun _ _ q _ => q, by rw [ha]; exact r, hn v, hp v, S1.OS, fun H' W' fp hh ww wh nw tp rt nd own => ⟨rfl, ?_⟩⟩
   obtain ⟨Z', z', S'⟩ := S1.back hh S1.zh ww wh nw tp rt nd own (.inr (by rw [T.clean, hr]; exact T.x6 hc2 hc))
   rw [hr] at S'
   exact kk _ H' Z' (z1.trans z') (k1.trans hh) S'.Px)
end
section
variable {X : Cx}
end
section
variable {X : Cx} {CL : Str -> Addr} {b : Bx} {δ δ1 : List (Option T)} {e : Expr} {pos pp : Pos} {l : List Bool}
end
namespace Rv
theorem Jo : PySem.Slot "reversed" "__init__" "object.__init__" :=
 .of (owner := "object") (n := "__init__") (by rw [typeLookup_type, builtinLookup_eq_fast]; kernel_rfl) (by decide +kernel) (by decide +kernel) (by decide +kernel)
   (by first | exact .inl (by decide +kernel) | exact .inr (by decide +kernel)) (by rw [isSubtype_type]; kernel_rfl)
theorem called : TypeCalled "reversed" "reversed.__new__" "object.__init__" :=
 ⟨by decide +kernel, by decide +kernel, ⟨_, _, PySem.F.mro_reversed⟩, PySem.F.made_reversed, by decide +kernel, PySem.F.sub_reversed_self, Jo⟩
noncomputable def obj (t : Addr) (i : Int) : Obj := { cls := .type "reversed", data := .fields #[.ref t, rawInt i] }
noncomputable def Is (h : Heap) (a t : Addr) (i : Int) : Prop := ∃ o, h.get? a = some o /\ o.cls = .type "reversed" /\ o.data = .fields #[.ref t, rawInt i]
section
variable {prog : Program} {w : World} {A : Around} {E : Value -> Shared -> Prop} {s : Shared}
end
end Rv
namespace Rv
section
variable {prog : Program} {w : World} {A : Around} {E : Value -> Shared -> Prop} {s : Shared}
end
end Rv
section
variable {X : Cx} {tg : Expr}
end
section
variable {X : Cx} {CL : Str -> Addr} {b : Bx} {δ δ1 : List (Option T)} {e : Expr} {ds : List D} {tg : Expr} {pr pc : Pos}
end
section
variable {X : Cx} {CL : Str -> Addr} {b : Bx} {δ δ1 : List (Option T)} {e : Expr} {t : T} {tl N3 tt tt0 : List T} {D : cH} {pos pp pa pb : Pos}
variable {gi : List Stmt} {i i2 : Nat} {x y : Str} {DD : cH}
end
section
variable {X : Cx} {CL : Str -> Addr} {b : Bx} {δ δ1 : List (Option T)} {e : Expr} {ds : List D} {tg : Expr} {pr pc : Pos} {l : Bool}
end
section
variable {X : Cx} {CL : Str -> Addr} {b : Bx} {δ : List (Option T)}
end
section
variable {K : PySem.W.Frag} {CL : Str -> Addr} {b : Bx} {H Z : Hp} {δ : List (Option T)} {σ : L2.St} {ts tl : List T} {vs : List V} {ds : List D} {us : List V}
end
section
variable {X : Cx} {CL : Str -> Addr} {b : Bx} {δ δ1 : List (Option T)} {e : Expr} {tl N3 : List T} {ds : List L3.D} {D : cH} {pos pp pa pb : Pos} {i : Nat} {x : Str} {gi : List Stmt}
end
section
variable {X : Cx} {CL : Str -> Addr} {b : Bx} {δ δ1 δ2 δ3 : List (Option T)} {e e1 e2 : Expr} {ds Jd : List L3.D} {pos p2 : Pos}
end
section
variable {a₀ xs : Array Keyed} {ι : Nat -> Nat} {n : Nat}
noncomputable def turned (ι : Nat -> Nat) (i j : Nat) : Nat -> Nat := fun k => if i <= k /\ k < j then ι (i + j - 1 - k) else ι k
end
section
variable {prog : Program} {w : World} {A : Around} {E : Value -> Shared -> Prop} {s : Shared} {a₀ : Array Keyed}
end
section
variable {X : Cx}
end
section
variable {X : Cx} {CL : Str -> Addr} {b : Bx} {δ δ1 : List (Option T)} {e : Expr} {pos pp p1 p2 : Pos} {kj : Nat}
end
section
variable {X : Cx} {i : Nat} {x : Str}
theorem mkL (hi : X.N[i]? = some x) (h : X.env.scope.names.lookup x = some .local) (hf : X.fn x = true) (hd : (x == ("__debug__" : Str)) = false := by decide) (hc : (x == ("__classdict__" : Str)) = false := by decide) : Ln X i x := ⟨⟨hi, .inl h, hd, hc⟩, .inl h, .inl hf⟩
theorem mkC (hi : X.N[i]? = some x) (h : X.env.scope.names.lookup x = some .cell) (hf : X.fn x = true) (hd : (x == ("__debug__" : Str)) = false := by decide) (hc : (x == ("__classdict__" : Str)) = false := by decide) : Ln X i x := ⟨⟨hi, .inr (.inl h), hd, hc⟩, .inr h, .inl hf⟩
end
theorem cQ {P : Program} {w : World} {K : PySem.W.Frag} {mg : Str -> Option Value} {base : Heap} {k : Nat} {f : Addr} {fd : FuncData} {ps : List Str} {sp : Sp} {x : Str} (G : bT P w K mg base jA k f fd ps sp) (m : mg x = some (.ref f)) (q : PySem.W.keepIn K (.ref f) = true) (b : Binds K fd ps []) :
   ∃ f fd ps, bT P w K mg base jA k f fd ps sp /\ mg x = some (.ref f) /\ PySem.W.keepIn K (.ref f) = true /\ Binds K fd ps [] := ⟨_, _, _, G, m, q, b⟩
section
variable {X : Cx} {CL : Str -> Addr} {b : Bx} {δ δ1 δc : List (Option T)} {scope : Scope} {y : Str} {Nc : List Str} {ix : List Nat} {elt iter : Expr} {ifs : List Expr} {px pc pos : Pos} {p : L3.D -> Bool} {g : L3.D -> T} {ds : List L3.D}
theorem Xw (sc : lS X scope y Nc ix) : oE X scope [y] Nc ix := ⟨sc.kind, sc.AQ, sc.nd, sc.names, (fun x hx => by rw [List.mem_singleton] at hx; subst hx; exact sc.own), sc.frees, sc.hd, sc.Xj⟩
theorem Xx (sc : lS X scope y Nc ix) (h : Block X CL scope Nc ifs elt δc ds p g) (h1 : (y == ("__debug__" : Str)) = false) (h2 : (y == ("__classdict__" : Str)) = false) : uF X CL scope Nc [y].length (.Name y px) part1 ifs elt δc ds p g := fun C s0 H0 f0 b' =>
 ⟨Ls (i := 0) sc.nd (UC (by rw [sc.hd]; rfl) sc.own h1 h2), fun d hd => ⟨[d], rfl, rfl, (h C s0 H0 f0 b' d hd).1, (h C s0 H0 f0 b' d hd).2⟩⟩
theorem w9 (sc : lS X scope y Nc ix) (hc : X.calm = true) (h : N4 X CL b (.Name y px) iter δ ds δ1) (hb : (δc = Dk δ1 ix /\ ∀ d ∈ ds, (g d).clean = true) \/ δc = Dl δ1 ix) (inner : Block X CL scope Nc ifs elt δc ds p g) (hlen : ds.length <= sizeLine)
   (hs : ∀ x, foldedSetIterable iter X.env x = pure x := by intro _; rfl) (h1 : (y == ("__debug__" : Str)) = false := by decide) (h2 : (y == ("__classdict__" : Str)) = false := by decide) : bS X CL b (.ListComp elt [⟨.Name y px, iter, ifs, 0⟩] scope pos) δ (.lst ((ds.filter p).map g)) δ1 :=
 Dw (xs := [y]) (Xw sc) hc (R0 h) hb (Xx sc inner h1 h2) hlen hs
theorem A2 {D : cH} {gi : List Stmt} {i : Nat} {x : Str} {pos' : Pos} {gg : L3.D -> T} (g : Gx X) (n : Ln X i x) (sc : lS X scope y Nc ix) (h : N4 X CL b (.Name y px) iter δ ds δ1) (hb : (δc = Dk δ1 ix /\ ∀ d ∈ ds, (gg d).clean = true) \/ δc = Dl δ1 ix) (inner : Block X CL scope Nc ifs elt δc ds p gg)
   (hlen : ds.length <= sizeLine) (k : gk X CL b gi (δ1.set i (some (.lst ((ds.filter p).map gg)))) D) (hl : i < δ1.length)
   (Ja : swapsWith (.ListComp elt [⟨.Name y px, iter, ifs, 0⟩] scope pc) (some (.Name x pos')) pos.line X.env = pure true \/ swapsWith (.ListComp elt [⟨.Name y px, iter, ifs, 0⟩] scope pc) (some (.Name x pos')) pos.line X.env = pure false) (hs : ∀ x, foldedSetIterable iter X.env x = pure x := by intro _; rfl)
   (h1 : (y == ("__debug__" : Str)) = false := by decide) (h2 : (y == ("__classdict__" : Str)) = false := by decide) : gk X CL b (.Assign [.Name x pos'] (.ListComp elt [⟨.Name y px, iter, ifs, 0⟩] scope pc) pos :: gi) δ D :=
 UB (xs := [y]) g n (Xw sc) (R0 h) hb (Xx sc inner h1 h2) hlen k hl Ja hs
end
section
variable {X : Cx} {CL : Str -> Addr} {b : Bx} {δ : List (Option T)} {i : Nat} {x : Str} {d : L3.D} {pos : Pos}
theorem aG (n : Ln X i x) (h : δ[i]? = some (some (.sh d)) := by rfl) : cG X CL b (.Name x pos) δ d δ := ai (v_ n.1 h)
end
structure cj (X : Cx) : Prop where
 g : Gx X
 u : X.A.units + 64 < cLine
noncomputable abbrev aA (X : Cx) (CL : Str -> Addr) (b : Bx) (st : Stmt) (N : List Str) (l : List L3.D) (r : T) : Prop := gk X CL b (jx st) (entry N l) { nx := fun _ => r = .sh .non, rt := fun UL _ => UL = r }
noncomputable abbrev av : NameKind := .globalImplicit
noncomputable abbrev ay : NameKind := .local
theorem aT {N P : List Str} {sc : Scope} (h1 : sc.kind = .function := by rfl) (h2 : sc.isCoroutine = false := by rfl) (h3 : sc.isGenerator = false := by rfl) (h4 : N.Nodup := by decide +kernel) (h5 : N.take P.length = P := by rfl) (h6 : ∀ x ∈ P, sc.names.lookup x = some .local \/ sc.names.lookup x = some .cell := by decide +kernel) (h7 : ∀ y ∈ sc.names, y.2 ≠ .free := by decide +kernel) : aK N P sc := ⟨h1, h2, h3, h4, h5, h6, h7⟩
section
variable {X : Cx} {i : Nat} {x : Str} {tb : List (Str × NameKind)}
theorem bL (c : mD X.env.scope tb = true) (j : Nat) (hj : tb[j]? = some (x, .local) := by rfl) (hi : X.N[i]? = some x := by rfl) (hf : X.fn x = true := by rfl) (hd : (x == ("__debug__" : Str)) = false := by decide) (hc : (x == ("__classdict__" : Str)) = false := by decide) : Ln X i x := mkL hi (gn c j hj) hf hd hc
theorem N6 (c : mD X.env.scope tb = true) (j : Nat) (hj : tb[j]? = some (x, .cell) := by rfl) (hi : X.N[i]? = some x := by rfl) (hf : X.fn x = true := by rfl) (hd : (x == ("__debug__" : Str)) = false := by decide) (hc : (x == ("__classdict__" : Str)) = false := by decide) : Ln X i x := mkC hi (gn c j hj) hf hd hc
theorem cO (c : mD X.env.scope tb = true) (j : Nat) (hj : tb[j]? = some (x, .globalImplicit) := by rfl) : Gl X x := gn c j hj
theorem cP {CL : Str -> Addr} {k n m : Nat} {A : Type} {arg : A -> List D} {Pre : A -> Prop} {res : A -> T} (F : ∃ f fd ps, bT X.prog X.w X.K X.mg X.base jA k f fd ps (lu X.K CL n arg Pre res) /\ X.mg x = some (.ref f) /\ PySem.W.keepIn X.K (.ref f) = true /\ Binds X.K fd ps []) (r : gW m X.A) (h : k <= m := by decide) : Fc X CL x k n arg Pre res := ⟨F, r.mono h⟩
end
section
variable {K : PySem.W.Frag} {CL : Str -> Addr} {b : Bx} {H H' Z Z' : Hp} {δ δ' : List (Option T)} {σ σ' : L2.St} {ts tl : List T} {vs us : List V} {t : T} {v : V} {y : Addr} {i : Nat}
end
section
variable {K : PySem.W.Frag} {CL : Str -> Addr} {b : Bx} {H Z : Hp} {σ : L2.St} {ts : List T} {vs : List V}
end
section
variable {X : Cx} {CL : Str -> Addr} {b : Bx} {δ δ1 δ2 : List (Option T)} {e : Expr} {es : List Expr} {t : T} {d : L3.D} {pos pp : Pos} {D : cH} {i : Nat} {x : Str} {is : List Nat} {fx : List Addr -> Prop} {al : List Addr -> List T} {y : Addr}
variable {gi : List Stmt}
end
section
variable {X : Cx} {CL : Str -> Addr} {b : Bx} {δ δ1 δ2 : List (Option T)} {e e2 : Expr} {t : T} {tl N3 tl2 : List T} {D : cH} {pos pp pa pb : Pos} {y : Addr} {gi : List Stmt}
section
variable {i : Nat} {x : Str}
end
end
section
variable {α β : Type} {g : α -> Int}
end
section
variable {X : Cx} {CL : Str -> Addr} {pins : List (Addr × Obj)} {σ : L2.St} {H : Hp} {s : Shared} {x q : Str} {params : Arguments} {body : Expr} {scope : Scope} {pos : Pos}
end
section
variable {X : Cx} {scope : Scope} {x q : Str} {Nc : List Str} {ix : List Nat} {pins : List (Addr × Obj)} {σ : L2.St} {H : Hp} {s : Shared} {A : Around} {f c : Addr}
end
section
variable {X : Cx} {pins : List (Addr × Obj)} {σ : L2.St} {H : Hp} {s : Shared}
end
section
variable {α β : Type} {F : α -> β -> Prop} {g1 : α -> Int} {g2 : β -> Int}
end
section
variable {X : Cx} {pins : List (Addr × Obj)} {σ : L2.St} {H : Hp} {s : Shared} {a kS f l : Addr} {us : List Value} {xs : List V} {kz : List Int} {J : Hp -> Prop} {e1 : Nat} {A : Around} {E : Value -> Shared -> Prop} {P : PySem.Fin -> Shared -> Prop}
end
section
variable {K : PySem.W.Frag} {CL : Str -> Addr} {Z : Hp} {g : D -> Int}
end
section
variable {X : Cx} {CL : Str -> Addr} {b : Bx} {δ δ1 : List (Option T)} {e body : Expr} {ds : List L3.D} {g : L3.D -> Int} {scope : Scope} {y q tx : Str} {Nc : List Str} {ix : List Nat} {params : Arguments} {pos pp lp p2 : Pos}
variable {A : Around} {f c : Addr} {s : Shared} {H : Hp} {i : Nat} {x : Str}
end
section
variable {X : Cx}
end
section
variable {X : Cx} {CL : Str -> Addr} {b : Bx} {δ δ1 δ2 : List (Option T)} {o e : Expr} {apos pos : Pos}
end
section
variable {X : Cx} {CL : Str -> Addr} {b : Bx} {δ : List (Option T)} {e : Expr} {es : List Expr} {d : L3.D} {ds : List L3.D}
end
section
variable {X : Cx} {CL : Str -> Addr} {b : Bx} {δ δ1 : List (Option T)} {scope : Scope} {y : Str} {Nc : List Str} {ix : List Nat} {elt iter : Expr} {ifs : List Expr} {px pos : Pos} {p : L3.D -> Bool} {g : L3.D -> T} {ds : List L3.D}
end
section
variable {X : Cx}
end
section
variable {X : Cx} {CL : Str -> Addr} {b : Bx} {δ δ1 : List (Option T)} {e : Expr} {pos pp pq pr : Pos}
end
section
variable {X : Cx} {CL : Str -> Addr} {b : Bx} {δ δ1 : List (Option T)} {ds : List L3.D} {i q : Nat} {x y : Str} {pos pp pos' : Pos}
end
section
variable {X : Cx} {CL : Str -> Addr} {b : Bx} {e o : Expr} {δ δ1 δ2 : List (Option T)} {pos apos : Pos}
end
section
variable {X : Cx} {tg : Expr}
end
section
variable {X : Cx} {CL : Str -> Addr} {b : Bx} {δ δ1 δ2 δ3 : List (Option T)} {e e1 e2 e3 : Expr} {ds Jd : List L3.D} {pos p2 pr pc : Pos} {tg : Expr}
end
section
variable {X : Cx} {elts : List Expr} {kk : Nat} {pt : Pos}
end
section
variable {X : Cx} {CL : Str -> Addr} {b : Bx} {δ δ1 δ2 : List (Option T)} {e e1 e2 : Expr} {ds es : List D} {elts : List Expr} {kk : Nat} {pt pr pc pos apos : Pos}
end
section
variable {X : Cx} {CL : Str -> Addr} {b : Bx} {δ δ1 δ2 : List (Option T)} {e e2 : Expr} {t : T} {tl N3 tt tt0 : List T} {DD : cH} {gi : List Stmt} {x : Str} {i : Nat} {pos pp pa pb ps : Pos}
end
section
variable {X : Cx}
end
section
variable {X : Cx} {CL : Str -> Addr} {b : Bx} {δ δ1 δ2 : List (Option T)} {o e : Expr} {apos pos : Pos}
end
section
variable {K : PySem.W.Frag} {CL : Str -> Addr} {b : Bx} {H Z : Hp} {δ : List (Option T)} {σ : L2.St} {ts tl : List T} {vs : List V} {t : T} {v : V} {d : D}
end
section
variable {X : Cx} {CL : Str -> Addr} {b : Bx} {δ δ1 δ2 : List (Option T)} {e e1 e2 : Expr} {t : T} {d : L3.D} {DD : cH} {pos pp ps : Pos} {i : Nat} {x : Str} {gi : List Stmt} {aU : List (List Key × L3.D)} {k : List Key}
end
theorem Jp : bootBuiltins "set" = some (.type "set") := by decide +kernel
section
variable {X : Cx}
end
section
variable {X : Cx} {CL : Str -> Addr} {b : Bx} {δ δ1 : List (Option T)} {e : Expr} {pos pp pq pr : Pos}
end
section
variable {X : Cx} {CL : Str -> Addr} {b : Bx} {δ δ1 δ2 : List (Option T)} {e1 e2 e3 : Expr} {pos : Pos}
theorem R5 {op op' : CmpOp} {f g : Int -> Int -> Bool} {i j k : Int} (ho : ql X (compareOp op) (Ol fun i j => .bl (f i j))) (En : ql X (compareOp op') (Ol fun i j => .bl (g i j))) (h1 : cG X CL b e1 δ (.int i) δ1) (h2 : cG X CL b e2 δ1 (.int j) δ2) (h3 : cG X CL b e3 δ2 (.int k) δ2) (hm : lastMarks [op, op'] [e2, e3] = false) :
   pN X CL b (.Compare e1 [op, op'] [e2, e3] pos) δ (f i j && g j k) δ2 /\ bS X CL b (.Compare e1 [op, op'] [e2, e3] pos) δ (.sh (.bl (f i j && g j k))) δ2 := by
 constructor
 . intro H Z σ ts vs Q S q
   refine xN (Ku ho En dB dB dB hm) (h1 H Z σ ts vs _ S fun v1 H1 Z1 z1 k1 S1 r1 => h2 H1 Z1 σ ts vs _ S1 fun v2 H2 Z2 z2 k2 S2 r2 => ?_)
   rw [r1.sc rfl, r2.sc rfl]
   refine ⟨i, j, rfl, rfl, f i j, rfl, ?_⟩
   cases hf : f i j with
   | false => exact ite_ff ⟨false, rfl, by rw [hf] at q; exact q H2 Z2 (z1.trans z2) (k1.trans k2) S2⟩
   | true =>
     refine ite_tt (h3 H2 Z2 σ ts vs _ S2 fun v3 H3 Z3 z3 k3 S3 r3 => ?_)
     rw [r3.sc rfl]
     exact ⟨j, k, rfl, rfl, g j k, rfl, by rw [hf] at q; exact q H3 Z3 ((z1.trans z2).trans z3) ((k1.trans k2).trans k3) S3⟩
 . intro H Z σ ts vs Q S q
   refine cC (Ks ho En dB dB dB hm) (h1 H Z σ ts vs _ S fun v1 H1 Z1 z1 k1 S1 r1 => h2 H1 Z1 σ ts vs _ S1 fun v2 H2 Z2 z2 k2 S2 r2 => ?_)
   rw [r1.sc rfl, r2.sc rfl]
   refine ⟨i, j, rfl, rfl, f i j, rfl, ?_⟩
   cases hf : f i j with
   | false => exact ite_ff (by rw [hf] at q; exact q _ H2 Z2 (z1.trans z2) (k1.trans k2) (S2.push (.bl _)))
   | true =>
     refine ite_tt (h3 H2 Z2 σ ts vs _ S2 fun v3 H3 Z3 z3 k3 S3 r3 => ?_)
     rw [r3.sc rfl]
     exact ⟨j, k, rfl, rfl, by rw [hf] at q; exact q _ H3 Z3 ((z1.trans z2).trans z3) ((k1.trans k2).trans k3) (S3.push (.bl _))⟩
theorem UM {kj : Nat} {p2 : Pos} (h : cG X CL b e1 δ .non δ1) : pN X CL b (.Compare e1 [.Is] [.Constant .none kj p2] pos) δ true δ1 /\ bS X CL b (.Compare e1 [.Is] [.Constant .none kj p2] pos) δ (.sh (.bl true)) δ1 := by
 constructor
 . exact fun H Z σ ts vs Q S k => xN (Kl (Kg dB)) (h H Z σ ts vs _ S fun v H1 Z1 z1 k1 S1 r => by
     cases r
     exact ⟨_, rfl, by simpa using k H1 Z1 z1 k1 S1⟩)
 . exact fun H Z σ ts vs Q S k => cC (Kh (Kg dB)) (h H Z σ ts vs _ S fun v H1 Z1 z1 k1 S1 r => by
     cases r
     exact by simpa using k _ H1 Z1 z1 k1 (S1.push (.bl true)))
end
section
variable {prog : Program} {w : World} {A : Around} {E : Value -> Shared -> Prop} {s : Shared}
noncomputable def qu (ns : List Str) (i : Nat) (q : Str) : Bool := decide (q ∈ ns.take i)
theorem LK {R : Result -> Shared -> Prop} {I a : Addr} {items : Array Value} (hh : A.in1.handled = none) (Za : a ≠ I) {S : Addr} (hS1 : S ≠ I) (Zc : S ≠ a) {ns : List Str} (hn : items.size = ns.length) (nd : ns.Nodup) (hb : ns.length + 1 < scanBound)
   (hv : ∀ (i : Nat) (v : Value), items[i]? = some v -> ∃ x t, ns[i]? = some x /\ v = Value.str x t) :
   ∀ (k i : Nat) (h : Heap) (tk : Nat), i + k = ns.length -> h.IsListIter I a i -> h.IsList a items -> h.SetOf (strKind prog w) S (qu ns i) i →
     (∀ h' UN, (∀ b o, b ≠ S -> b ≠ I -> h.get? b = some o -> h'.get? b = some o) -> h'.SetOf (strKind prog w) S (qu ns ns.length) ns.length -> R (.ok (.ret .none)) { s with heap := h', toks := UN }) →
     codeAny (model prog w) A (.builtin "set.update.loop" ⟨[.ref S, .ref I], []⟩) R { s with heap := h, toks := tk } := by
 have W := Walks.list (prog := prog) (w := w) (A := A.in1) hh I a Za items
 have R6 : ∀ {h h' : Heap} {f : Str -> Bool} {n : Nat}, (∀ b o, b ∉ [I] -> h.get? b = some o -> h'.get? b = some o) -> h.SetOf (strKind prog w) S f n -> h'.SetOf (strKind prog w) S f n := fun hk ⟨o, es, ep, t, ho, r⟩ => ⟨o, es, ep, t, hk S o (by simp [hS1]) ho, r⟩
 intro k
 induction k with
 | zero =>
   intro i h tk hi hit hl hs hR
   have ei : i = items.size := by omega
   refine codeAny_builtin F.entry_set_update_loop ?_
   rw [Around.under_plainId afP _]
   refine aeC (m := pyNext (.ref I)) (W.done { s with heap := h, toks := tk } _ _ ⟨ei ▸ hit, hl⟩ fun h' UN hk => ?_)
   refine aeX (hR h' UN (fun b o _ b2 e => hk b o (by simp [b2]) e) (R6 hk ?_))
   rw [← hn, ← ei]
   rw [ei] at hs ⊢
   exact hs
 | succ k ih =>
   intro i h tk hi hit hl hs hR
   refine codeAny_builtin F.entry_set_update_loop ?_
   rw [Around.under_plainId afP _]
   refine aeC (m := pyNext (.ref I)) (W.item i { s with heap := h, toks := tk } _ _ (by omega) ⟨hit, hl⟩ fun v h1 t1 hv1 Xn hk => ?_)
   obtain ⟨x, t, hx, rfl⟩ := hv i v hv1
   have hs1 := R6 hk hs
   have hxi : i < ns.length := by omega
   have hxe : ns[i] = x := (aeD.mp hx).2
   have aaN : qu ns i x = false := aeA fun hm => by
     obtain ⟨j, hj, ej⟩ := List.mem_take_iff_getElem.mp hm
     exact (List.pairwise_iff_getElem.mp nd j i (by omega) hxi (by omega)) (ej.trans hxe.symm)
   refine aeC (m := holding [Value.str x t] (setAdd S (.str x t))) (afR ?_)
   unfold setAdd
   refine afR (aeC ((strKind prog w).pyHash (k := x) (strKind_is _ _ _ _) ?_))
   refine wpAny_setAddHashed_of (knd := strKind prog w) (strKind_is _ _ _ _) rfl hs1 (by omega) fun h2 sb Eo => ?_
   rw [aaN] at Eo
   have hs3 : h2.SetOf (strKind prog w) S (qu ns (i + 1)) (i + 1) := by
     have e : (fun k' => qu ns i k' || decide (k' = x)) = qu ns (i + 1) := by
       funext q
       unfold qu
       rw [afQ, hx, ← Bool.decide_or]
       exact decide_eq_decide.mpr (by simp)
     rw [← e]
     exact Eo
   have k12 : ∀ b o, b ≠ S -> h1.get? b = some o -> h2.get? b = some o := fun b o hb e => (sb.2 b hb).trans e
   refine aeX ⟨plainId_quiet afP _, ih (i + 1) h2 _ (by omega) (Xn.1.at fun o e => k12 I o (afG hS1) e) (Xn.2.at fun o e => k12 a o (afG Zc) e) hs3 fun h' UN hk2 Uy => ?_⟩
   exact hR h' UN (fun b o b1 b2 e => hk2 b o b1 b2 (k12 b o b1 (hk b o (by simp [b2]) e))) Uy
theorem DF {a : Addr} {items : Array Value} {ns : List Str} {Q : Value -> Shared -> Prop} (hh : A.handled = none) (hl : s.heap.IsList a items) (hn : items.size = ns.length) (nd : ns.Nodup) (hb : ns.length + 1 < scanBound)
   (hv : ∀ (i : Nat) (v : Value), items[i]? = some v -> ∃ x t, ns[i]? = some x /\ v = Value.str x t)
   (hQ : ∀ h' tk, h'.SetOf (strKind prog w) s.heap.objs.size (qu ns ns.length) ns.length -> (∀ b o, s.heap.get? b = some o -> h'.get? b = some o) -> Q (.ref s.heap.objs.size) { s with heap := h', toks := tk }) :
   wpAny (model prog w) A (call (.type "set") [.ref a]) Q E s := by
 obtain ⟨c, tl, q1⟩ := afu.mro
 have q2 := afu.made; have q3 := afu.sub; have q4 := afu.notType; have q5 := afu.canCreate; have q6 := F.typeCall_set_1 (.ref a)
 refine wpAny_call (codeAny_of_tree (show wpAny _ _ (callAny (.type "set") _) _ _ _ from aeX ⟨Code.quiet_builtin _ (by decide +kernel), codeAny_builtin F.entry_type_call ?_⟩))
 rw [Around.under_plain (weight_type_call_type "set" [.ref a] []) rfl]
 repeat (any_goals (first | assumption | wp_step))
 refine afL (code_set_new_1 (.ref a) (E := E) (Q₁ := fun z s₁ => ∃ led : Bool, z = .ref s.heap.objs.size /\ s₁ = { s with heap := s.heap.push { cls := .type "set", dict := none, data := .set #[] 0 (.fresh 0 0 led) } }) fun led => ⟨led, rfl, rfl⟩) fun r s1 hr => ?_
 cases r with
 | error e => exact hr
 | ok fl =>
   cases fl with
   | ret z =>
     obtain ⟨led, rfl, rfl⟩ := hr
     have hS : (s.heap.push { cls := .type "set", dict := none, data := .set #[] 0 (.fresh 0 0 led) }).get? s.heap.objs.size = some { cls := .type "set", dict := none, data := .set #[] 0 (.fresh 0 0 led) } := aeK _ rfl
     have hT : Shared.TypeIs { s with heap := s.heap.push { cls := .type "set", dict := none, data := .set #[] 0 (.fresh 0 0 led) } } (.ref s.heap.objs.size) "set" := ⟨_, hS, rfl⟩
     have q7 := afu.init.lookup; have q8 := afu.init.bind (.ref s.heap.objs.size)
     repeat (any_goals (first | assumption | wp_step))
     refine afL (codeAny_call_builtin (R := wants (fun r s2 => r = .none /\ ∃ h' tk, s2 = { s with heap := h', toks := tk } /\ h'.SetOf (strKind prog w) s.heap.objs.size (qu ns ns.length) ns.length /\ ∀ b o, s.heap.get? b = some o -> h'.get? b = some o) E) afu.init.plain F.entry_set_init (check_set_init_1 hT ?body)) fun r2 s2 hr2 => ?back
     case back =>
       cases r2 with
       | error e => exact hr2
       | ok fl =>
         cases fl with
         | ret z =>
           obtain ⟨rfl, h', tk, rfl, hS', hk'⟩ := hr2
           repeat (any_goals (first | assumption | wp_step))
           exact hQ _ _ hS' hk'
         | _ => exact hr2.elim
     case body =>
       have h0 := hl
       obtain ⟨⟨oc, od, ob, os⟩, hol, hcl, nl, hdl⟩ := hl
       cases hcl
       cases hdl
       have aaT : (s.heap.push { cls := .type "set", dict := none, data := .set #[] 0 (.fresh 0 0 led) }).get? a = some { cls := .type "list", dict := od, data := .seq items nl, slots := os } := aem _ hol
       have Zd : (s.heap.push { cls := .type "set", dict := none, data := .set #[] 0 (.fresh 0 0 led) }).IsList a items := ⟨_, aaT, rfl, nl, rfl⟩
       have p1 := F.sub_list_set; have p2 := F.sub_list_frozenset
       have p3 : (Value.type "list" == Value.type "dict") = false := by decide
       have ha : a < s.heap.objs.size := aes hol
       have hz : (s.heap.push { cls := .type "set", dict := none, data := .set #[] 0 (.fresh 0 0 led) }).objs.size = s.heap.objs.size + 1 := Heap.size_push ..
       unfold Builtin.«set.__init__» noKeywords Builtin.Frozenset.updateFrom
       generalize hPI : pyIter = PI
       wp_walk
       subst hPI
       refine wpAny_pyIter_list Zd (aeC (wpAny_runValue ?_))
       refine LK (A := A.in1.in1) (S := s.heap.objs.size) (by simp [hh]) (by rw [hz]; exact aeM (Nat.lt_succ_of_lt ha)) (by rw [hz]; exact aeM (afI _)) (Nat.ne_of_gt ha) hn nd hb hv ns.length 0 _ _ (Nat.zero_add _) ⟨_, aeK _ rfl, rfl, rfl⟩ (Zd.push _) ?_ fun h' UN hk hS' => ?_
       . have hg : ((s.heap.push { cls := .type "set", dict := none, data := .set #[] 0 (.fresh 0 0 led) }).push { cls := .type "list_iterator", data := .fields #[.ref a, .int 0 0] }).get? s.heap.objs.size = some { cls := .type "set", dict := none, data := .set #[] 0 (.fresh 0 0 led) } := aem _ hS
         exact SetOf_congr ((setObjOf_fresh (knd := strKind prog w) led).setOf hg (by unfold scanBound; omega)) (fun q => by unfold qu; simp) rfl
       . refine aeX (aeX ⟨rfl, h', UN, rfl, hS', fun b o e => hk b o (aeM (aes e)) ?_ (aem _ (aem _ e))⟩)
         rw [hz]
         exact aeM (Nat.lt_succ_of_lt (aes e))
   | _ => exact hr.elim
end
section
variable {X : Cx}
noncomputable def LN (prog : Program) (w : World) (a : Addr) (n : Nat) (h : Heap) : Prop := ∃ S, h.SetOf (strKind prog w) a S n
theorem Jq (hc : X.calm = true) : oh X (.type "set") (fun xs H Q => ∃ (p : Addr) (ns : List Str), xs = [.ref p] /\ qk X.K H p (ns.map V.str) /\ ns.Nodup /\ ns.length <= 1000 /\ ∀ l, H l = none -> Q (.ref l) (upd H l (.ext (LN X.prog X.w l ns.length)))) := by
 intro pins s σ H xs us Q I r h
 obtain ⟨p, ns, rfl, hp, nd, hn, q⟩ := h
 obtain ⟨u, rfl, ru⟩ := vals1 r
 cases ru
 obtain ⟨its, rv, pl, hz⟩ := I.list hp
 have hl : its.length = ns.length := by rw [← rv.length, aea]
 have hv : ∀ {ns : List Str} {us : List Value}, Vals (ns.map V.str) us -> ∀ (i : Nat) (v : Value), us[i]? = some v -> ∃ x t, ns[i]? = some x /\ v = Value.str x t := by
   intro ns
   induction ns with
   | nil => intro us h i v e; cases h; cases i <;> cases e
   | cons y ns ih =>
     intro us h i v e
     cases h with
     | cons r rr =>
       obtain ⟨t, rfl⟩ := r
       cases i with
       | zero => cases e; exact ⟨y, t, rfl, rfl⟩
       | succ i => exact ih rr i v e
 refine DF (ns := ns) (I.ok.hd hc) pl.isList (by rw [List.size_toArray, hl]) nd (by unfold scanBound; omega) (fun i v e => hv rv i v (by simpa using e)) fun h' tk hS ek => ?_
 have Zc : LN X.prog X.w s.heap.objs.size ns.length h' := ⟨_, hS⟩
 refine ⟨.ref s.heap.objs.size, _, I.laid (t' := tk) (o := .ext (LN X.prog X.w s.heap.objs.size ns.length)) ek (ael _) ⟨Zc, ?_, ?_⟩, rfl, q _ (I.fN.fresh (ael _))⟩
 . obtain ⟨_, o, _, _, _, e, _⟩ := Zc
   exact ⟨o, e⟩
 . rintro h1 h2 ⟨S, o, es, ep, t, e, rest⟩ k
   exact ⟨S, o, es, ep, t, k o e, rest⟩
theorem A3 : oh X (.builtin "len") (fun xs H Q => ∃ (p : Addr) (n : Nat), xs = [.ref p] /\ H p = some (.ext (LN X.prog X.w p n)) /\ n <= 1000 /\ Q (.int n) H) := by
 intro pins s σ H xs us Q I r h
 obtain ⟨p, n, rfl, hp, hn, q⟩ := h
 obtain ⟨u, rfl, ru⟩ := vals1 r
 cases ru
 obtain ⟨⟨S, o, es, ep, t, e, ex, ed, _, _, _, hf, en⟩, _, _⟩ := I.fN p _ hp
 exact call_len_set e ex ed hf (by rw [en]; omega) ⟨.int n, H, I.tok _, ⟨s.toks + 1, by rw [en]⟩, q⟩
end
section
variable {X : Cx} {CL : Str -> Addr} {b : Bx} {δ δ1 : List (Option T)} {e : Expr} {pos pp pq pr : Pos}
theorem Jr {K : PySem.W.Frag} {Z : Hp} {l : List Str} {us : List V} (h : aE K CL Z (l.map D.str) us) : us = l.map V.str := by
 refine aE.ind (P := fun ds us => ∀ l : List Str, ds = l.map D.str -> us = l.map V.str) ?_ ?_ h l rfl
 . intro l e
   cases l with
   | nil => rfl
   | cons _ _ => cases e
 . intro d ds v vs r _ ih l e
   cases l with
   | nil => cases e
   | cons x l =>
     obtain ⟨e1, e2⟩ := List.cons.inj e
     subst e1
     cases r
     rw [ih l e2]
     rfl
theorem EY {ns : List Str} (g : Gx X) (hm : X.mg "len" = none) (hmr : X.mg "set" = none) (h : cG X CL b e δ (.lst (ns.map D.str)) δ1) (nd : ns.Nodup) (hn : ns.length <= 1000) (hg : Gl X "len") (hgr : Gl X "set") (hs : starEach [e] X.env = (false, eval e X.env) :: starEach [] X.env := by exact bR rfl) :
   bS X CL b (.Call (.Name "len" pp) [.Call (.Name "set" pq) [e] [] pr] [] pos) δ (.sh (.int ns.length)) δ1 := fun H Z σ ts vs Q S k =>
 cC (oj A3 hg hm PySem.boot_len (cy (lR (Jq g.calm) hgr hmr Jp (cy dB gH hs) (he := hs)) gH (bR rfl)) (he := bR rfl)) (h H Z σ ts vs _ S fun v H1 Z1 z1 k1 S1 r => by
   cases r with
   | lst hq rr =>
   have eu := Jr rr
   refine ⟨_, ns, rfl, by rw [← eu]; exact hq, nd, hn, fun r hr => ⟨r, ns.length, rfl, aQ, hn, ?_⟩⟩
   have same : aD H1 (upd H1 r (.ext (LN X.prog X.w r ns.length))) := aD.upd hr
   obtain ⟨Z', z', S2⟩ := S1.back (t := .sh (.int ns.length)) (v := .int ns.length) (fp := []) (W := Z1) (W' := Z1) same (.refl _) (.refl _) (S1.zh.trans same) (fun a o q z => by rw [q] at z; cases z) (fun a o q im => by
     by_cases ha : a = r
     . subst ha; rw [aQ] at q; cases q; cases im
     . rw [aB ha] at q; exact S1.tp a o q im) (.sh (.int _)) afO (fun a ha => by cases ha) (.inl rfl)
   exact k _ _ _ (z1.trans z') (k1.trans same) S2)
end
section
variable {X : Cx} {CL : Str -> Addr} {b : Bx} {δ δ1 δ2 : List (Option T)} {e1 e2 : Expr} {pos : Pos} {aU : List (Key × D)}
theorem UO (k : Key) (hu : X.A.units + 64 < cLine) (h1 : cG X CL b e1 δ (UH k) δ1) (h2 : cG X CL b e2 δ1 (.pM aU) δ2) (hm : behindInMarks .In e2 = false) :
   bS X CL b (.Compare e1 [.In] [e2] pos) δ (.sh (.bl (A1 aU k).isSome)) δ2 := fun H Z σ ts vs Q S kk =>
 cC (Kh (T5 (by omega) dB dB) hm) (h1 H Z σ ts vs _ S fun v H1 Z1 z1 k1 S1 r1 => h2 H1 Z1 σ ts vs _ S1 fun v2 H2 Z2 z2 k2 S2 r2 => by
   cases r2 with
   | @pM a gs _ ha rr =>
     refine ⟨a, qC gs k, rfl, by rw [r1.key]; exact KP.k ha, ?_⟩
     rw [LD rr]
     exact kk _ H2 Z2 (z1.trans z2) (k1.trans k2) (S2.push (.bl _)))
end
section
variable {X : Cx} {CL : Str -> Addr} {b : Bx} {δ δ1 δ2 : List (Option T)} {e1 e2 : Expr} {pos : Pos}
theorem LQ : ql X (binaryOp .FloorDiv) (rI (fun _ j => 0 < j /\ j.natAbs.log2 < 9000) fun i j => .int (i / j)) := WK fun i j _ _ _ _ _ hc q => by
 have h1 : (0 : Int) < j := hc.1
 exact floordiv_int (by omega) (by rw [Int.fdiv_eq_ediv_of_nonneg i (by omega)]; exact q) (.inl (PyProof.noPylong_of_log2 hc.2))
theorem LR {i j : Int} (h1 : cG X CL b e1 δ (.int i) δ1) (h2 : cG X CL b e2 δ1 (.int j) δ2) (c : 0 < j /\ j.natAbs.log2 < 9000) : bS X CL b (.BinOp e1 .FloorDiv e2 pos) δ (.sh (.int (i / j))) δ2 := ow LQ h1 h2 rfl rfl rfl fun _ _ q => ⟨i, j, rfl, rfl, c, q⟩
end
theorem Ae {K : PySem.W.Frag} {CL : Str -> Addr} {H Z : Hp} : ∀ us : List V, aL K CL H Z (us.map fun u => T.sh (.val u)) us []
 | [] => .nil
 | u :: us => .cons (fp := []) (gp := []) (.sh (.val u)) (Ae us)
theorem Af {K : PySem.W.Frag} {CL : Str -> Addr} {H Z : Hp} : ∀ {ts : List T} {us : List V} {fp : List Addr} {ts2 : List T} {us2 : List V} {gp : List Addr}, aL K CL H Z ts us fp -> aL K CL H Z ts2 us2 gp -> aL K CL H Z (ts ++ ts2) (us ++ us2) (fp ++ gp)
 | [], _, _, _, _, _, .nil, r2 => r2
 | _ :: _, _, _, _, _, _, .cons r rr, r2 => by
   rw [aed]
   exact .cons r (Af rr r2)
section
variable {X : Cx} {CL : Str -> Addr} {b : Bx} {δ δ1 : List (Option T)} {i q : Nat} {x y : Str} {pos pp pos' : Pos}
variable {K : PySem.W.Frag} {H Z : Hp} {σ : L2.St} {ts tl : List T} {vs us : List V} {t u : T} {v w : V} {a : Addr}
theorem bJ.spread (S : bJ K CL b H Z δ σ (.lst tl :: ts) (v :: vs)) : ∃ a us, v = .ref a /\ us.length = tl.length /\ bJ K CL b H Z δ σ (.pin a (.lst (us.map fun u => T.sh (.val u))) :: (tl ++ ts)) (.ref a :: (us ++ vs)) := by
 obtain ⟨fp, gp, e, r, nd, k⟩ := S.rep
 cases r with
 | cons r1 r2 =>
   cases r1 with
   | @lst a us _ f4 ha rr =>
     refine ⟨a, us, rfl, rr.length.symm, ⟨fp, [a] ++ (f4 ++ _), e, .cons (.pin (.lst ha (Ae us))) (Af rr r2), ?_, ?_⟩, S.bh, S.zz, S.zh, S.new, S.tp, S.tab⟩
     . exact nd
     . exact k
theorem bJ.Py (S : bJ K CL b H Z δ σ (t :: u :: ts) (v :: w :: vs)) : bJ K CL b H Z δ σ (u :: t :: ts) (w :: v :: vs) := by
 obtain ⟨fp, gp, e, r, nd, k⟩ := S.rep
 cases r with
 | @cons _ _ _ _ f1 _ r1 r2 =>
   cases r2 with
   | @cons _ _ _ _ f2 f3 r2 r3 =>
     have pm : (fp ++ (f1 ++ (f2 ++ f3))).Perm (fp ++ (f2 ++ (f1 ++ f3))) := aeT fp (by rw [← aed, ← aed]; exact List.Perm.append_right f3 aeP)
     exact ⟨⟨fp, f2 ++ (f1 ++ f3), e, .cons r2 (.cons r1 r3), pm.nodup_iff.mp nd, fun c hc => k c (pm.mem_iff.mpr hc)⟩, S.bh, S.zz, S.zh, S.new, S.tp, S.tab⟩
theorem bJ.LV (S : bJ K CL b H Z δ σ (.pin a (.lst (us.map fun u => T.sh (.val u))) :: ts) (.ref a :: vs)) : H a = some (.lst us) := by
 obtain ⟨fp, gp, e, r, nd, k⟩ := S.rep
 cases r with
 | cons r1 r2 =>
   cases r1 with
   | pin r1 =>
     cases r1 with
     | @lst _ ws _ f4 ha rr =>
       have : ∀ {us ws : List V} {f : List Addr}, aL K CL H Z (us.map fun u => T.sh (.val u)) ws f -> ws = us := by
         intro us
         induction us with
         | nil => intro ws f h; cases h; rfl
         | cons u us ih =>
           intro ws f h
           cases h with
           | cons h1 h2 =>
             cases h1 with
             | sh h1 =>
               cases h1
               rw [ih h2]
       rw [ha, this rr]
theorem LW {e1 : Expr} {kj : Nat} {p2 : Pos} (h : cG X CL b e1 δ .non δ1) : pN X CL b (.Compare e1 [.IsNot] [.Constant .none kj p2] pos) δ false δ1 :=
 fun H Z σ ts vs Q S k => xN (Kl (Od dB)) (h H Z σ ts vs _ S fun v H1 Z1 z1 k1 S1 r => by
     cases r
     exact ⟨_, rfl, by simpa using k H1 Z1 z1 k1 S1⟩)
theorem UQ {D : cH} {body gi : List Stmt} (g : Gx X) (n : Ln X i x) (m : Vn X q y) (P : Nat -> List (Option T) -> Prop) (hδ : δ[q]? = some (some (.lst tl))) (h0 : P 0 (δ.set q none))
   (hl : ∀ j δ, P j δ -> i < δ.length)
   (hs : ∀ j t δ, tl[j]? = some t -> P j δ -> gk X CL b body (δ.set i (some t)) { nx := P (j + 1), rt := fun _ _ => False, bk := fun _ => False, ct := P (j + 1) })
   (hd : ∀ δ, P tl.length δ -> gk X CL b gi δ D) (hq : ∀ z, foldedSetIterable (.Name y pp) X.env z = pure z := by intro _; rfl) :
   gk X CL b (.For (.Name x pos') (.Name y pp) body [] pos :: gi) δ D := eK fun H Z σ ts vs E S M => by
 obtain ⟨v, hv, S0⟩ := S.move hδ
 obtain ⟨a, us, rfl, hlen, Sp⟩ := S0.spread
 refine xO (Ex (by rw [g.xe]; exact PassesOwn.never) g.calm (GO (mE m.hi m.hv m.hd m.n8)) (pI g.nd n.hi n.loc n.hf) OQ hq) ⟨_, hv, a, rfl, ⟨us, .inl (.inl Sp.LV)⟩, ?_⟩
 refine ⟨fun j w σ H2 => w = tl.length - j /\ j <= tl.length /\ ∃ Z2 δ2, aD Z Z2 /\ bJ X.K CL b H2 Z2 δ2 σ (.pin a (.lst (us.map fun u => T.sh (.val u))) :: (tl.drop j ++ ts)) (.ref a :: (us.drop j ++ vs)) /\ P j δ2, ⟨_, rfl, aey _, Z, _, .refl _, Sp, h0⟩, ?_⟩
 rintro j w σ2 H2 ⟨rfl, hj, Z2, δ2, s, S2, p2⟩
 have ha2 := S2.LV
 by_cases z9 : j < tl.length
 . refine .inr ⟨⟨us, us[j]'(by omega), .inl (.inl ha2), by simp [show j < us.length by omega]⟩, fun σ' H' => ∃ Z2 δ2, aD Z Z2 /\ bJ X.K CL b H' Z2 δ2 σ' (.pin a (.lst (us.map fun u => T.sh (.val u))) :: (tl.drop (j + 1) ++ ts)) (.ref a :: (us.drop (j + 1) ++ vs)) /\ P (j + 1) δ2, fun σ' H' h => ⟨tl.length - (j + 1), by omega, rfl, z9, h⟩, fun z H' hy => ?_⟩
   obtain ⟨e, hu⟩ := hy
   subst e
   have hu := hu us (.inl (.inl ha2))
   have hju : j < us.length := by omega
   rw [aeo hju] at hu
   cases hu
   rw [afs z9, afs hju, aeB, aeB] at S2
   have S3 := S2.Py.set (hl j δ2 p2)
   exact hs j _ δ2 (aeo z9) p2 _ Z2 _ _ _ _ S3 ⟨fun δ' σ' H' Z' s' S' k => ⟨Z', δ', s.trans s', S', k⟩, fun t v H' Z' δ' σ' s' S' k => k.elim, fun δ' σ' H' Z' s' S' k => k.elim, fun δ' σ' H' Z' s' S' k => ⟨Z', δ', s.trans s', S', k⟩⟩
 . have e : j = tl.length := by omega
   subst e
   refine .inl ⟨⟨us, .inl (.inl ha2), by omega⟩, ?_⟩
   have S3 := S2.pop
   rw [List.drop_of_length_le (ael _), List.drop_of_length_le (by omega)] at S3
   exact M.nx _ σ2 H2 Z2 s S3 (hd δ2 p2)
end
end L3
namespace Law
open PySem L2 L3
noncomputable def top (i : Nat) : Stmt := PySem.Challenge.pw_moodtree_k15_whole_charts_are_let.main.body.getD i (.Pass ⟨0, 0, 0, 0⟩)
noncomputable def xg : Nat -> List Int -> Int -> List Int
 | 0, _, _ => []
 | n + 1, es, k => if k = -1 then [] else k :: xg n es (es.getD k.toNat 0)
noncomputable def lP (es : List Int) (m : Int) : List Int := xg (es.length + 1) es (es.getD m.toNat 0)
noncomputable def qG (es : List Int) : Prop := ∀ k : Nat, k < es.length -> -1 <= es.getD k 0 /\ es.getD k 0 < k
theorem qG.at {es : List Int} (h : qG es) {k : Int} (h0 : 0 <= k) (h1 : k < es.length) : -1 <= es.getD k.toNat 0 /\ es.getD k.toNat 0 < k := by
 have := h k.toNat (by omega)
 omega
noncomputable def jj (ks : List Str) (es ss : List Int) : L3.D := .ins "Tree" [("kinds", .lst (ks.map .str)), ("elders", .lst (es.map .int)), ("starts", .lst (ss.map .int))]
theorem kL {ks : List Str} {es ss : List Int} : List.lookup ("kinds" : Str) [(("kinds" : Str), L3.D.lst (ks.map .str)), ("elders", .lst (es.map .int)), ("starts", .lst (ss.map .int))] = some (.lst (ks.map .str)) := j9
theorem cR {ks : List Str} {es ss : List Int} : List.lookup ("elders" : Str) [(("kinds" : Str), L3.D.lst (ks.map .str)), ("elders", .lst (es.map .int)), ("starts", .lst (ss.map .int))] = some (.lst (es.map .int)) := by
 rw [c7 (by decide +kernel), j9]
theorem oF {ks : List Str} {es ss : List Int} : List.lookup ("starts" : Str) [(("kinds" : Str), L3.D.lst (ks.map .str)), ("elders", .lst (es.map .int)), ("starts", .lst (ss.map .int))] = some (.lst (ss.map .int)) := by
 rw [c7 (by decide +kernel), c7 (by decide +kernel), j9]
theorem c9 (ds : List L3.D) : T.fh (.lst (ds.map T.sh)) = .lst ds := by rw [T.fh, j6]
theorem gY (l : List Int) : (T.lst ((l.map L3.D.int).map T.sh)).clean = true := by rw [lT]; exact vz _
theorem qH (l : List Str) : (T.lst ((l.map L3.D.str).map T.sh)).clean = true := by
 rw [lT]
 induction l with
 | nil => rfl
 | cons x l ih => exact ih
noncomputable def x8 (ks : List Str) (es ss : List Int) : List (Str × T) := [("kinds", .lst ((ks.map .str).map T.sh)), ("elders", .lst ((es.map .int).map T.sh)), ("starts", .lst ((ss.map .int).map T.sh))]
theorem Js (ks : List Str) (es ss : List Int) : T.fh (.ins "Tree" (x8 ks es ss)) = jj ks es ss := by
 unfold x8
 rw [T.fh, T.qm, T.qm, T.qm, T.qm, c9, c9, c9]
 rfl
theorem DG (ks : List Str) (es ss : List Int) : T.bV (x8 ks es ss) = true := by
 unfold x8
 rw [T.bV, T.bV, T.bV, T.bV, qH, gY, gY]
 rfl
theorem Hu {es : List Int} (h : qG es) : ∀ (n : Nat) {k x : Int}, -1 <= k -> k < es.length -> x ∈ xg n es k -> 0 <= x /\ x <= k
 | 0, k, x, _, _, hx => by rw [xg] at hx; cases hx
 | n + 1, k, x, h0, h1, hx => by
   rw [xg] at hx
   split at hx
   . cases hx
   . rename_i hk
     have ha := h.at (k := k) (by omega) h1
     rcases aek.mp hx with rfl | hx
     . omega
     . have := Hu h n (by omega) (by omega) hx
       omega
theorem x9 {es : List Int} (h : qG es) : ∀ (a b : Nat) {k : Int}, -1 <= k -> k < es.length -> k < a -> k < b -> xg a es k = xg b es k
 | 0, 0, _, _, _, _, _ => rfl
 | 0, b + 1, k, h0, _, ha, _ => by
   rw [xg, xg, aer (by omega)]
 | a + 1, 0, k, h0, _, _, hb => by
   rw [xg, xg, aer (by omega)]
 | a + 1, b + 1, k, h0, h1, ha, hb => by
   rw [xg, xg]
   split
   . rfl
   . have hk := h.at (k := k) (by omega) h1
     rw [x9 h a b hk.1 (by omega) (by omega) (by omega)]
theorem A4 {es : List Int} (h : qG es) {m : Int} (h0 : 0 <= m) (h1 : m < es.length) : lP es m = if es.getD m.toNat 0 = -1 then [] else es.getD m.toNat 0 :: lP es (es.getD m.toNat 0) := by
 have hm := h.at h0 h1
 unfold lP
 rw [xg]
 split
 . rfl
 . rename_i hk
   have hk2 := h.at (k := es.getD m.toNat 0) (by omega) (by omega)
   rw [x9 h es.length (es.length + 1) hk2.1 (by omega) (by omega) (by omega)]
theorem xh {es : List Int} (h : qG es) {m x : Int} (h0 : 0 <= m) (h1 : m < es.length) (hx : x ∈ lP es m) : 0 <= x /\ x < m /\ x < es.length := by
 have hm := h.at h0 h1
 have := Hu h _ hm.1 (by omega) hx
 omega
noncomputable def lV (es : List Int) : Prop := qG es /\ ∀ k : Nat, k + 1 < es.length -> es.getD (k + 1) 0 = k \/ es.getD (k + 1) 0 ∈ lP es k
theorem Hv {es : List Int} {x : Int} (h : qG es) : ∀ (n : Nat) {k : Int}, -1 <= k -> k < es.length -> xg n (es ++ [x]) k = xg n es k
 | 0, _, _, _ => rfl
 | n + 1, k, h0, h1 => by
   rw [xg, xg]
   split
   . rfl
   . have hk := h.at (k := k) (by omega) h1
     have e : (es ++ [x]).getD k.toNat 0 = es.getD k.toNat 0 := by
       rw [aeg, afK (by omega), ← aeg]
     rw [e, Hv h n hk.1 (by omega)]
theorem yb {es : List Int} {x : Int} {k : Nat} (h : k < es.length) : (es ++ [x]).getD k 0 = es.getD k 0 := by
 rw [aeg, afK h, ← aeg]
theorem A5 {es : List Int} {x : Int} (h : qG es) {m : Int} (h0 : 0 <= m) (h1 : m < es.length) : lP (es ++ [x]) m = lP es m := by
 have hm := h.at h0 h1
 unfold lP
 rw [yb (by omega), Hv h _ hm.1 (by omega), x9 h _ (es.length + 1) hm.1 (by omega) (by rw [aex]; omega) (by omega)]
theorem qG.snoc {es : List Int} (h : qG es) {x : Int} (h0 : -1 <= x) (h1 : x < es.length) : qG (es ++ [x]) := fun k hk => by
 rw [aex] at hk
 simp only [aeV, List.length_nil] at hk
 by_cases e : k < es.length
 . rw [yb e]
   exact h k e
 . have : k = es.length := by omega
   subst this
   rw [aeg, afd (ael _)]
   simp
   omega
theorem lV.snoc {es : List Int} (h : lV es) {x : Int} {k : Nat} (hk : k + 1 = es.length) (hx : x = k \/ x ∈ lP es k) : lV (es ++ [x]) := by
 have hx' : -1 <= x /\ x < es.length := by
   rcases hx with e | e
   . omega
   . have := xh h.1 (m := (k : Int)) (by omega) (by omega) e
     omega
 refine ⟨h.1.snoc hx'.1 hx'.2, fun j hj => ?_⟩
 rw [aex] at hj
 simp only [aeV, List.length_nil] at hj
 rw [A5 h.1 (by omega) (by omega)]
 by_cases e : j + 1 < es.length
 . rw [yb e]
   exact h.2 j e
 . have : j = k := by omega
   subst this
   have e2 : (es ++ [x]).getD (j + 1) 0 = x := by
     rw [aeg, afd (by omega), hk, Nat.sub_self]
     rfl
   rw [e2]
   exact hx
theorem Hw : ∀ (n : Nat) (es : List Int) (k : Int), (xg n es k).length <= n
 | 0, _, _ => ael _
 | n + 1, es, k => by
   rw [xg]
   split
   . exact aey _
   . exact Nat.succ_le_succ (Hw n es _)
noncomputable def gK (bs nm : List L3.D) (tr : L3.D) (is os ws : List L3.D) : L3.D := .ins "Chart" [("boxes", .lst bs), ("names", .lst nm), ("tree", tr), ("ins", .lst is), ("outs", .lst os), ("ways", .lst ws)]
section
variable {bs nm is os ws : List L3.D} {tr : L3.D}
theorem ly : List.lookup ("boxes" : Str) [(("boxes" : Str), L3.D.lst bs), ("names", .lst nm), ("tree", tr), ("ins", .lst is), ("outs", .lst os), ("ways", .lst ws)] = some (.lst bs) := j9
theorem fV : List.lookup ("names" : Str) [(("boxes" : Str), L3.D.lst bs), ("names", .lst nm), ("tree", tr), ("ins", .lst is), ("outs", .lst os), ("ways", .lst ws)] = some (.lst nm) := by
 rw [c7 (by decide +kernel), j9]
theorem yc : List.lookup ("tree" : Str) [(("boxes" : Str), L3.D.lst bs), ("names", .lst nm), ("tree", tr), ("ins", .lst is), ("outs", .lst os), ("ways", .lst ws)] = some tr := by
 rw [c7 (by decide +kernel), c7 (by decide +kernel), j9]
theorem uJ : List.lookup ("ins" : Str) [(("boxes" : Str), L3.D.lst bs), ("names", .lst nm), ("tree", tr), ("ins", .lst is), ("outs", .lst os), ("ways", .lst ws)] = some (.lst is) := by
 rw [c7 (by decide +kernel), c7 (by decide +kernel), c7 (by decide +kernel), j9]
theorem qI : List.lookup ("outs" : Str) [(("boxes" : Str), L3.D.lst bs), ("names", .lst nm), ("tree", tr), ("ins", .lst is), ("outs", .lst os), ("ways", .lst ws)] = some (.lst os) := by
 rw [c7 (by decide +kernel), c7 (by decide +kernel), c7 (by decide +kernel), c7 (by decide +kernel), j9]
theorem qJ : List.lookup ("ways" : Str) [(("boxes" : Str), L3.D.lst bs), ("names", .lst nm), ("tree", tr), ("ins", .lst is), ("outs", .lst os), ("ways", .lst ws)] = some (.lst ws) := by
 rw [c7 (by decide +kernel), c7 (by decide +kernel), c7 (by decide +kernel), c7 (by decide +kernel), c7 (by decide +kernel), j9]
end
noncomputable def yd (bs nm : List L3.D) : List (Str × T) := [("boxes", .lst (bs.map T.sh)), ("names", .lst (nm.map T.sh))]
noncomputable def ye (is os ws : List L3.D) : List (Str × T) := [("ins", .lst (is.map T.sh)), ("outs", .lst (os.map T.sh)), ("ways", .lst (ws.map T.sh))]
noncomputable def yf (bs nm : List L3.D) (t : T) (is os ws : List L3.D) : List (Str × T) := yd bs nm ++ (("tree" : Str), t) :: ye is os ws
theorem EZ (bs nm : List L3.D) (t : T) (is os ws : List L3.D) : T.fh (.ins "Chart" (yf bs nm t is os ws)) = gK bs nm t.fh is os ws := by
 unfold yf yd ye
 rw [aeB, aeB, List.nil_append, T.fh, T.qm, T.qm, T.qm, T.qm, T.qm, T.qm, T.qm, c9, c9, c9, c9, c9]
 rfl
theorem jm {ds : List L3.D} (h : D.bZ ds = true) : (T.lst (ds.map T.sh)).clean = true := by
 rw [lT]
 induction ds with
 | nil => rfl
 | cons d ds ih =>
   rw [D.bZ, aev] at h
   rw [aew, T.gJ, ih h.2, T.clean, h.1]; rfl
theorem A6 {bs nm : List L3.D} (h1 : D.bZ bs = true) (h2 : D.bZ nm = true) : T.bV (yd bs nm) = true := by
 unfold yd
 rw [T.bV, T.bV, T.bV, jm h1, jm h2]; rfl
theorem A7 {is os ws : List L3.D} (h1 : D.bZ is = true) (h2 : D.bZ os = true) (h3 : D.bZ ws = true) : T.bV (ye is os ws) = true := by
 unfold ye
 rw [T.bV, T.bV, T.bV, T.bV, jm h1, jm h2, jm h3]; rfl
noncomputable def bE (ns : List Int) (k : Int) : Int := if k < ns.length then ns.getD k.toNat 0 else 0
theorem jG (l : List Int) : lO 60 (.lst (l.map .int)) := .lst fun d hd => by
 obtain ⟨i, _, rfl⟩ := aeu.mp hd
 exact .int _ _
noncomputable def qo (es : List Int) (m : Int) : List Int := ((List.range es.length).filter (fun (i : Nat) => decide (es.getD i 0 = m))).map (fun (i : Nat) => (i : Int))
theorem Pz (es : List Int) (m : Int) : (qo es m).length <= es.length := by
 unfold qo
 rw [aea]
 exact aeZ (List.length_filter_le _ _) (by simp)
theorem Hx {es : List Int} {m x : Int} (h : x ∈ qo es m) : 0 <= x /\ x < es.length /\ es.getD x.toNat 0 = m := by
 unfold qo at h
 obtain ⟨i, hi, rfl⟩ := aeu.mp h
 obtain ⟨h1, h2⟩ := afy.mp hi
 have h1 := aeR.mp h1
 have h2 := aez h2
 exact ⟨by omega, by omega, by rw [ae1]; exact h2⟩
theorem PB {es : List Int} {m x : Int} (h0 : 0 <= x) (h1 : x < es.length) (h2 : es.getD x.toNat 0 = m) : x ∈ qo es m := by
 unfold qo
 refine List.mem_map.mpr ⟨x.toNat, List.mem_filter.mpr ⟨List.mem_range.mpr (by omega), by simpa using h2⟩, by omega⟩
noncomputable def se : List Str := ["all", "and", "box", "call", "do", "far", "if", "in", "leaf", "near", "on", "one", "open", "out", "put", "say", "shut", "then", "to"]
noncomputable def isLt (c : Nat) : Bool := decide (97 <= c) && decide (c <= 122)
noncomputable def oG (c : Nat) : Bool := decide (48 <= c) && decide (c <= 57)
theorem yg (c : Nat) : Ad ⟨#[c]⟩ "abcdefghijklmnopqrstuvwxyz" = isLt c := by
 unfold Ad
 rw [PySem.StrLaws.found_one]
 have e : ("abcdefghijklmnopqrstuvwxyz" : Str).cps.toList = (List.range 26).map (· + 97) := by decide +kernel
 rw [e]
 apply afz.mpr
 simp only [isLt, afF, aev, aeu, aeR]
 constructor
 . rintro ⟨a, h, rfl⟩
   omega
 . intro h
   exact ⟨c - 97, by omega, by omega⟩
theorem Hy (c : Nat) : Ad ⟨#[c]⟩ "abcdefghijklmnopqrstuvwxyz0123456789" = (isLt c || oG c) := by
 unfold Ad
 rw [PySem.StrLaws.found_one]
 have e : ("abcdefghijklmnopqrstuvwxyz0123456789" : Str).cps.toList = (List.range 26).map (· + 97) ++ (List.range 10).map (· + 48) := by decide +kernel
 rw [e]
 apply afz.mpr
 simp only [isLt, oG, afF, aev, Bool.or_eq_true, aen, aeu, aeR]
 constructor
 . rintro (⟨a, h, rfl⟩ | ⟨a, h, rfl⟩) <;> omega
 . intro h
   rcases h with h | h
   . exact .inl ⟨c - 97, by omega, by omega⟩
   . exact .inr ⟨c - 48, by omega, by omega⟩
noncomputable def fW (x : Str) : Bool := decide (1 <= x.length) && (decide (x.length <= 12) && (!decide (x ∈ se) && (isLt (x.cps.toList.getD 0 0) && x.cps.toList.all (fun c => isLt c || oG c))))
theorem PD {x : Str} (h : x.length = 0) : x = "" := by
 obtain ⟨⟨l⟩⟩ := x
 have : l.length = 0 := h
 have e : l = [] := List.eq_nil_of_length_eq_zero this
 subst e
 rfl
theorem E1 {x : Str} {j : Nat} {d : L3.D} (h : (jF x)[j]? = some d) : ∃ c, d = .str ⟨#[c]⟩ /\ x.cps.toList[j]? = some c := by
 unfold jF at h
 rw [aeS] at h
 obtain ⟨c, hc, rfl⟩ := afE.mp h
 exact ⟨c, rfl, hc⟩
noncomputable def xj (i : Int) (n : Nat) : Bool := decide (0 <= i) && decide (i < (n : Int))
noncomputable def R7 (i : Int) : Bool := decide (-(10 ^ (30 : Int).toNat) < i) && decide (i < 10 ^ (30 : Int).toNat)
noncomputable def CQ (n : Nat) (a c : Int) : Bool := (decide (a = -1) || xj a n) && R7 c
inductive N7
 | Jt (x : Str) (m : Int)
 | num (mk : Str) (a1 c1 a2 c2 : Int)
noncomputable def DH : N7 -> L3.D
 | .Jt x m => .tup [.str x, .int m]
 | .num mk a1 c1 a2 c2 => .tup [.str mk, .tup [.int a1, .int c1], .tup [.int a2, .int c2]]
noncomputable def Xy (n m : Nat) : N7 -> Bool
 | .Jt _ k => xj k n
 | .num mk a1 c1 a2 c2 => decide (mk ∈ (["<", "<=", "=", "!="] : List Str)) && (CQ m a1 c1 && CQ m a2 c2)
noncomputable def LX : N7 -> Prop
 | .Jt x _ => x ∈ (["open", "shut"] : List Str)
 | .num mk _ _ _ _ => ¬ mk ∈ (["open", "shut"] : List Str)
theorem LY : ∀ al : List N7, D.nM (.tup (al.map DH)) = true := fun al => bY (fun q => by cases q <;> rfl) al
noncomputable def aaV : L3.D -> L3.D
 | .tup [_, _, _, d, _, _] => d
 | d => d
inductive vH
 | put (i a c : Int)
 | say (x : Str) (a c : Int)
 | call (x : Str)
noncomputable def lQ : vH -> L3.D
 | .put i a c => .tup [.str "put", .int i, .tup [.int a, .int c]]
 | .say x a c => .tup [.str "say", .str x, .tup [.int a, .int c]]
 | .call x => .tup [.str "call", .str x]
noncomputable def R8 : vH -> Prop
 | .put _ _ _ => True
 | .say x _ _ => x.length <= 1000
 | .call x => x.length <= 1000
structure Hz where
 src : Int
 sign : Str
 al : List N7
 dl : List vH
 tgt : Int
 mode : Str
noncomputable def uw (w : Hz) : L3.D := .tup [.int w.src, .str w.sign, .tup (w.al.map DH), .tup (w.dl.map lQ), .int w.tgt, .str w.mode]
noncomputable def zQ (l : List Int) (s : Int) : List Int := if s ∈ l then l else l ++ [s]
noncomputable def Ka (l : List Int) : List (Key × L3.D) := l.map fun s => ((Sum.inl s : Key), L3.D.bl true)
theorem HB (l : List Int) (s : Int) : ((Ka l).any fun kv => decide (kv.1 = Sum.inl s)) = decide (s ∈ l) := by
 unfold Ka
 induction l with
 | nil => rfl
 | cons y l ih =>
   rw [aew, ae7, ih]
   by_cases h : y = s
   . subst h; simp
   . have h' : ¬ s = y := fun e => h e.symm
     have h2 : ¬ (Sum.inl y : Key) = Sum.inl s := fun e => h (Sum.inl.inj e)
     simp [h', h2]
theorem PF (l : List Int) (s : Int) : xZ (Ka l) (.inl s) (.bl true) = Ka (zQ l s) := by
 unfold xZ
 rw [HB]
 unfold zQ
 by_cases h : s ∈ l
 . rw [aer (aej h), aer h]
   unfold Ka
   rw [aeN]
   refine afw fun y _ => ?_
   show (if (Sum.inl y : Key) = Sum.inl s then ((Sum.inl y : Key), L3.D.bl true) else ((Sum.inl y : Key), L3.D.bl true)) = _
   split <;> rfl
 . rw [if_neg (by simpa using h), if_neg h]
   unfold Ka
   rw [afC]; rfl
noncomputable def adds (l : List Int) : List Int := l.foldl zQ []
theorem Ju (l : List Int) (x : Int) : adds (l ++ [x]) = zQ (adds l) x := by unfold adds; rw [List.foldl_append]; rfl
theorem uK : ∀ (l acc : List Int), (l.foldl zQ acc).length <= acc.length + l.length /\ ∀ x, x ∈ l.foldl zQ acc ↔ x ∈ acc \/ x ∈ l
 | [], acc => ⟨ael _, fun x => by simp⟩
 | y :: l, acc => by
   obtain ⟨h1, h2⟩ := uK l (zQ acc y)
   rw [List.foldl_cons]
   refine ⟨?_, fun x => (h2 x).trans ?_⟩
   . have : (zQ acc y).length <= acc.length + 1 := by unfold zQ; split <;> simp
     rw [aeV]; omega
   . unfold zQ
     by_cases hy : y ∈ acc
     . rw [aer hy, aek]
       constructor
       . rintro (z | z)
         . exact .inl z
         . exact .inr (.inr z)
       . rintro (z | rfl | z)
         . exact .inl z
         . exact .inl hy
         . exact .inr z
     . rw [aeq hy, aen, List.mem_singleton, aek, or_assoc]
theorem PJ (l : List Int) (s : Int) : (A1 (Ka l) (.inl s)).isSome = decide (s ∈ l) := by
 rw [← HB]
 unfold A1
 rw [Option.isSome_map]
 generalize Ka l = k
 induction k with
 | nil => rfl
 | cons y k ih =>
   rw [afo, ae7]
   cases h : decide (y.1 = Sum.inl s) with
   | true => rfl
   | false => rw [Bool.false_or]; exact ih
structure Jv (ks : List Str) (es ss : List Int) : Prop where
 pre : lV es
 n1 : 1 <= es.length
 n2 : es.length <= 900
 deep : ∀ m : Int, 0 <= m -> m < es.length -> (lP es m).length <= 12
 kl : ks.length = es.length
 sl : ss.length = es.length
 kinds : ∀ m : Nat, m < es.length -> ks.getD m Str.empty ∈ (["leaf", "one", "all"] : List Str) /\ decide (ks.getD m Str.empty = "leaf") = !decide ((m : Int) ∈ es)
 starts : ∀ m : Nat, m < es.length -> (ks.getD m Str.empty ≠ "one" /\ ss.getD m 0 = -1) \/ (ks.getD m Str.empty = "one" /\ xj (ss.getD m 0) es.length = true /\ es.getD (ss.getD m 0).toNat 0 = m)
noncomputable def LZ (n : Nat) : vH -> Bool
 | .put i a c => xj i n && CQ n a c
 | .say x a c => fW x && CQ n a c
 | .call x => fW x
noncomputable def Hz.Ok (n m : Nat) (w : Hz) : Prop := xj w.src n = true /\ (w.sign.length <= 1000 /\ fW w.sign = true) /\ w.mode ∈ (["new", "near", "far"] : List Str) /\ ((w.tgt = -1 /\ w.mode = "new") \/ (w.tgt ≠ -1 /\ xj w.tgt n = true)) /\ ∀ q ∈ w.al, LX q /\ Xy n m q = true
noncomputable def Ag (q : Str × Int) : L3.D := .tup [.str q.1, .int q.2]
noncomputable abbrev pQ : Stmt := top 45
noncomputable abbrev uL : Type := List Int × Int
noncomputable def eO : uL -> List L3.D := fun (ns, j) => [.lst (ns.map .int), .int j]
noncomputable def eS : uL -> Prop := fun (ns, j) => 0 <= j
noncomputable def eU : uL -> T := fun (ns, j) => (.sh (.int (bE ns j)) : T)
structure Jw (X : Cx) (CL : Str -> Addr) : Prop extends cj X where
 aY : Ln X 0 "script"
 mP : Ln X 1 "k"
 cW : Gl X "len"
 cS : X.mg "len" = none
theorem Jx {X : Cx} {CL : Str -> Addr} {b : Bx} (E : Jw X CL) (ns j) (h : eS (ns, j)) :
   aA X CL b pQ ["script", "k"] (eO (ns, j)) (eU (ns, j)) := by
 dsimp only [aA, eS, eO, eU] at h ⊢
 refine dW (G7 (aG E.mP) (ai (G9 E.cS (aG E.aY) E.cW))).1 (fun hp => ?_) (fun hp => ?_)
 . have e : j < ns.length := by simpa using of_decide_eq_true hp
   refine bM (dg (bG (aG E.aY) (aG E.mP) (jk h e)) rfl) ?_
   show T.sh _ = T.sh (.int (bE ns j))
   rw [bE, aer e]
 . have e : ¬ j < ns.length := by simpa using of_decide_eq_false hp
   refine az (bM ak ?_)
   show T.sh _ = T.sh (.int (bE ns j))
   rw [bE, aeq e]
theorem qK : mD (aq pQ) ([("script", ay), ("k", ay), ("len", av)]) = true := by decide +kernel
theorem yh : aK ["script", "k"] ["script", "k"] (aq pQ) := aT
noncomputable abbrev mQ : Stmt := top 46
noncomputable abbrev qL : Type := List Int × Int
noncomputable def kg : qL -> List L3.D := fun (es, m) => [.lst (es.map .int), .int m]
noncomputable def gq : qL -> Prop := fun (es, m) => qG es /\ 0 <= m /\ m < es.length /\ es.length <= 1000
noncomputable def kh : qL -> T := fun (es, m) => (.lst (((lP es m).map .int).map T.sh) : T)
structure E2 (X : Cx) (CL : Str -> Addr) : Prop extends cj X where
 bQ : Ln X 0 "elders"
 vW : Ln X 1 "at"
 jy : Ln X 2 "found"
theorem E3 {X : Cx} {CL : Str -> Addr} {b : Bx} (E : E2 X CL) (es m) (h : gq (es, m)) :
   aA X CL b mQ ["elders", "at", "found"] (kg (es, m)) (kh (es, m)) := by
 dsimp only [aA, gq, kg, kh] at h ⊢
 obtain ⟨ht, h0, h1, hlen⟩ := h
 refine aV E.g E.jy (dh eG (aey _)) ?_
 refine Hi E.g (fun n δ => ∃ (k : Int) (l : List Int), δ = [some (.sh (.lst (es.map .int))), some (.sh (.int k)), some (.lst ((l.map .int).map T.sh))] /\ 0 <= k /\ k < n /\ k < es.length /\ l ++ lP es k = lP es m /\ l.length + n <= es.length + 1) (es.length + 1)
   ⟨m, [], rfl, h0, by omega, h1, rfl, by simp⟩ ?_
 rintro n δ ⟨k, l, rfl, k0, k1, k2, k3, k4⟩
 have ha := ht.at k0 k2
 have he := A4 ht k0 k2
 refine ⟨_, _, (lF (bG (aG E.bQ) (aG E.vW) (jk k0 k2)) (ai (kJ (ai ak)))).1, fun hp => ?_, fun hp => ?_⟩
 . have hk : ¬ es.getD k.toNat 0 = -1 := by simpa using hp
   rw [aeq hk] at he
   cases n with
   | zero => omega
   | succ n =>
     refine aV E.g E.vW (dg (bG (aG E.bQ) (aG E.vW) (jk k0 k2)) rfl) ?_
     refine nP E.jy.1 rfl (v_ E.vW.1) rfl (by simp; omega) ?_
     refine az ⟨n, afI _, es.getD k.toNat 0, l ++ [es.getD k.toNat 0], ?_, by omega, by omega, by omega, ?_, by simp; omega⟩
     . show [_, _, some (T.lst (((l.map D.int).map T.sh) ++ [T.sh (.int (es.getD k.toNat 0))]))] = _
       simp
     . rw [← k3, he, aed]
       rfl
 . have hk : es.getD k.toNat 0 = -1 := by simpa using hp
   rw [aer hk] at he
   have e : l = lP es m := by rw [← k3, he, aeY]
   subst e
   exact bM (vM E.jy.1) rfl
theorem oH : mD (aq mQ) ([("elders", ay), ("at", ay), ("found", ay)]) = true := by decide +kernel
theorem vI : aK ["elders", "at", "found"] ["elders", "at"] (aq mQ) := aT
noncomputable def Jy (es : List Int) (j : Nat) : List Int := ((j : Int) :: lP es j).filter fun a => decide (((lP es a).length : Int) < 12)
noncomputable def Kc (s es : List Int) (j : Nat) : Int := (Jy es j).getD (bE s (1 + (j : Int)) % ((Jy es j).length : Int)).toNat 0
noncomputable def rO (s : List Int) : Nat -> List Int
 | 0 => [-1]
 | j + 1 => rO s j ++ [Kc s (rO s j) j]
theorem HC {es : List Int} (h : lV es) : ∀ (n : Nat) {m : Int}, 0 <= m -> m < es.length -> m < n -> m = 0 \/ 0 ∈ lP es m
 | 0, m, h0, _, hn => by omega
 | n + 1, m, h0, h1, hn => by
   by_cases hm : m = 0
   . exact .inl hm
   have hp := h.2 (m.toNat - 1) (by omega)
   rw [show m.toNat - 1 + 1 = m.toNat by omega] at hp
   have ha := h.1.at h0 h1
   have hk0 : 0 <= es.getD m.toNat 0 := by
     rcases hp with z | z
     . omega
     . have := xh h.1 (m := ((m.toNat - 1 : Nat) : Int)) (by omega) (by omega) z
       omega
   refine .inr ?_
   rw [A4 h.1 h0 h1, aeq (by omega)]
   rcases HC h n (m := es.getD m.toNat 0) hk0 (by omega) (by omega) with z | z
   . exact aek.mpr (.inl z.symm)
   . exact aeh _ z
theorem L0 {es : List Int} {j : Nat} (h : lV es) (hj : j < es.length) : 0 ∈ Jy es j := by
 have e0 := h.1.at (k := 0) (by omega) (by omega)
 have c0 : lP es 0 = [] := by rw [A4 h.1 (by omega) (by omega), aer (by omega)]
 refine afy.mpr ⟨?_, by rw [c0]; rfl⟩
 rcases HC h (j + 1) (m := (j : Int)) (by omega) (by omega) (by omega) with z | z
 . exact aek.mpr (.inl z.symm)
 . exact aeh _ z
theorem HD {es : List Int} {j : Nat} (h : lV es) (hj : j < es.length) : 0 < (Jy es j).length := List.length_pos_of_mem (L0 h hj)
theorem PK {s es : List Int} {j : Nat} (h : lV es) (hj : j < es.length) : Kc s es j ∈ Jy es j := by
 have h0 := HD h hj
 have a := aeU (bE s (1 + (j : Int))) (b := ((Jy es j).length : Int)) (by omega)
 have b := aeJ (bE s (1 + (j : Int))) (b := ((Jy es j).length : Int)) (by omega)
 unfold Kc
 rw [aeg, aeo (by omega)]
 exact afe _
theorem UR {s es : List Int} {j : Nat} (h : lV es) (hj : j < es.length) : (Kc s es j = j \/ Kc s es j ∈ lP es j) /\ (lP es (Kc s es j)).length < 12 := by
 have hm := afy.mp (PK (s := s) h hj)
 have h2 := aez hm.2
 exact ⟨aek.mp hm.1, by omega⟩
theorem PL : lV [-1] := ⟨fun k hk => by
   have : k = 0 := by simpa using hk
   subst this
   exact ⟨Int.le_refl _, show (-1 : Int) < ((0 : Nat) : Int) by decide⟩, fun k hk => by simp at hk⟩
theorem A8 (s : List Int) : ∀ j, (rO s j).length = j + 1 /\ lV (rO s j) /\ ∀ m : Int, 0 <= m -> m < (rO s j).length -> (lP (rO s j) m).length <= 12
 | 0 => ⟨rfl, PL, fun m h0 h1 => by
     have h1 : m < 1 := h1
     have : m = 0 := by omega
     subst this
     exact aey _⟩
 | j + 1 => by
   obtain ⟨h1, h2, h3⟩ := A8 s j
   obtain ⟨p1, p2⟩ := UR (s := s) h2 (show j < (rO s j).length by omega)
   have est : rO s (j + 1) = rO s j ++ [Kc s (rO s j) j] := rfl
   rw [est]
   generalize rO s j = es at h1 h2 h3 p1 p2 ⊢
   generalize Kc s es j = x at p1 p2 ⊢
   have hx : 0 <= x /\ x < es.length := by
     rcases p1 with z | z
     . omega
     . have := xh h2.1 (m := (j : Int)) (by omega) (by omega) z
       omega
   have hs := h2.snoc h1.symm p1
   have hl : (es ++ [x]).length = es.length + 1 := by rw [aex]; rfl
   refine ⟨by omega, hs, fun m m0 m1 => ?_⟩
   by_cases hm : m < es.length
   . rw [A5 h2.1 m0 hm]
     exact h3 m m0 hm
   . have e : m.toNat = es.length := by omega
     have eg : (es ++ [x]).getD m.toNat 0 = x := by rw [e, aeg, afd (ael _), Nat.sub_self]; rfl
     rw [A4 hs.1 m0 m1, eg, aeq (by omega), A5 h2.1 hx.1 hx.2, aeV]
     omega
noncomputable abbrev sf : Stmt := top 47
noncomputable abbrev yi : Type := List Int × Nat
noncomputable def mR : yi -> List L3.D := fun (s, n) => [.lst (s.map .int), .int n]
noncomputable def kM : yi -> Prop := fun (s, n) => 1 <= n /\ n <= 900
noncomputable def mS : yi -> T := fun (s, n) => (.lst (((rO s (n - 1)).map .int).map T.sh) : T)
structure L1 (X : Cx) (CL : Str -> Addr) : Prop extends cj X where
 aY : Ln X 0 "script"
 bz : Ln X 1 "many"
 bQ : Ln X 2 "elders"
 oJ : X.env.kindOf "elders" = some .cell
 mP : Ln X 3 "k"
 sj : Ln X 4 "chain"
 cA : Gl X "range"
 A9 : Gl X "_law_above"
 aZ : Gl X "_law_cell_at"
 cW : Gl X "len"
 cB : X.mg "range" = none
 yj : Fc X CL "_law_above" 1 2 kg gq kh
 b4 : Fc X CL "_law_cell_at" 1 2 eO eS eU
 cS : X.mg "len" = none
theorem L4 {X : Cx} {CL : Str -> Addr} {b : Bx} (E : L1 X CL) (s n) (h : kM (s, n)) :
   aA X CL b sf ["script", "many", "elders", "k", "chain"] (mR (s, n)) (mS (s, n)) := by
 dsimp only [aA, kM, mR, mS] at h ⊢
 obtain ⟨n1, n2⟩ := h
 refine aV E.g E.bQ (Pj (aR (kJ (ai ak)) jl) (aW rfl)) ?_
 refine jD E.g E.mP (fun j δ => ∃ o3 o4, δ = [some (.sh (.lst (s.map .int))), some (.sh (.int n)), some (.lst (((rO s j).map .int).map T.sh)), o3, o4])
   (z8 E.cB (ai ak) (aG E.bz) (by omega) E.cA) ⟨_, _, rfl⟩ (fun j δ ⟨_, _, e⟩ => by subst e; exact aec rfl) ?turn ?fin
 case turn =>
   rintro j d δ hj ⟨o3, o4, rfl⟩
   obtain ⟨rfl, xm⟩ := iH hj
   obtain ⟨hl, hp, _⟩ := A8 s j
   have est : rO s (j + 1) = rO s j ++ [Kc s (rO s j) j] := rfl
   show gk X CL b _ _ { nx := fun δ => ∃ o3 o4, δ = [_, _, some (.lst (((rO s (j + 1)).map .int).map T.sh)), o3, o4], rt := _, bk := _, ct := _ }
   rw [est]
   generalize rO s j = es at hl hp ⊢
   have ht := hp.1
   have Xz : j + 1 < n := by simp at xm; omega
   have hcl : (lP es (j : Int)).length <= es.length + 1 := Hw _ _ _
   have ej : (1 + (j : Int)) - 1 = (j : Int) := by omega
   have aaX := HD hp (show j < es.length by omega)
   have hck : (Jy es j).length <= es.length + 2 := aeZ (List.length_filter_le _ _) (by rw [aeV]; omega)
   refine aV E.g E.sj (aC (w6 (ds := [.int (j : Int)]) (Jd := (lP es (j : Int)).map .int) (fz (ds := [.int (j : Int)]) (aC (dh (c5 (gX (aG E.mP) (ai ak)) eG) (aW rfl)) (by rw [ej]; rfl)))
     (fz (aC (c_ (es, (j : Int)) E.yj E.A9 (aj (vL E.bQ.1) (aj (Lr (ai (gX (aG E.mP) (ai ak))) (congrArg L3.D.int ej)) aF)) (by dsimp only [gq]; exact ⟨ht, by omega, by omega, by omega⟩) (gY _)) rfl)) rfl (jE _) (Nat.le_of_lt (cz (by simp; omega)))) (t2 := .lst ((((j : Int) :: lP es (j : Int)).map .int).map T.sh)) rfl) ?_
   refine A2 (p := fun d => decide (((lP es d.Ep).length : Int) < 12)) (gg := fun d => T.sh d) E.g E.sj (fU (.cons E.bQ.1 (.inl E.oJ) .nil) (by decide +kernel)) (mJ (vFL E.sj.1 rfl)) (.inl ⟨rfl, fun d hd => by obtain ⟨i, _, rfl⟩ := aeu.mp hd; rfl⟩) (fun C s0 H0 f0 b' d hd => ?Jz) (ae2 (cz (by simp; omega))) ?rest (by exact aec rfl) (rX ⟨_, rfl⟩)
   case Jz =>
     obtain ⟨i, hi, rfl⟩ := aeu.mp hd
     have hib : 0 <= i /\ i < es.length := by
       rcases aek.mp hi with z | z
       . omega
       . have := xh ht (m := (j : Int)) (by omega) (by omega) z
         omega
     exact ⟨(G7 (ai (c6 (n := (lP es i).length) (List.length_map ..) (by exact E.cS) (fz (aC (c_ (es, i) (rY E.yj) (j8 (by decide +kernel)) (aj (Lr (ai (v_ (kK (i := 1) rfl (by decide +kernel)))) (c9 _)) (aj (ai (v_ (jJ (i := 0) rfl (by decide +kernel)))) aF)) (by dsimp only [gq]; exact ⟨ht, by omega, by omega, by omega⟩) (gY _)) (t2 := .lst (((lP es i).map .int).map T.sh)) rfl)) (j8 (by decide +kernel)))) (ai ak)).1, fun _ => v_ (jJ (i := 0) rfl (by decide +kernel))⟩
   case rest =>
   have em : ((((j : Int) :: lP es (j : Int)).map L3.D.int).filter (fun d => decide (((lP es d.Ep).length : Int) < 12))).map (fun d => T.sh d) = ((Jy es j).map L3.D.int).map T.sh := by
     rw [List.filter_map]
     rfl
   rw [em]
   have c1 := aeU (bE s (1 + (j : Int))) (b := ((Jy es j).length : Int)) (by omega)
   have c2 := aeJ (bE s (1 + (j : Int))) (b := ((Jy es j).length : Int)) (by omega)
   have Ze : ((Jy es j).map L3.D.int).length = (Jy es j).length := aea ..
   have e1 : ((es.map L3.D.int).map T.sh) ++ [T.sh (.int (Kc s es j))] = ((es ++ [Kc s es j]).map L3.D.int).map T.sh := by simp
   refine nP E.bQ.1 rfl (aC (dg (bG (vL E.sj.1) (ai (bF (ai (c_ ((s, 1 + (j : Int))) E.b4 E.aZ (aj (aG E.aY) (aj (aG E.mP) aF)) (show (0 : Int) <= 1 + (j : Int) by omega) rfl)) (ai (c6 (Ze) E.cS (vL E.sj.1) E.cW)) (by omega))) (jk c1 c2)) rfl) (t2 := .sh (.int (Kc s es j))) rfl) rfl (by simp; omega) (az ?_)
   rw [e1]
   exact ⟨_, _, rfl⟩
 case fin =>
   rintro δ ⟨o3, o4, rfl⟩
   refine bM (vM E.bQ.1) ?_
   have e : (bP 1 ((n : Int) - 1).toNat).length = n - 1 := by simp [bP]
   rw [e]
theorem fk : mD (aq sf) ([("script", ay), ("many", ay), ("elders", .cell), ("k", ay), ("chain", ay), ("range", av), ("_law_above", av), ("_law_cell_at", av), ("len", av)]) = true := by decide +kernel
theorem Ah : aK ["script", "many", "elders", "k", "chain"] ["script", "many"] (aq sf) := aT
noncomputable def L5 (s es : List Int) (k : Nat) : Str := if qo es k = [] then "leaf" else if (bE s k / 13 + k) % 2 = 0 then "all" else "one"
noncomputable def L6 (s es : List Int) (k : Nat) : Int := if qo es k = [] then -1 else if (bE s k / 13 + k) % 2 = 0 then -1 else (qo es k).getD (bE s k / 26 % ((qo es k).length : Int)).toNat 0
noncomputable def nW (s es : List Int) (n : Nat) : List Str := (List.range n).map (L5 s es)
noncomputable def nX (s es : List Int) (n : Nat) : List Int := (List.range n).map (L6 s es)
theorem HF {es : List Int} {k : Nat} : qo es k = [] ↔ (k : Int) ∉ es := by
 constructor
 . intro h hk
   obtain ⟨i, hi, e⟩ := List.getElem_of_mem hk
   have : (i : Int) ∈ qo es k := PB (by omega) (by omega) (by rw [ae1, aeg, aeo hi]; exact e)
   rw [h] at this
   cases this
 . intro h
   refine List.eq_nil_iff_forall_not_mem.mpr fun x hx => h ?_
   have hb := Hx hx
   rw [← hb.2.2, aeg, aeo (by omega)]
   exact afe _
theorem HG (s es : List Int) {n k : Nat} (h : k < n) : (nW s es n).getD k Str.empty = L5 s es k := by
 unfold nW
 rw [aeg, aeS, afj h]
 rfl
theorem PN (s es : List Int) {n k : Nat} (h : k < n) : (nX s es n).getD k 0 = L6 s es k := by
 unfold nX
 rw [aeg, aeS, afj h]
 rfl
theorem DI (s es : List Int) (n : Nat) : (nW s es n).length = n := by unfold nW; rw [aea, aeW]
theorem DJ (s es : List Int) (n : Nat) : (nX s es n).length = n := by unfold nX; rw [aea, aeW]
theorem Jv.drawn {s es : List Int} (h : lV es) (h1 : 1 <= es.length) (h2 : es.length <= 900) (hd : ∀ m : Int, 0 <= m -> m < es.length -> (lP es m).length <= 12) : Jv (nW s es es.length) es (nX s es es.length) where
 pre := h
 n1 := h1
 n2 := h2
 deep := hd
 kl := DI _ _ _
 sl := DJ _ _ _
 kinds := fun m hm => by
   rw [HG s es hm]
   unfold L5
   by_cases e : qo es m = []
   . rw [aer e, aeA (HF.mp e)]
     exact ⟨by decide +kernel, by decide +kernel⟩
   . have e2 : (m : Int) ∈ es := by
       by_cases z : (m : Int) ∈ es
       . exact z
       . exact absurd (HF.mpr z) e
     rw [aeq e, aej e2]
     split
     . exact ⟨by decide +kernel, by decide +kernel⟩
     . exact ⟨by decide +kernel, by decide +kernel⟩
 starts := fun m hm => by
   rw [HG s es hm, PN s es hm]
   unfold L5 L6
   by_cases e : qo es m = []
   . rw [aer e, aer e]
     exact .inl ⟨by decide +kernel, rfl⟩
   . rw [aeq e, aeq e]
     split
     . exact .inl ⟨by decide +kernel, rfl⟩
     . have hp := List.length_pos_iff.mpr e
       have a := aeU (bE s m / 26) (b := ((qo es m).length : Int)) (by omega)
       have b := aeJ (bE s m / 26) (b := ((qo es m).length : Int)) (by omega)
       have hx : (qo es m).getD (bE s m / 26 % ((qo es m).length : Int)).toNat 0 ∈ qo es m := by
         rw [aeg, aeo (by omega)]
         exact afe _
       have hb := Hx hx
       refine .inr ⟨rfl, ?_, hb.2.2⟩
       unfold xj
       rw [aej hb.1, aej hb.2.1]
       rfl
noncomputable abbrev xo : Stmt := top 54
noncomputable abbrev Ba : Type := List Int × List Int
noncomputable def pR : Ba -> List L3.D := fun (s, es) => [.lst (s.map .int), .lst (es.map .int)]
noncomputable def pS : Ba -> Prop := fun (s, es) => es.length <= 900
noncomputable def pT : Ba -> T := fun (s, es) => (.tup [.lst (((nW s es es.length).map .str).map T.sh), .lst (((nX s es es.length).map .int).map T.sh)] : T)
structure PR (X : Cx) (CL : Str -> Addr) : Prop extends cj X where
 aY : Ln X 0 "script"
 bQ : Ln X 1 "elders"
 oJ : X.env.kindOf "elders" = some .cell
 ki : Ln X 2 "kinds"
 lW : Ln X 3 "starts"
 mP : Ln X 4 "k"
 k_k : X.env.kindOf "k" = some .cell
 yk : Ln X 5 "near"
 cA : Gl X "range"
 cW : Gl X "len"
 aZ : Gl X "_law_cell_at"
 cB : X.mg "range" = none
 cS : X.mg "len" = none
 b4 : Fc X CL "_law_cell_at" 1 2 eO eS eU
theorem PV {X : Cx} {CL : Str -> Addr} {b : Bx} (E : PR X CL) (s es) (h : pS (s, es)) :
   aA X CL b xo ["script", "elders", "kinds", "starts", "k", "near"] (pR (s, es)) (pT (s, es)) := by
 dsimp only [aA, pS, pR, pT] at h ⊢
 have hl : es.length <= 900 := h
 refine aV E.g E.ki (dh eG (aey _)) ?_
 refine aV E.g E.lW (dh eG (aey _)) ?_
 refine jD E.g E.mP (fun j δ => ∃ o4 o5, δ = [some (.sh (.lst (s.map .int))), some (.sh (.lst (es.map .int))), some (.lst (((nW s es j).map .str).map T.sh)), some (.lst (((nX s es j).map .int).map T.sh)), o4, o5])
   (fS E.cB (ai (c6 (aea ..) E.cS (aG E.bQ) E.cW)) (by omega) E.cA) ⟨_, _, rfl⟩ (fun j δ ⟨_, _, e⟩ => by subst e; exact aec rfl) ?turn ?fin
 case turn =>
   rintro j d δ hj ⟨o4, o5, rfl⟩
   obtain ⟨rfl, xm⟩ := iH hj
   rw [afb]
   have Xz : j < es.length := by simpa using xm
   refine A2 (p := fun d => decide (es.getD d.Ep.toNat 0 = (j : Int))) (gg := fun d => T.sh d) E.g E.yk (fU (.cons E.bQ.1 (.inl E.oJ) (.cons E.mP.1 (.inl E.k_k) .nil)) (by decide +kernel)) (fS E.cB (ai (c6 (aea ..) E.cS (aG E.bQ) E.cW)) (by omega) E.cA) (.inr rfl) (fun C s0 H0 f0 b' d hd => ?Jz) (ae2 (cz (by simp [bP]; omega))) ?rest (by exact aec rfl) (rX ⟨_, rfl⟩)
   case Jz =>
     obtain ⟨i, hi, rfl⟩ := aeu.mp hd
     have N5 : i < es.length := by simpa using hi
     exact ⟨(kH (bG (ai (v_ (kK (i := 1) rfl (by decide +kernel)))) (ai (v_ (jJ (i := 0) rfl (by decide +kernel)))) (jk (show (0 : Int) <= 0 + (i : Int) by omega) (show 0 + (i : Int) < es.length by omega))) (ai (v_ (kK (i := 2) rfl (by decide +kernel))))).1, fun _ => v_ (jJ (i := 0) rfl (by decide +kernel))⟩
   case rest =>
   have hin : ((bP 0 (es.length : Int).toNat).filter fun d => decide (es.getD d.Ep.toNat 0 = (j : Int))).map (fun d => T.sh d) = ((qo es (j : Int)).map L3.D.int).map T.sh := by
     unfold bP qo
     rw [List.filter_map, aeN, aeN, aeN, ae1]
     have e1 : ((fun d : L3.D => decide (es.getD d.Ep.toNat 0 = (j : Int))) ∘ fun (k : Nat) => L3.D.int (0 + (k : Int))) = fun (i : Nat) => decide (es.getD i 0 = (j : Int)) := by
       funext i
       show decide (es.getD (0 + (i : Int)).toNat 0 = (j : Int)) = _
       rw [afb, ae1]
     rw [e1]
     congr 1
     funext i
     show T.sh (.int (0 + (i : Int))) = T.sh (.int i)
     rw [afb]
   rw [hin]
   have hml := Pz es (j : Int)
   have kl := DI s es j
   have sl := DJ s es j
   have ek : nW s es (j + 1) = nW s es j ++ [L5 s es j] := by simp [nW, afp]
   have esn : nX s es (j + 1) = nX s es j ++ [L6 s es j] := by simp [nX, afp]
   show gk X CL b _ _ { nx := fun δ => ∃ o4 o5, δ = [_, _, some (.lst (((nW s es (j + 1)).map .str).map T.sh)), some (.lst (((nX s es (j + 1)).map .int).map T.sh)), o4, o5], rt := _, bk := _, ct := _ }
   rw [ek, esn]
   generalize nW s es j = ks at kl ⊢
   generalize nX s es j = ss at sl ⊢
   have aS : ∀ (l : List Str) (x : Str), (l.map L3.D.str).map T.sh ++ [T.sh (.str x)] = ((l ++ [x]).map L3.D.str).map T.sh := by intros; simp
   have aI : ∀ (l : List Int) (x : Int), (l.map L3.D.int).map T.sh ++ [T.sh (.int x)] = ((l ++ [x]).map L3.D.int).map T.sh := by intros; simp
   refine nP E.ki.1 rfl cN rfl (by simp; omega) ?_
   rw [aS]
   refine nP E.lW.1 rfl (kJ (ai ak)) rfl (by simp; omega) ?_
   rw [aI]
   have XA : ∀ (x y : Str), (((ks ++ [x]).map L3.D.str).map T.sh).set j (T.sh (.str y)) = ((ks ++ [y]).map L3.D.str).map T.sh := fun x y => by
     rw [← List.map_set, ← List.map_set, List.set_append, aeq (by omega), kl, Nat.sub_self]; rfl
   have XC : ∀ (x y : Int), (((ss ++ [x]).map L3.D.int).map T.sh).set j (T.sh (.int y)) = ((ss ++ [y]).map L3.D.int).map T.sh := fun x y => by
     rw [← List.map_set, ← List.map_set, List.set_append, aeq (by omega), sl, Nat.sub_self]; rfl
   have XD : ∀ (l : List Str) (x : Str), l.length = j -> IU (((l ++ [x]).map L3.D.str).map T.sh).length (j : Int) = some j := fun l x e => by
     rw [aea, aea, aex]; unfold IU; rw [aer (by omega), aer (by simp; omega), ae1]
   have aa0 : ∀ (l : List Int) (x : Int), l.length = j -> IU (((l ++ [x]).map L3.D.int).map T.sh).length (j : Int) = some j := fun l x e => by
     rw [aea, aea, aex]; unfold IU; rw [aer (by omega), aer (by simp; omega), ae1]
   have PX : O8 (.lst ((qo es (j : Int)).map L3.D.int)) (.lst []) = decide (qo es (j : Int) = []) := by
     generalize qo es (j : Int) = l
     cases l with
     | nil => rw [aej rfl]; exact xS (jG [])
     | cons x l => rfl
   refine dW (vV (K5 (xT E.u (vL E.yk.1) (fz (ds := []) (dh eG (aey _))) (jG _) (jG [])).1 (fun _ => G8 (kH (ai (bF (ai (fu (ai (bW (ai (c_ ((s, (j : Int))) E.b4 E.aZ (aj (aG E.aY) (aj (aG E.mP) aF)) ((show (0 : Int) <= (j : Int) by omega)) rfl)) (ai ak) ⟨by decide, by decide⟩)) (aG E.mP))) (ai ak) (by decide))) (ai ak)).1))) (fun hp => ?_) (fun hp => ?_)
   . rw [aev, PX] at hp
     have p1 : ¬ qo es (j : Int) = [] := by simpa using hp.1
     have p2 := aez hp.2
     refine Li E.ki.1 cN (aG E.mP) rfl (XD ks _ kl) (az (az ?_))
     rw [XA, show L5 s es j = "all" by unfold L5; rw [aeq p1, aer p2], show L6 s es j = -1 by unfold L6; rw [aeq p1, aer p2]]
     exact ⟨_, _, rfl⟩
   . rw [PX] at hp
     refine dW (xT E.u (vL E.yk.1) (fz (ds := []) (dh eG (aey _))) (jG _) (jG [])).1 (fun hq => ?_) (fun hq => ?_)
     . rw [PX] at hq
       have p1 : ¬ qo es (j : Int) = [] := by simpa using hq
       have p2 : ¬ (bE s (j : Int) / 13 + j) % 2 = 0 := fun z => by
         rw [aeA p1] at hp
         exact absurd z (ae3 hp)
       have aaX := List.length_pos_iff.mpr p1
       have c1 := aeU (bE s (j : Int) / 26) (b := ((qo es (j : Int)).length : Int)) (by omega)
       have c2 := aeJ (bE s (j : Int) / 26) (b := ((qo es (j : Int)).length : Int)) (by omega)
       have Ze : ((qo es (j : Int)).map L3.D.int).length = (qo es (j : Int)).length := aea ..
       have e2 : L6 s es j = (qo es (j : Int)).getD (bE s (j : Int) / 26 % ((qo es (j : Int)).length : Int)).toNat 0 := by unfold L6; rw [aeq p1, aeq p2]
       refine Li E.ki.1 cN (aG E.mP) rfl (XD ks _ kl) ?_
       refine Li E.lW.1 (aC (dg (bG (vL E.yk.1) (ai (bF (ai (bW (ai (c_ ((s, (j : Int))) E.b4 E.aZ (aj (aG E.aY) (aj (aG E.mP) aF)) (show (0 : Int) <= (j : Int) by omega) rfl)) (ai ak) ⟨by decide, by decide⟩)) (ai (c6 (Ze) E.cS (vL E.yk.1) E.cW)) (by omega))) (jk c1 c2)) rfl) (t2 := .sh (.int (L6 s es j))) (by rw [e2])) (aG E.mP) rfl (aa0 ss _ sl) (az (az (az ?_)))
       rw [XA, XC, show L5 s es j = "one" by unfold L5; rw [aeq p1, aeq p2]]
       exact ⟨_, _, rfl⟩
     . rw [PX] at hq
       have p1 : qo es (j : Int) = [] := by simpa using hq
       refine az (az (az ?_))
       rw [show L5 s es j = "leaf" by unfold L5; rw [aer p1], show L6 s es j = -1 by unfold L6; rw [aer p1]]
       exact ⟨_, _, rfl⟩
 case fin =>
   rintro δ ⟨o4, o5, rfl⟩
   rw [show (bP 0 (es.length : Int).toNat).length = es.length by simp [bP]]
   exact bM (K4 (c5 (vM E.ki.1) (c5 (vM E.lW.1) eG)) (aW rfl)) rfl
theorem fX : mD (aq xo) ([("script", ay), ("elders", .cell), ("kinds", ay), ("starts", ay), ("k", .cell), ("near", ay), ("range", av), ("len", av), ("_law_cell_at", av)]) = true := by decide +kernel
theorem DK : aK ["script", "elders", "kinds", "starts", "k", "near"] ["script", "elders"] (aq xo) := aT
noncomputable def HJ : Str := "qzvkjwgmxqz"
noncomputable def Kd : Str := "7z0kjwgm3xq"
noncomputable def UT : Str := "abcdefghijklmnopqrstuvwxyz"
noncomputable def XE (k : Nat) : Str := ⟨#[UT.cps.toList.getD ((k : Int) % 26).toNat 0]⟩
noncomputable def sq (k : Int) : Str := toString k
noncomputable def CT (c : Int) : Int := 2 + c % 11
noncomputable def atK (c : Int) : Int := c / 11 % (CT c - 1)
noncomputable def Bb (c : Int) (k : Nat) : Int := ((k : Int) / 26 + c / 121) % 10
noncomputable def lX (c : Int) (k : Nat) : Str := Txt.slice HJ none (some (atK c)) ++ (XE k ++ sq (Bb c k)) ++ Txt.slice Kd none (some (CT c - atK c - 2))
noncomputable def cX (c : Int) (n : Nat) : List Str := (List.range n).map (lX c)
theorem qM (c : Int) (n : Nat) : (cX c n).length = n := by unfold cX; rw [aea, aeW]
theorem su (x y : Str) : (x ++ y).cps.toList = x.cps.toList ++ y.cps.toList := by
 show (x.cps ++ y.cps).toList = _
 rw [Array.toList_append]
theorem PY : ∀ n : Nat, n < 12 -> (Txt.slice HJ none (some (n : Int))).cps.toList = HJ.cps.toList.take n := by decide +kernel
theorem PZ : ∀ n : Nat, n < 12 -> (Txt.slice Kd none (some (n : Int))).cps.toList = Kd.cps.toList.take n := by decide +kernel
theorem HK : ∀ n : Nat, n < 10 -> (sq (n : Int)).cps.toList = [48 + n] := by decide +kernel
theorem DL : ∀ n : Nat, n < 10 -> (sq (n : Int)).length = 1 /\ (n : Int).natAbs.log2 < 1920 := by decide +kernel
theorem UU : ∀ n : Nat, n < 26 -> UT.cps.toList.getD n 0 = 97 + n := by decide +kernel
theorem Ai (c : Int) : 2 <= CT c /\ CT c <= 12 := by unfold CT; omega
theorem HL (c : Int) : 0 <= atK c /\ atK c <= CT c - 2 := by
 have h := Ai c
 have a := aeU (c / 11) (b := CT c - 1) (by omega)
 have b := aeJ (c / 11) (b := CT c - 1) (by omega)
 unfold atK
 omega
theorem DM (c : Int) (k : Nat) : 0 <= Bb c k /\ Bb c k < 10 := by unfold Bb; omega
theorem pU (c : Int) (k : Nat) : (lX c k).cps.toList = HJ.cps.toList.take (atK c).toNat ++ [97 + k % 26, 48 + (Bb c k).toNat] ++ Kd.cps.toList.take (CT c - atK c - 2).toNat := by
 have h1 := Ai c
 have h2 := HL c
 have h3 := DM c k
 have e1 := PY (atK c).toNat (by omega)
 have e2 := PZ (CT c - atK c - 2).toNat (by omega)
 have e3 := HK (Bb c k).toNat (by omega)
 rw [show (((atK c).toNat : Nat) : Int) = atK c by omega] at e1
 rw [show (((CT c - atK c - 2).toNat : Nat) : Int) = CT c - atK c - 2 by omega] at e2
 rw [show (((Bb c k).toNat : Nat) : Int) = Bb c k by omega] at e3
 have e4 : (XE k).cps.toList = [97 + k % 26] := by
   show [UT.cps.toList.getD ((k : Int) % 26).toNat 0] = _
   rw [show ((k : Int) % 26).toNat = k % 26 by omega, UU _ (by omega)]
 unfold lX
 rw [su, su, su, e1, e2, e3, e4]
 rfl
theorem HM (x : Str) : x.length = x.cps.toList.length := rfl
theorem P0 : HJ.cps.toList.length = 11 := by decide +kernel
theorem P1 : Kd.cps.toList.length = 11 := by decide +kernel
theorem Aj (c : Int) (k : Nat) : ((lX c k).length : Int) = CT c := by
 have h1 := Ai c
 have h2 := HL c
 rw [HM, pU, aex, aex, aft, aft, P0, P1]
 show (((min _ _ + 2 + min _ _ : Nat)) : Int) = _
 omega
theorem L7 : se.all (fun w => w.cps.toList.all isLt) = true := by decide +kernel
theorem DN {x : Str} {l r : List Nat} {d : Nat} (h : x.cps.toList = l ++ d :: r) (hd : isLt d = false) : decide (x ∈ se) = false := by
 refine aeA fun hx => ?_
 have := ae6.mp L7 x hx
 rw [h, afD, afc, hd] at this
 simp at this
theorem P4 : HJ.cps.toList.all (fun c => isLt c || oG c) = true := by decide +kernel
theorem P5 : Kd.cps.toList.all (fun c => isLt c || oG c) = true := by decide +kernel
theorem ym {α : Type} {p : α -> Bool} {l : List α} (n : Nat) (h : l.all p = true) : (l.take n).all p = true := by
 rw [ae6] at h ⊢
 exact fun x hx => h x (List.mem_of_mem_take hx)
theorem L8 (c : Int) (k : Nat) : fW (lX c k) = true := by
 have h1 := Ai c
 have h2 := HL c
 have h3 := DM c k
 have hl := Aj c k
 have hc := pU c k
 have l1 : isLt (97 + k % 26) = true := by unfold isLt; rw [aej (by omega), aej (by omega)]; rfl
 have l2 : oG (48 + (Bb c k).toNat) = true := by unfold oG; rw [aej (by omega), aej (by omega)]; rfl
 have l3 : isLt (48 + (Bb c k).toNat) = false := by unfold isLt; rw [aeA (by omega)]; rfl
 unfold fW
 rw [aej (show 1 <= (lX c k).length by omega), aej (show (lX c k).length <= 12 by omega)]
 rw [DN (l := HJ.cps.toList.take (atK c).toNat ++ [97 + k % 26]) (d := 48 + (Bb c k).toNat) (r := Kd.cps.toList.take (CT c - atK c - 2).toNat) (by rw [hc]; simp) l3, hc]
 rw [afD, afD, ym _ P4, ym _ P5, afc, afc, l1, l2]
 have hf : isLt ((HJ.cps.toList.take (atK c).toNat ++ [97 + k % 26, 48 + (Bb c k).toNat] ++ Kd.cps.toList.take (CT c - atK c - 2).toNat).getD 0 0) = true := by
   generalize (atK c).toNat = n
   cases n with
   | zero => exact l1
   | succ n =>
     have e : HJ.cps.toList = 113 :: HJ.cps.toList.tail := by decide +kernel
     rw [e]
     rfl
 rw [hf, l3]
 rfl
theorem E4 (c : Int) {k j : Nat} (hk : k < 200) (hj : j < 200) (h : lX c k = lX c j) : k = j := by
 have h3 := DM c k
 have h4 := DM c j
 have e : (lX c k).cps.toList = (lX c j).cps.toList := by rw [h]
 rw [pU, pU, aed, aed] at e
 have e := List.append_cancel_left e
 simp only [aeB, List.nil_append, List.cons.injEq] at e
 obtain ⟨e1, e2, _⟩ := e
 unfold Bb at e2 h3 h4
 omega
theorem JA (c : Int) {n : Nat} (h : n <= 200) : (cX c n).Nodup := by
 unfold cX
 refine List.pairwise_map.mpr (afM (fun {a b} ha hb hab e => ?_) List.pairwise_lt_range)
 have := E4 c (by have := aeR.mp ha; omega) (by have := aeR.mp hb; omega) e
 omega
theorem E5 {c : Int} {n : Nat} {x : Str} (h : x ∈ cX c n) : x.length <= 12 /\ fW x = true := by
 obtain ⟨k, _, rfl⟩ := aeu.mp h
 have := Aj c k
 have := Ai c
 exact ⟨by omega, L8 c k⟩
noncomputable abbrev xq : Stmt := top 48
noncomputable abbrev Bc : Type := Int × Nat
noncomputable def pV : Bc -> List L3.D := fun (c, n) => [.int c, .int n]
noncomputable def lY : Bc -> Prop := fun (c, n) => 0 <= c /\ c < 1000000000 /\ n <= 100
noncomputable def pW : Bc -> T := fun (c, n) => (.lst (((cX c n).map .str).map T.sh) : T)
structure P6 (X : Cx) (CL : Str -> Addr) : Prop extends cj X where
 bH : Ln X 0 "cell"
 bz : Ln X 1 "many"
 E6 : Ln X 2 "size"
 vW : Ln X 3 "at"
 HN : Ln X 4 "codes"
 bX : Ln X 5 "names"
 mP : Ln X 6 "k"
 Ma : Ln X 7 "code"
 cA : Gl X "range"
 XF : Gl X "str"
 cB : X.mg "range" = none
 Mb : X.mg "str" = none
theorem P7 {X : Cx} {CL : Str -> Addr} {b : Bx} (E : P6 X CL) (c n) (h : lY (c, n)) :
   aA X CL b xq ["cell", "many", "size", "at", "codes", "names", "k", "code"] (pV (c, n)) (pW (c, n)) := by
 dsimp only [aA, lY, pV, pW] at h ⊢
 obtain ⟨c0, c1, hn⟩ := h
 have h1 := Ai c
 have h2 := HL c
 refine aV E.g E.E6 (aC (fu (ai ak) (ai (bF (aG E.bH) (ai ak) (by decide)))) (t2 := .sh (.int (CT c))) rfl) ?_
 refine aV E.g E.vW (aC (bF (ai (bW (aG E.bH) (ai ak) ⟨by decide, by decide⟩)) (ai (gX (aG E.E6) (ai ak))) (by omega)) (t2 := .sh (.int (atK c))) rfl) ?_
 refine aV E.g E.HN (aC cN (t2 := .sh (.str UT)) rfl) ?_
 refine aV E.g E.bX (dh eG (aey _)) ?_
 refine jD E.g E.mP (fun j δ => ∃ o6 o7, δ = [some (.sh (.int c)), some (.sh (.int n)), some (.sh (.int (CT c))), some (.sh (.int (atK c))), some (.sh (.str UT)), some (.lst (((cX c j).map .str).map T.sh)), o6, o7])
   (fS E.cB (aG E.bz) (by omega) E.cA) ⟨_, _, rfl⟩ (fun j δ ⟨_, _, e⟩ => by subst e; exact aec rfl) ?turn ?fin
 case turn =>
   rintro j d δ hj ⟨o6, o7, rfl⟩
   obtain ⟨rfl, xm⟩ := iH hj
   rw [afb]
   have Xz : j < n := by simpa using xm
   have h3 := DM c j
   obtain ⟨sl, sg⟩ := DL (Bb c j).toNat (by omega)
   rw [show (((Bb c j).toNat : Nat) : Int) = Bb c j by omega] at sl sg
   have a26 : UT.cps.toList.length = 26 := by decide +kernel
   have nl := qM c j
   have hz : HJ.length <= sizeLine /\ Kd.length <= sizeLine /\ UT.length <= sizeLine := by rw [afh]; decide +kernel
   have q1 := afH HJ none (some (atK c))
   have q2 := afH Kd none (some (CT c - atK c - 2))
   have la : HJ.length = 11 := by decide +kernel
   have lb : Kd.length = 11 := by decide +kernel
   have lc : (XE j ++ sq (Bb c j)).length = 2 := by rw [str_len, sl]; rfl
   refine aV E.g E.Ma (aC (xP (ai (aC (K7 (aG E.HN) (ai (bF (aG E.mP) (ai ak) (by decide))) hz.2.2 (Lk 0 (show (0 : Int) <= (j : Int) % 26 by omega) (by rw [a26]; omega))) (t2 := .sh (.str (XE j))) rfl)) (ai (aC (Hj E.Mb E.XF (ai (bF (ai (fu (ai (bW (aG E.mP) (ai ak) ⟨by decide, by decide⟩)) (ai (bW (aG E.bH) (ai ak) ⟨by decide, by decide⟩)))) (ai ak) (by decide))) sg) (t2 := .sh (.str (sq (Bb c j)))) rfl)) (by rw [sl, afh]; show 1 + 1 <= _; decide)) (t2 := .sh (.str (XE j ++ sq (Bb c j)))) rfl) ?_
   refine nP E.bX.1 rfl (aC (xP (ai (xP (ai (uI (ai (aC cN (t2 := .sh (.str HJ)) rfl)) hz.1 wZ (w4 (aG E.vW)))) (aG E.Ma) (by rw [lc, afh]; omega))) (ai (uI (ai (aC cN (t2 := .sh (.str Kd)) rfl)) hz.2.1 wZ (w4 (ai (gX (ai (gX (aG E.E6) (aG E.vW))) (ai ak)))))) (by rw [str_len, lc, afh]; omega)) (t2 := .sh (.str (lX c j))) rfl) rfl (by rw [aea, aea]; omega) (az ?_)
   have e : ((cX c j).map L3.D.str).map T.sh ++ [T.sh (.str (lX c j))] = ((cX c (j + 1)).map L3.D.str).map T.sh := by unfold cX; simp [afp]
   rw [e]
   exact ⟨_, _, rfl⟩
 case fin =>
   rintro δ ⟨o6, o7, rfl⟩
   rw [show (bP 0 (n : Int).toNat).length = n by simp [bP]]
   exact bM (vM E.bX.1) rfl
theorem gO : mD (aq xq) ([("cell", ay), ("many", ay), ("size", ay), ("at", ay), ("codes", ay), ("names", ay), ("k", ay), ("code", ay), ("range", av), ("str", av)]) = true := by decide +kernel
theorem DP : aK ["cell", "many", "size", "at", "codes", "names", "k", "code"] ["cell", "many"] (aq xq) := aT
noncomputable def Mf (c : Int) : List Int := [0, c / 4 % (2 * 10 ^ (30 : Int).toNat - 1) - (10 ^ (30 : Int).toNat - 1), 10 ^ (30 : Int).toNat - 1, 1 - 10 ^ (30 : Int).toNat]
noncomputable def mU (c : Int) : Int := (Mf c).getD (c % 4).toNat 0
noncomputable abbrev HP : Stmt := top 49
noncomputable abbrev Mg : Type := Int
noncomputable def sy : Mg -> List L3.D := fun c => [.int c]
noncomputable def sA : Mg -> Prop := fun c => True
noncomputable def sC : Mg -> T := fun c => (.sh (.int (mU c)) : T)
structure XG (X : Cx) (CL : Str -> Addr) : Prop extends cj X where
 bH : Ln X 0 "cell"
 Mh : Ln X 1 "some"
theorem XH {X : Cx} {CL : Str -> Addr} {b : Bx} (E : XG X CL) (c) (h : sA c) :
   aA X CL b HP ["cell", "some"] (sy c) (sC c) := by
 dsimp only [aA, sA, sy, sC] at h ⊢
 refine aV E.g E.Mh (aC (dh (c5 ak (c5 (gX (ai (bF (ai (bW (aG E.bH) (ai ak) ⟨by decide, by decide⟩)) (ai (gX (ai (EK (ai ak) (ai (iF (ai ak) (ai ak) ⟨by decide, by decide, by decide⟩)) (.inl ⟨by decide, by decide⟩))) (ai ak))) (by decide))) (ai (gX (ai (iF (ai ak) (ai ak) ⟨by decide, by decide, by decide⟩)) (ai ak)))) (c5 (gX (ai (iF (ai ak) (ai ak) ⟨by decide, by decide, by decide⟩)) (ai ak)) (c5 (gX (ai ak) (ai (iF (ai ak) (ai ak) ⟨by decide, by decide, by decide⟩))) eG)))) (aW rfl)) (t2 := .lst (((Mf c).map .int).map T.sh)) rfl) ?_
 exact bM (dg (bG (vL E.Mh.1) (ai (bF (aG E.bH) (ai ak) (by decide))) (jk (bs := Mf c) (k := c % 4) (show (0 : Int) <= c % 4 by omega) (by have e4 : (Mf c).length = 4 := rfl; rw [e4]; omega))) rfl) rfl
theorem Mi : mD (aq HP) ([("cell", ay), ("some", ay)]) = true := by decide +kernel
theorem Mj : aK ["cell", "some"] ["cell"] (aq HP) := aT
noncomputable abbrev Bd : Stmt := top 50
noncomputable abbrev E7 : Type := Int × Nat
noncomputable def oK : E7 -> List L3.D := fun (c, n) => [.int c, .int n]
noncomputable def oM : E7 -> Prop := fun (c, n) => n <= 1000
noncomputable def oN : E7 -> T := fun (c, n) => (.sh (.tup [.int (c % ((n : Int) + 1) - 1), .int (mU (c / ((n : Int) + 1)))]) : T)
structure UW (X : Cx) (CL : Str -> Addr) : Prop extends cj X where
 bH : Ln X 0 "cell"
 bz : Ln X 1 "many"
 E8 : Gl X "_law_far"
 Ml : Fc X CL "_law_far" 1 1 sy sA sC
theorem UX {X : Cx} {CL : Str -> Addr} {b : Bx} (E : UW X CL) (c n) (h : oM (c, n)) :
   aA X CL b Bd ["cell", "many"] (oK (c, n)) (oN (c, n)) := by
 dsimp only [aA, oM, oK, oN] at h ⊢
 have h : n <= 1000 := h
 exact bM (j7 (aR (gX (ai (bF (aG E.bH) (ai (fu (aG E.bz) (ai ak))) (by omega))) (ai ak)) (aR (aC (c_ (c / ((n : Int) + 1)) E.Ml E.E8 (aj (ai (bW (aG E.bH) (ai (fu (aG E.bz) (ai ak))) (⟨by omega, by omega⟩))) aF) trivial rfl) (t2 := .sh (.int (mU (c / ((n : Int) + 1))))) rfl) jl)) (aW rfl)) rfl
theorem Be : mD (aq Bd) ([("cell", ay), ("many", ay), ("_law_far", av)]) = true := by decide +kernel
theorem HQ : aK ["cell", "many"] ["cell", "many"] (aq Bd) := aT
noncomputable def yo (c : Int) (n : Nat) (x : Str) : vH := if c % 3 = 0 /\ 0 < n then .put (c / 3 % (n : Int)) (c / 3 / (n : Int) % ((n : Int) + 1) - 1) (mU (c / 3 / (n : Int) / ((n : Int) + 1))) else if c % 3 = 1 then .say x (c / 3 % ((n : Int) + 1) - 1) (mU (c / 3 / ((n : Int) + 1))) else .call x
noncomputable abbrev Bf : Stmt := top 51
noncomputable abbrev E9 : Type := Int × Nat × Str
noncomputable def oO : E9 -> List L3.D := fun (c, n, x) => [.int c, .int n, .str x]
noncomputable def oQ : E9 -> Prop := fun (c, n, x) => n <= 1000
noncomputable def oR : E9 -> T := fun (c, n, x) => (.sh (lQ (yo c n x)) : T)
structure UY (X : Cx) (CL : Str -> Addr) : Prop extends cj X where
 bH : Ln X 0 "cell"
 bz : Ln X 1 "many"
 oS : Ln X 2 "name"
 gP : Ln X 3 "way"
 jH : Gl X "_law_term"
 yp : Fc X CL "_law_term" 2 2 oK oM oN
theorem UZ {X : Cx} {CL : Str -> Addr} {b : Bx} (E : UY X CL) (c n x) (h : oQ (c, n, x)) :
   aA X CL b Bf ["cell", "many", "name", "way"] (oO (c, n, x)) (oR (c, n, x)) := by
 dsimp only [aA, oQ, oO, oR] at h ⊢
 have h : n <= 1000 := h
 show gk X CL b _ _ { nx := _, rt := fun UL _ => UL = T.sh (lQ (yo c n x)), bk := _, ct := _ }
 refine aV E.g E.gP (bF (aG E.bH) (ai ak) (by decide)) ?_
 refine aV E.g E.bH (bW (aG E.bH) (ai ak) ⟨by decide, by decide⟩) ?_
 refine dW (vV (K5 (kH (aG E.gP) (ai ak)).1 (fun hb => (G8 (K2 (aG E.bz) (ai ak)).1)))) (fun hp => ?_) (fun hp => az ?_)
 . rw [aev] at hp
   have p1 := aez hp.1
   have p2 := aez hp.2
   refine bM (j7 (aR cN (aR (bF (aG E.bH) (aG E.bz) (by omega)) (aR (aC (c_ (c / 3 / (n : Int), n) E.yp E.jH (aj (ai (bW (aG E.bH) (aG E.bz) (⟨by omega, by omega⟩))) (aj (aG E.bz) aF)) h rfl) rfl) jl))) (aW rfl)) ?_
   unfold yo
   rw [aer ⟨p1, by omega⟩]
   rfl
 . have hp2 : ¬ (c % 3 = 0 /\ 0 < n) := fun ⟨z1, z2⟩ => by
     rw [aej z1, aej (show (0 : Int) < (n : Int) by omega)] at hp
     exact absurd hp (by decide)
   unfold yo
   rw [aeq hp2]
   refine dW (kH (aG E.gP) (ai ak)).1 (fun hq => ?_) (fun hq => az ?_)
   . rw [aer (aez hq)]
     exact bM (j7 (aR cN (aR (v_ E.oS.1) (aR (aC (c_ (c / 3, n) E.yp E.jH (aj (aG E.bH) (aj (aG E.bz) aF)) h rfl) rfl) jl))) (aW rfl)) rfl
   . rw [aeq (ae3 hq)]
     exact bM (j7 (aR cN (aR (v_ E.oS.1) jl)) (aW rfl)) rfl
theorem sE : mD (aq Bf) ([("cell", ay), ("many", ay), ("name", ay), ("way", ay), ("_law_term", av)]) = true := by decide +kernel
theorem HR : aK ["cell", "many", "name", "way"] ["cell", "many", "name"] (aq Bf) := aT
noncomputable def Zf (s : List Int) (y : Nat) (k : Nat) : Int := bE s (7 + (k : Int)) % 10 ^ (60 : Int).toNat / (y : Int)
noncomputable def R9 (c : Int) (n : Nat) (x : Str) (j : Nat) : vH := yo (c / (6 + (j : Int))) n x
noncomputable def rwK (s : List Int) (n : Nat) (nm : List Str) (y k : Nat) : List vH := (List.range (Zf s y k % 3).toNat).map (R9 (Zf s y k) n (nm.getD k Str.empty))
noncomputable def gG (s : List Int) (n : Nat) (nm : List Str) (y m : Nat) : List (List vH) := (List.range m).map (rwK s n nm y)
noncomputable def ux (l : List vH) : L3.D := .tup (l.map lQ)
noncomputable abbrev Bg : Stmt := top 55
noncomputable abbrev Fb : Type := List Int × Nat × List Str × Nat
noncomputable def sF : Fb -> List L3.D := fun (s, n, nm, y) => [.lst (s.map .int), .int n, .lst (nm.map .str), .int y]
noncomputable def lZ : Fb -> Prop := fun (s, n, nm, y) => n <= 1000 /\ nm.length <= 500 /\ 1 <= y /\ y <= 10
noncomputable def sG : Fb -> T := fun (s, n, nm, y) => (.lst (((gG s n nm y nm.length).map ux).map T.sh) : T)
structure U0 (X : Cx) (CL : Str -> Addr) : Prop extends cj X where
 aY : Ln X 0 "script"
 bz : Ln X 1 "many"
 U1 : X.env.kindOf "many" = some .cell
 bX : Ln X 2 "names"
 Bh : X.env.kindOf "names" = some .cell
 aa3 : Ln X 3 "by"
 yq : Ln X 4 "rows"
 mP : Ln X 5 "k"
 k_k : X.env.kindOf "k" = some .cell
 bH : Ln X 6 "cell"
 U3 : X.env.kindOf "cell" = some .cell
 cA : Gl X "range"
 cW : Gl X "len"
 aZ : Gl X "_law_cell_at"
 xr : Gl X "tuple"
 cB : X.mg "range" = none
 cS : X.mg "len" = none
 b4 : Fc X CL "_law_cell_at" 1 2 eO eS eU
 xu : X.mg "tuple" = none
 Fd : Fc X CL "_law_deed" 3 3 oO oQ oR
theorem U4 {X : Cx} {CL : Str -> Addr} {b : Bx} (E : U0 X CL) (s n nm y) (h : lZ (s, n, nm, y)) :
   aA X CL b Bg ["script", "many", "names", "by", "rows", "k", "cell"] (sF (s, n, nm, y)) (sG (s, n, nm, y)) := by
 dsimp only [aA, lZ, sF, sG] at h ⊢
 obtain ⟨h1, h2, h3, h4⟩ := h
 refine aV E.g E.yq (dh eG (aey _)) ?_
 refine jD E.g E.mP (fun j δ => ∃ o5 o6, δ = [some (.sh (.lst (s.map .int))), some (.sh (.int n)), some (.sh (.lst (nm.map .str))), some (.sh (.int y)), some (.lst (((gG s n nm y j).map ux).map T.sh)), o5, o6])
   (fS E.cB (ai (c6 (aea ..) E.cS (aG E.bX) E.cW)) (by omega) E.cA) ⟨_, _, rfl⟩ (fun j δ ⟨_, _, e⟩ => by subst e; exact aec rfl) ?turn ?fin
 case turn =>
   rintro j d δ hj ⟨o5, o6, rfl⟩
   obtain ⟨rfl, xm⟩ := iH hj
   rw [afb]
   have Xz : j < nm.length := by simpa using xm
   refine aV E.g E.bH (aC (bW (ai (bF (ai (c_ ((s, 7 + (j : Int))) E.b4 E.aZ (aj (aG E.aY) (aj (ai (fu (ai ak) (aG E.mP))) aF)) (show (0 : Int) <= 7 + (j : Int) by omega) rfl)) (ai (iF (ai ak) (ai ak) ⟨by decide, by decide, by decide⟩)) (by decide))) (aG E.aa3) (⟨by omega, by omega⟩)) (t2 := .sh (.int (Zf s y j))) rfl) ?_
   have er : gG s n nm y (j + 1) = gG s n nm y j ++ [rwK s n nm y j] := by simp [gG, afp]
   have lr : (gG s n nm y j).length = j := by unfold gG; rw [aea, aeW]
   show gk X CL b _ _ { nx := fun δ => ∃ o5 o6, δ = [_, _, _, _, some (.lst (((gG s n nm y (j + 1)).map ux).map T.sh)), o5, o6], rt := _, bk := _, ct := _ }
   rw [er]
   generalize gG s n nm y j = rw at lr ⊢
   unfold rwK
   generalize Zf s y j = c
   have c0 := aeU c (b := 3) (by decide)
   have c1 := aeJ c (b := 3) (by decide)
   have Jc : zL (nm.map L3.D.str) (j : Int) = some (.str (nm.getD j Str.empty)) := (qF Str.empty (by omega) (by omega)).trans (by rw [ae1])
   have Sb : ∀ l : List vH, D.bZ (l.map lQ) = true := fun l => bY (fun q => by cases q <;> rfl) l
   refine nP E.yq.1 rfl (uD E.xu (fz (ds := ((List.range (c % 3).toNat).map (R9 c n (nm.getD j Str.empty))).map lQ) (aC (w9 (p := fun _ => true) (g := fun d => T.sh (lQ (R9 c n (nm.getD j Str.empty) d.Ep.toNat))) (fU (.cons E.bH.1 (.inl E.U3) (.cons E.mP.1 (.inl E.k_k) (.cons E.bz.1 (.inl E.U1) (.cons E.bX.1 (.inl E.Bh) .nil)))) (by decide +kernel)) E.g.calm (fS E.cB (ai (bF (aG E.bH) (ai ak) (by decide))) ((show -(2 ^ 62) <= c % 3 /\ c % 3 < 2 ^ 62 by omega)) E.cA) (.inr rfl) (fun C s0 H0 f0 b' d hd => ?Jz) (ae2 (cz (by simp [bP]; omega)))) ?U5)) (Sb _) E.xr) rfl (by rw [aea, aea]; omega) (az ?_)
   case Jz =>
     obtain ⟨i, hi, rfl⟩ := aeu.mp hd
     have hi2 : i < (c % 3).toNat := aeR.mp hi
     have hi3 : i < 3 := by omega
     refine ⟨rfl, fun _ => aC (c_ (c / (6 + (0 + (i : Int))), n, nm.getD j Str.empty) (rY E.Fd) (j8 (by decide +kernel)) (aj (ai (bW (ai (v_ (kK (i := 1) rfl (by decide +kernel)))) (ai (fu (ai ak) (ai (v_ (jJ (i := 0) rfl (by decide +kernel)))))) (⟨by omega, by omega⟩))) (aj (ai (v_ (kK (i := 3) rfl (by decide +kernel)))) (aj (bG (ai (v_ (kK (i := 4) rfl (by decide +kernel)))) (ai (v_ (kK (i := 2) rfl (by decide +kernel)))) (Jc)) aF))) h1 (by show D.nM _ = true; generalize yo _ _ _ = q; cases q <;> rfl)) ?_⟩
     show T.sh _ = T.sh (lQ (R9 c n (nm.getD j Str.empty) (0 + (i : Int)).toNat))
     unfold R9
     rw [show (((0 + (i : Int)).toNat : Nat) : Int) = 0 + (i : Int) by omega]
   case U5 =>
     rw [iz]
     unfold bP
     rw [aeN, aeN, aeN]
     congr 1
     refine afw fun k _ => ?_
     show T.sh (lQ (R9 c n _ (0 + (k : Int)).toNat)) = _
     rw [show (0 + (k : Int)).toNat = k by omega]
     rfl
   have e : (rw.map ux).map T.sh ++ [T.sh (.tup (((List.range (c % 3).toNat).map (R9 c n (nm.getD j Str.empty))).map lQ))] = ((rw ++ [(List.range (c % 3).toNat).map (R9 c n (nm.getD j Str.empty))]).map ux).map T.sh := by
     rw [afC, afC]
     rfl
   rw [e]
   exact ⟨_, _, rfl⟩
 case fin =>
   rintro δ ⟨o5, o6, rfl⟩
   rw [show (bP 0 (nm.length : Int).toNat).length = nm.length by simp [bP]]
   exact bM (vM E.yq.1) rfl
theorem eW : mD (aq Bg) ([("script", ay), ("many", .cell), ("names", .cell), ("by", ay), ("rows", ay), ("k", .cell), ("cell", .cell), ("range", av), ("len", av), ("_law_cell_at", av), ("tuple", av)]) = true := by decide +kernel
theorem HS : aK ["script", "many", "names", "by", "rows", "k", "cell"] ["script", "many", "names", "by"] (aq Bg) := aT
noncomputable def DQ (c : Int) (n m : Nat) : N7 :=
 if c % 6 < 2 then .Jt ((["open", "shut"] : List Str).getD (c % 6).toNat Str.empty) (c / 6 % (m : Int))
 else .num ((["<", "<=", "=", "!="] : List Str).getD (c % 6 - 2).toNat Str.empty) (c / 6 % 10 ^ (33 : Int).toNat % ((n : Int) + 1) - 1) (mU (c / 6 % 10 ^ (33 : Int).toNat / ((n : Int) + 1))) (c / 6 / 10 ^ (33 : Int).toNat % ((n : Int) + 1) - 1) (mU (c / 6 / 10 ^ (33 : Int).toNat / ((n : Int) + 1)))
noncomputable abbrev HV : Stmt := top 52
noncomputable abbrev Mm : Type := Int × Nat × Nat
noncomputable def xx : Mm -> List L3.D := fun (c, n, m) => [.int c, .int n, .int m]
noncomputable def sH : Mm -> Prop := fun (c, n, m) => n <= 1000 /\ 1 <= m /\ m <= 1000
noncomputable def xA : Mm -> T := fun (c, n, m) => (.sh (DH (DQ c n m)) : T)
structure XI (X : Cx) (CL : Str -> Addr) : Prop extends cj X where
 bH : Ln X 0 "cell"
 bz : Ln X 1 "many"
 gR : Ln X 2 "moods"
 gP : Ln X 3 "way"
 Sd : Ln X 4 "one"
 jH : Gl X "_law_term"
 yp : Fc X CL "_law_term" 2 2 oK oM oN
theorem XJ {X : Cx} {CL : Str -> Addr} {b : Bx} (E : XI X CL) (c n m) (h : sH (c, n, m)) :
   aA X CL b HV ["cell", "many", "moods", "way", "one"] (xx (c, n, m)) (xA (c, n, m)) := by
 dsimp only [aA, sH, xx, xA] at h ⊢
 obtain ⟨h1, h2, h3⟩ := h
 show gk X CL b _ _ { nx := _, rt := fun UL _ => UL = T.sh (DH (DQ c n m)), bk := _, ct := _ }
 refine aV E.g E.gP (bF (aG E.bH) (ai ak) (by decide)) ?_
 refine aV E.g E.bH (bW (aG E.bH) (ai ak) ⟨by decide, by decide⟩) ?_
 unfold DQ
 refine dW (G7 (aG E.gP) (ai ak)).1 (fun hp => ?_) (fun hp => az ?_)
 . have hp := aez hp
   rw [aer hp]
   exact bM (j7 (aR (dg (bG (fz (ds := (["open", "shut"] : List Str).map .str) (dh (pP rfl) (aW rfl))) (aG E.gP) (qF (f := L3.D.str) (l := ["open", "shut"]) Str.empty (show (0 : Int) <= c % 6 by omega) hp)) rfl) (aR (bF (aG E.bH) (aG E.gR) (by omega)) jl)) (aW rfl)) rfl
 . have hp := ae3 hp
   rw [aeq hp]
   refine aV E.g E.Sd (aC (c_ (c / 6 % 10 ^ (33 : Int).toNat, n) E.yp E.jH (aj (ai (bF (aG E.bH) (ai (iF (ai ak) (ai ak) ⟨by decide, by decide, by decide⟩)) (by decide))) (aj (aG E.bz) aF)) h1 rfl) rfl) ?_
   exact bM (j7 (aR (dg (bG (fz (ds := (["<", "<=", "=", "!="] : List Str).map .str) (dh (pP rfl) (aW rfl))) (ai (gX (aG E.gP) (ai ak))) (qF (f := L3.D.str) (l := ["<", "<=", "=", "!="]) Str.empty (show (0 : Int) <= c % 6 - 2 by omega) (show c % 6 - 2 < ((4 : Nat) : Int) by omega))) rfl) (aR (v_ E.Sd.1) (aR (aC (c_ (c / 6 / 10 ^ (33 : Int).toNat, n) E.yp E.jH (aj (ai (LR (aG E.bH) (ai (iF (ai ak) (ai ak) ⟨by decide, by decide, by decide⟩)) (by decide +kernel))) (aj (aG E.bz) aF)) h1 rfl) rfl) jl))) (aW rfl)) rfl
theorem uM : mD (aq HV) ([("cell", ay), ("many", ay), ("moods", ay), ("way", ay), ("one", ay), ("_law_term", av)]) = true := by decide +kernel
theorem Mp : aK ["cell", "many", "moods", "way", "one"] ["cell", "many", "moods"] (aq HV) := aT
noncomputable def DR (s : List Int) (i : Int) : Int := bE s i % 10 ^ (60 : Int).toNat
noncomputable def DS (s : List Int) (i : Int) (n m k : Nat) : N7 := DQ (bE s (i + 1 + (k : Int)) % 10 ^ (64 : Int).toNat) n m
noncomputable def Fe (s : List Int) (i : Int) (n : Nat) (x : Str) (k : Nat) : vH := yo (bE s (i + 2 + (k : Int)) % 10 ^ (60 : Int).toNat) n x
noncomputable def Bj (c : Int) (m : Nat) : Int := c / 9 % ((m : Int) + 1) - 1
noncomputable def zR (c : Int) (m : Nat) : Str := if Bj c m = -1 then "new" else (["new", "near", "far"] : List Str).getD (c / 9 / ((m : Int) + 1) % 3).toNat Str.empty
noncomputable def JB (s : List Int) (i src : Int) (n m : Nat) (x : Str) : Hz := ⟨src, x, (List.range (DR s i % 3).toNat).map (DS s i n m), (List.range (DR s i / 3 % 3).toNat).map (Fe s i n x), Bj (DR s i) m, zR (DR s i) m⟩
noncomputable abbrev HW : Stmt := top 53
noncomputable abbrev Mq : Type := List Int × Int × Int × Nat × Nat × Str
noncomputable def xB : Mq -> List L3.D := fun (s, i, src, n, m, x) => [.lst (s.map .int), .int i, .int src, .int n, .int m, .str x]
noncomputable def sI : Mq -> Prop := fun (s, i, src, n, m, x) => 0 <= i /\ n <= 1000 /\ 1 <= m /\ m <= 1000
noncomputable def xC : Mq -> T := fun (s, i, src, n, m, x) => (.sh (uw (JB s i src n m x)) : T)
structure XM (X : Cx) (CL : Str -> Addr) : Prop extends cj X where
 aY : Ln X 0 "script"
 vW : Ln X 1 "at"
 Mr : Ln X 2 "source"
 bz : Ln X 3 "many"
 gR : Ln X 4 "moods"
 oS : Ln X 5 "name"
 bH : Ln X 6 "cell"
 Ff : Ln X 7 "asks"
 mP : Ln X 8 "k"
 pX : Ln X 9 "deeds"
 jI : Ln X 10 "target"
 qN : Ln X 11 "mode"
 aZ : Gl X "_law_cell_at"
 cA : Gl X "range"
 Fg : Gl X "_law_ask"
 DT : Gl X "_law_deed"
 xr : Gl X "tuple"
 b4 : Fc X CL "_law_cell_at" 1 2 eO eS eU
 cB : X.mg "range" = none
 XO : Fc X CL "_law_ask" 3 3 xx sH xA
 Fd : Fc X CL "_law_deed" 3 3 oO oQ oR
 xu : X.mg "tuple" = none
theorem XQ {X : Cx} {CL : Str -> Addr} {b : Bx} (E : XM X CL) (s i src n m x) (h : sI (s, i, src, n, m, x)) :
   aA X CL b HW ["script", "at", "source", "many", "moods", "name", "cell", "asks", "k", "deeds", "target", "mode"] (xB (s, i, src, n, m, x)) (xC (s, i, src, n, m, x)) := by
 dsimp only [aA, sI, xB, xC] at h ⊢
 obtain ⟨h0, h1, h2, h3⟩ := h
 show gk X CL b _ _ { nx := _, rt := fun UL _ => UL = T.sh (uw (JB s i src n m x)), bk := _, ct := _ }
 refine aV E.g E.bH (aC (bF (ai (c_ ((s, i)) E.b4 E.aZ (aj (aG E.aY) (aj (aG E.vW) aF)) (h0) rfl)) (ai (iF (ai ak) (ai ak) ⟨by decide, by decide, by decide⟩)) (by decide)) (t2 := .sh (.int (DR s i))) rfl) ?_
 unfold JB
 generalize DR s i = c
 refine aV E.g E.Ff (dh eG (aey _)) ?_
 have c0 : 0 <= c % 3 /\ c % 3 < 3 := by omega
 have d0 : 0 <= c / 3 % 3 /\ c / 3 % 3 < 3 := by omega
 refine jD E.g E.mP (fun j δ => ∃ o8 o9 U6 U7, δ = [some (.sh (.lst (s.map .int))), some (.sh (.int i)), some (.sh (.int src)), some (.sh (.int n)), some (.sh (.int m)), some (.sh (.str x)), some (.sh (.int c)), some (.lst ((((List.range j).map (DS s i n m)).map DH).map T.sh)), o8, o9, U6, U7])
   (fS E.cB (ai (bF (aG E.bH) (ai ak) (by decide))) ((show -(2 ^ 62) <= c % 3 /\ c % 3 < 2 ^ 62 by omega)) E.cA) ⟨_, _, _, _, rfl⟩ (fun j δ ⟨_, _, _, _, e⟩ => by subst e; exact aec rfl) ?turn ?fin
 case turn =>
   rintro j d δ hj ⟨o8, o9, U6, U7, rfl⟩
   obtain ⟨rfl, xm⟩ := iH hj
   have hj3 : j < 3 := by have xm : j < (c % 3).toNat := xm; omega
   rw [afb]
   refine nP E.Ff.1 rfl (aC (c_ (bE s (i + 1 + (j : Int)) % 10 ^ (64 : Int).toNat, n, m) E.XO E.Fg (aj (ai (bF (ai (c_ ((s, i + 1 + (j : Int))) E.b4 E.aZ (aj (aG E.aY) (aj (ai (fu (ai (fu (aG E.vW) (ai ak))) (aG E.mP))) aF)) ((show (0 : Int) <= i + 1 + (j : Int) by omega)) rfl)) (ai (iF (ai ak) (ai ak) ⟨by decide, by decide, by decide⟩)) (by decide))) (aj (aG E.bz) (aj (aG E.gR) aF))) (by dsimp only [sH]; exact ⟨h1, h2, h3⟩) (by show D.nM _ = true; generalize DQ _ _ _ = q; cases q <;> rfl)) (t2 := .sh (DH (DS s i n m j))) rfl) rfl (by simp; omega) (az ?_)
   have e : (((List.range j).map (DS s i n m)).map DH).map T.sh ++ [T.sh (DH (DS s i n m j))] = (((List.range (j + 1)).map (DS s i n m)).map DH).map T.sh := by simp [afp]
   rw [e]
   exact ⟨_, _, _, _, rfl⟩
 case fin =>
 rintro δ ⟨o8, o9, U6, U7, rfl⟩
 rw [show (bP 0 (c % 3).toNat).length = (c % 3).toNat by simp [bP]]
 refine aV E.g E.pX (dh eG (aey _)) ?_
 refine jD E.g E.mP (fun j δ => ∃ o8 U6 U7, δ = [some (.sh (.lst (s.map .int))), some (.sh (.int i)), some (.sh (.int src)), some (.sh (.int n)), some (.sh (.int m)), some (.sh (.str x)), some (.sh (.int c)), some (.lst ((((List.range (c % 3).toNat).map (DS s i n m)).map DH).map T.sh)), o8, some (.lst ((((List.range j).map (Fe s i n x)).map lQ).map T.sh)), U6, U7])
   (fS E.cB (ai (bF (ai (bW (aG E.bH) (ai ak) ⟨by decide, by decide⟩)) (ai ak) (by decide))) ((show -(2 ^ 62) <= c / 3 % 3 /\ c / 3 % 3 < 2 ^ 62 by omega)) E.cA) ⟨_, _, _, rfl⟩ (fun j δ ⟨_, _, _, e⟩ => by subst e; exact aec rfl) ?DU ?fin2
 case DU =>
   rintro j d δ hj ⟨o8, U6, U7, rfl⟩
   obtain ⟨rfl, xm⟩ := iH hj
   have hj3 : j < 3 := by have xm : j < (c / 3 % 3).toNat := xm; omega
   rw [afb]
   refine nP E.pX.1 rfl (aC (c_ (bE s (i + 2 + (j : Int)) % 10 ^ (60 : Int).toNat, n, x) E.Fd E.DT (aj (ai (bF (ai (c_ ((s, i + 2 + (j : Int))) E.b4 E.aZ (aj (aG E.aY) (aj (ai (fu (ai (fu (aG E.vW) (ai ak))) (aG E.mP))) aF)) ((show (0 : Int) <= i + 2 + (j : Int) by omega)) rfl)) (ai (iF (ai ak) (ai ak) ⟨by decide, by decide, by decide⟩)) (by decide))) (aj (aG E.bz) (aj (aG E.oS) aF))) h1 (by show D.nM _ = true; generalize yo _ _ _ = q; cases q <;> rfl)) (t2 := .sh (lQ (Fe s i n x j))) rfl) rfl (by simp; omega) (az ?_)
   have e : (((List.range j).map (Fe s i n x)).map lQ).map T.sh ++ [T.sh (lQ (Fe s i n x j))] = (((List.range (j + 1)).map (Fe s i n x)).map lQ).map T.sh := by simp [afp]
   rw [e]
   exact ⟨_, _, _, rfl⟩
 case fin2 =>
 rintro δ ⟨o8, U6, U7, rfl⟩
 rw [show (bP 0 (c / 3 % 3).toNat).length = (c / 3 % 3).toNat by simp [bP]]
 refine aV E.g E.jI (aC (gX (ai (bF (ai (bW (aG E.bH) (ai ak) ⟨by decide, by decide⟩)) (ai (fu (aG E.gR) (ai ak))) (by omega))) (ai ak)) (t2 := .sh (.int (Bj c m))) rfl) ?_
 have m0 := aeU (c / 9 / ((m : Int) + 1)) (b := 3) (by decide)
 have m1 := aeJ (c / 9 / ((m : Int) + 1)) (b := 3) (by decide)
 refine aV E.g E.qN (dg (bG (fz (ds := (["new", "near", "far"] : List Str).map .str) (dh (pP rfl) (aW rfl))) (ai (bF (ai (bW (ai (bW (aG E.bH) (ai ak) ⟨by decide, by decide⟩)) (ai (fu (aG E.gR) (ai ak))) (⟨by omega, by omega⟩))) (ai ak) (by decide))) (qF (f := L3.D.str) (l := ["new", "near", "far"]) Str.empty m0 m1)) rfl) ?_
 refine RX (fun δ => δ = [some (.sh (.lst (s.map .int))), some (.sh (.int i)), some (.sh (.int src)), some (.sh (.int n)), some (.sh (.int m)), some (.sh (.str x)), some (.sh (.int c)), some (.lst ((((List.range (c % 3).toNat).map (DS s i n m)).map DH).map T.sh)), o8, some (.lst ((((List.range (c / 3 % 3).toNat).map (Fe s i n x)).map lQ).map T.sh)), some (.sh (.int (Bj c m))), some (.sh (.str (zR c m)))]) (kH (aG E.jI) (ai (kJ (ai ak)))).1 (fun hp => ?_) (fun hp => ?_) ?_
 . refine aV E.g E.qN cN (az ?_)
   rw [show zR c m = "new" by unfold zR; rw [aer (aez hp)]]
   rfl
 . refine az ?_
   rw [show zR c m = (["new", "near", "far"] : List Str).getD (c / 9 / ((m : Int) + 1) % 3).toNat Str.empty by unfold zR; rw [aeq (ae3 hp)]]
   rfl
 rintro δ rfl
 exact bM (j7 (aR (v_ E.Mr.1) (aR (v_ E.oS.1) (aR (uD E.xu (vL E.Ff.1) (bY (fun q => by cases q <;> rfl) _) E.xr) (aR (uD E.xu (vL E.pX.1) (bY (fun q => by cases q <;> rfl) _) E.xr) (aR (v_ E.jI.1) (aR (v_ E.qN.1) jl)))))) (aW rfl)) rfl
theorem fY : mD (aq HW) ([("script", ay), ("at", ay), ("source", ay), ("many", ay), ("moods", ay), ("name", ay), ("cell", ay), ("asks", ay), ("k", ay), ("deeds", ay), ("target", ay), ("mode", ay), ("_law_cell_at", av), ("range", av), ("_law_ask", av), ("_law_deed", av), ("tuple", av)]) = true := by decide +kernel
theorem Ms : aK ["script", "at", "source", "many", "moods", "name", "cell", "asks", "k", "deeds", "target", "mode"] ["script", "at", "source", "many", "moods", "name"] (aq HW) := aT
noncomputable def U8 (s : List Int) : Int := bE s 0 % 10 ^ (9 : Int).toNat
noncomputable def U9 (c : Int) : Int := if c / 12 % 4 = 1 then 1 + c / 48 % 45 else 1 + c % 12
noncomputable def nQ (c : Int) : Nat := (U9 c).toNat
theorem Se (c : Int) : (nQ c : Int) = U9 c /\ 1 <= nQ c /\ nQ c <= 45 := by
 unfold nQ
 have : 1 <= U9 c /\ U9 c <= 45 := by unfold U9; split <;> omega
 omega
noncomputable def Es (c : Int) : Nat := (c / 3 % 5).toNat
theorem Mt (c : Int) : (Es c : Int) = c / 3 % 5 /\ Es c <= 4 := by unfold Es; omega
noncomputable def Fi : Str := "qzvkjw"
noncomputable def Va (c : Int) : Str := Txt.slice Fi none (some (c / 7 % 7))
noncomputable def Mu (s : List Int) (c : Int) (k : Nat) : Str × Int := ((Va c ++ ("b" : Str)) ++ sq (k : Int), mU (bE s (2 + (k : Int))))
noncomputable def DV (s : List Int) (c : Int) : List (Str × Int) := (List.range (Es c)).map (Mu s c)
noncomputable def V9 (s : List Int) (m : Nat) (k : Nat) : Int := bE s (20 + 4 * (k : Int)) / 7 % (m : Int)
noncomputable def sJ (s : List Int) (c : Int) (m : Nat) : List Int := sortI ((List.range (c / 15 % 7).toNat).map (V9 s m))
noncomputable def wyK (s : List Int) (ns : List Str) (sr : List Int) (n m k : Nat) : Hz := JB s (21 + 4 * (k : Int)) (sr.getD k 0) n m (ns.getD (sr.getD k 0).toNat Str.empty)
noncomputable def vX (s : List Int) (ns : List Str) (sr : List Int) (n m j : Nat) : List Hz := (List.range j).map (wyK s ns sr n m)
theorem Mv (c : Int) : R7 (mU c) = true := by
 have p : (10 : Int) ^ (30 : Int).toNat = 1000000000000000000000000000000 := by decide +kernel
 have h : -(10 ^ (30 : Int).toNat) < mU c /\ mU c < 10 ^ (30 : Int).toNat := by
   unfold mU Mf
   rw [p]
   have : c % 4 = 0 \/ c % 4 = 1 \/ c % 4 = 2 \/ c % 4 = 3 := by omega
   rcases this with e | e | e | e <;> rw [e]
   . show _ < (0 : Int) /\ (0 : Int) < _; omega
   . show _ < (c / 4 % _ - _ : Int) /\ (c / 4 % _ - _ : Int) < _; omega
   . show _ < (_ - 1 : Int) /\ (_ - 1 : Int) < _; omega
   . show _ < (1 - _ : Int) /\ (1 - _ : Int) < _; omega
 unfold R7
 rw [aej h.1, aej h.2]
 rfl
theorem HX (c : Int) {n : Nat} (h : 0 < n) : xj (c % (n : Int)) n = true := by
 unfold xj
 rw [aej (aeU _ (by omega)), aej (aeJ _ (by omega))]
 rfl
theorem xD (c d : Int) (n : Nat) : CQ n (c % ((n : Int) + 1) - 1) (mU d) = true := by
 have a := aeU c (b := (n : Int) + 1) (by omega)
 have b := aeJ c (b := (n : Int) + 1) (by omega)
 unfold CQ
 rw [Mv]
 by_cases e : c % ((n : Int) + 1) - 1 = -1
 . rw [aej e]; rfl
 . unfold xj
   rw [aej (show 0 <= c % ((n : Int) + 1) - 1 by omega), aej (show c % ((n : Int) + 1) - 1 < (n : Int) by omega)]
   simp
theorem HY (c : Int) (n : Nat) {x : Str} (h : x.length <= 12 /\ fW x = true) : R8 (yo c n x) /\ LZ n (yo c n x) = true := by
 unfold yo
 split
 . rename_i e
   refine ⟨trivial, ?_⟩
   show (xj _ n && CQ n _ _) = true
   rw [HX _ e.2, xD]
   rfl
 . split
   . refine ⟨show x.length <= 1000 by omega, ?_⟩
     show (fW x && CQ n _ _) = true
     rw [h.2, xD]
     rfl
   . exact ⟨show x.length <= 1000 by omega, h.2⟩
theorem P8 (c : Int) (n : Nat) {m : Nat} (h : 1 <= m) : LX (DQ c n m) /\ Xy m n (DQ c n m) = true := by
 unfold DQ
 split
 . rename_i e
   refine ⟨?_, HX _ (by omega)⟩
   have : c % 6 = 0 \/ c % 6 = 1 := by omega
   show (["open", "shut"] : List Str).getD (c % 6).toNat Str.empty ∈ (["open", "shut"] : List Str)
   rcases this with e | e <;> rw [e] <;> decide +kernel
 . rename_i e
   have : c % 6 = 2 \/ c % 6 = 3 \/ c % 6 = 4 \/ c % 6 = 5 := by omega
   have hm : (["<", "<=", "=", "!="] : List Str).getD (c % 6 - 2).toNat Str.empty ∈ (["<", "<=", "=", "!="] : List Str) /\ ¬ (["<", "<=", "=", "!="] : List Str).getD (c % 6 - 2).toNat Str.empty ∈ (["open", "shut"] : List Str) := by
     rcases this with e | e | e | e <;> rw [e] <;> decide +kernel
   refine ⟨hm.2, ?_⟩
   show (decide (_ ∈ _) && (CQ n _ _ && CQ n _ _)) = true
   rw [aej hm.1, xD, xD]
   rfl
theorem P9 (s : List Int) (i src : Int) (n : Nat) {m : Nat} {x : Str} (h : 1 <= m) (hs : xj src m = true) (hx : x.length <= 12 /\ fW x = true) : (JB s i src n m x).Ok m n /\ ∀ q ∈ (JB s i src n m x).dl, R8 q /\ LZ n q = true := by
 refine ⟨⟨hs, ⟨show x.length <= 1000 by omega, hx.2⟩, ?_, ?_, fun q hq => ?_⟩, fun q hq => ?_⟩
 . show zR (DR s i) m ∈ _
   unfold zR
   have : DR s i / 9 / ((m : Int) + 1) % 3 = 0 \/ DR s i / 9 / ((m : Int) + 1) % 3 = 1 \/ DR s i / 9 / ((m : Int) + 1) % 3 = 2 := by omega
   split
   . decide +kernel
   . rcases this with e | e | e <;> rw [e] <;> decide +kernel
 . show (Bj (DR s i) m = -1 /\ zR (DR s i) m = "new") \/ (Bj (DR s i) m ≠ -1 /\ xj (Bj (DR s i) m) m = true)
   by_cases e : Bj (DR s i) m = -1
   . refine .inl ⟨e, ?_⟩
     unfold zR
     rw [aer e]
   . refine .inr ⟨e, ?_⟩
     unfold Bj at e ⊢
     have a := aeU (DR s i / 9) (b := (m : Int) + 1) (by omega)
     have b := aeJ (DR s i / 9) (b := (m : Int) + 1) (by omega)
     unfold xj
     rw [aej (by omega), aej (by omega)]
     rfl
 . obtain ⟨k, _, rfl⟩ := aeu.mp hq
   exact P8 _ n h
 . obtain ⟨k, _, rfl⟩ := aeu.mp hq
   exact HY _ n hx
theorem Qa : ∀ n : Nat, n < 7 -> (Txt.slice Fi none (some (n : Int))).cps.toList = Fi.cps.toList.take n := by decide +kernel
theorem Qc (c : Int) : (Va c).cps.toList = Fi.cps.toList.take (c / 7 % 7).toNat := by
 have e := Qa (c / 7 % 7).toNat (by omega)
 rw [show (((c / 7 % 7).toNat : Nat) : Int) = c / 7 % 7 by omega] at e
 exact e
theorem Bk (s : List Int) (c : Int) {k : Nat} (h : k < 10) : (Mu s c k).1.cps.toList = Fi.cps.toList.take (c / 7 % 7).toNat ++ [98] ++ [48 + k] := by
 show ((Va c ++ ("b" : Str)) ++ sq (k : Int)).cps.toList = _
 rw [su, su, Qc, HK k h]
 rfl
theorem Qd : Fi.cps.toList.all (fun c => isLt c || oG c) = true := by decide +kernel
theorem Vb (s : List Int) (c : Int) {k : Nat} (h : k < 10) : (Mu s c k).1.length <= 12 /\ fW (Mu s c k).1 = true := by
 have hc := Bk s c h
 have hl : 2 <= (Mu s c k).1.length /\ (Mu s c k).1.length <= 9 := by
   rw [HM, hc, aex, aex, aft, show Fi.cps.toList.length = 6 by decide +kernel]
   show 2 <= min _ 6 + 1 + 1 /\ min _ 6 + 1 + 1 <= 9
   omega
 have l2 : oG (48 + k) = true := by unfold oG; rw [aej (by omega), aej (by omega)]; rfl
 have l3 : isLt (48 + k) = false := by unfold isLt; rw [aeA (by omega)]; rfl
 refine ⟨by omega, ?_⟩
 unfold fW
 rw [aej (show 1 <= (Mu s c k).1.length by omega), aej (show (Mu s c k).1.length <= 12 by omega)]
 rw [DN (l := Fi.cps.toList.take (c / 7 % 7).toNat ++ [98]) (d := 48 + k) (r := []) hc l3, hc]
 rw [afD, afD, ym _ Qd, afc, afc, l2, l3]
 have hf : isLt ((Fi.cps.toList.take (c / 7 % 7).toNat ++ [98] ++ [48 + k]).getD 0 0) = true := by
   generalize (c / 7 % 7).toNat = n
   cases n with
   | zero => rfl
   | succ n =>
     have e : Fi.cps.toList = 113 :: Fi.cps.toList.tail := by decide +kernel
     rw [e]
     rfl
 rw [hf]
 rfl
theorem Qe (s : List Int) (c : Int) : ((DV s c).map (·.1)).Nodup := by
 have hm := Mt c
 unfold DV
 rw [aeN]
 refine List.pairwise_map.mpr (afM (fun {a b} ha hb hab e => ?_) List.pairwise_lt_range)
 have ha := aeR.mp ha
 have hb := aeR.mp hb
 have e : (Mu s c a).1.cps.toList = (Mu s c b).1.cps.toList := congrArg (fun x : Str => x.cps.toList) e
 rw [Bk s c (by omega), Bk s c (by omega)] at e
 have e := List.append_cancel_left e
 simp at e
 omega
structure Drawn (bs : List (Str × Int)) (nm ks : List Str) (es ss : List Int) (is os : List (List vH)) (ws : List Hz) : Prop where
 tr : Jv ks es ss /\ nm.length = es.length /\ es.length <= 400
 Zg : (∀ x ∈ nm, x.length <= 12 /\ fW x = true) /\ nm.Nodup
 Wa : (∀ q ∈ bs, (q.1.length <= 12 /\ fW q.1 = true) /\ R7 q.2 = true) /\ (bs.map (·.1)).Nodup /\ bs.length <= 1000
 dds : is.length = nm.length /\ os.length = nm.length /\ ws.length <= 100 /\ (∀ l ∈ is ++ os ++ ws.map (·.dl), ∀ q ∈ l, R8 q /\ LZ bs.length q = true)
 wys : ∀ w ∈ ws, w.Ok nm.length bs.length
 srt : ws.Pairwise (fun a c => a.src <= c.src)
theorem HZ {s : List Int} {n : Nat} {nm : List Str} {y m : Nat} (hn : ∀ x ∈ nm, x.length <= 12 /\ fW x = true) (hm : m <= nm.length) {l : List vH} (hl : l ∈ gG s n nm y m) : ∀ q ∈ l, R8 q /\ LZ n q = true := by
 obtain ⟨k, hk, rfl⟩ := aeu.mp hl
 have hk := aeR.mp hk
 intro q hq
 obtain ⟨j, _, rfl⟩ := aeu.mp hq
 refine HY _ n (hn _ ?_)
 rw [aeg, aeo (by omega)]
 exact afe _
theorem Mw (s : List Int) (c d : Int) : Drawn (DV s c) (cX d (nQ c)) (nW s (rO s (nQ c - 1)) (nQ c)) (rO s (nQ c - 1)) (nX s (rO s (nQ c - 1)) (nQ c)) (gG s (Es c) (cX d (nQ c)) 1 (nQ c)) (gG s (Es c) (cX d (nQ c)) 3 (nQ c)) (vX s (cX d (nQ c)) (sJ s c (nQ c)) (Es c) (nQ c) (sJ s c (nQ c)).length) := by
 obtain ⟨_, m1, m2⟩ := Se c
 obtain ⟨_, n2⟩ := Mt c
 have hbl : (DV s c).length = Es c := by unfold DV; rw [aea, aeW]
 obtain ⟨e1, e2, e3⟩ := A8 s (nQ c - 1)
 generalize nQ c = m at m1 m2 e1 e2 e3 ⊢
 have e1 : (rO s (m - 1)).length = m := by omega
 generalize rO s (m - 1) = es at e1 e2 e3 ⊢
 subst e1
 have Qf := qM d es.length
 have Jc : ∀ x ∈ cX d es.length, x.length <= 12 /\ fW x = true := fun x hx => E5 hx
 have Y0 := JA d (n := es.length) (by omega)
 generalize cX d es.length = nm at Qf Jc Y0 ⊢
 have XR : ∀ x ∈ sJ s c es.length, 0 <= x /\ x < es.length := fun x hx => by
   obtain ⟨k, _, rfl⟩ := aeu.mp (Ac.mp hx)
   exact ⟨aeU _ (by omega), aeJ _ (by omega)⟩
 have hsl : (sJ s c es.length).length <= 6 := by
   unfold sJ
   rw [uH, aea, aeW]
   omega
 have hss : (sJ s c es.length).Pairwise (· <= ·) := mO _
 generalize sJ s c es.length = sr at XR hsl hss ⊢
 have Sf : ∀ k, k < sr.length -> 0 <= sr.getD k 0 /\ sr.getD k 0 < es.length := fun k hk => by
   rw [aeg, aeo hk]
   exact XR _ (afe _)
 have hwy : ∀ w ∈ vX s nm sr (Es c) es.length sr.length, w.Ok es.length (Es c) /\ ∀ q ∈ w.dl, R8 q /\ LZ (Es c) q = true := fun w hw => by
   obtain ⟨k, hk, rfl⟩ := aeu.mp hw
   have hk := aeR.mp hk
   obtain ⟨a0, a1⟩ := Sf k hk
   refine P9 _ _ _ _ m1 ?_ (Jc _ ?_)
   . unfold xj
     rw [aej a0, aej a1]
     rfl
   . rw [aeg, aeo (by omega)]
     exact afe _
 refine ⟨⟨Jv.drawn e2 m1 (by omega) e3, Qf, by omega⟩, ⟨Jc, Y0⟩, ⟨fun q hq => ?_, Qe s c, by omega⟩, ⟨?_, ?_, ?_, fun l hl => ?_⟩, fun w hw => ?_, ?_⟩
 . obtain ⟨k, hk, rfl⟩ := aeu.mp hq
   have hk := aeR.mp hk
   exact ⟨Vb s c (by omega), Mv _⟩
 . unfold gG; rw [aea, aeW, Qf]
 . unfold gG; rw [aea, aeW, Qf]
 . unfold vX; rw [aea, aeW]; omega
 . rw [hbl]
   rcases aen.mp hl with hl | hl
   . rcases aen.mp hl with hl | hl
     . exact HZ Jc (by omega) hl
     . exact HZ Jc (by omega) hl
   . obtain ⟨w, hw, rfl⟩ := aeu.mp hl
     exact (hwy w hw).2
 . rw [hbl, Qf]
   exact (hwy w hw).1
 . refine List.pairwise_map.mpr (afM (fun {a b} ha hb hab => ?_) List.pairwise_lt_range)
   have ha := aeR.mp ha
   have hb := aeR.mp hb
   show sr.getD a 0 <= sr.getD b 0
   rw [aeg, aeg, aeo ha, aeo hb]
   exact List.pairwise_iff_getElem.mp hss a b ha hb hab
noncomputable def jK (bs : List (Str × Int)) (nm ks : List Str) (es ss : List Int) (is os : List (List vH)) (ws : List Hz) : List (List L3.D) := [bs.map Ag, nm.map .str, ks.map .str, es.map .int, ss.map .int, is.map ux, os.map ux, ws.map uw]
noncomputable def Bl (s : List Int) (c d : Int) : List (List L3.D) := jK (DV s c) (cX d (nQ c)) (nW s (rO s (nQ c - 1)) (nQ c)) (rO s (nQ c - 1)) (nX s (rO s (nQ c - 1)) (nQ c)) (gG s (Es c) (cX d (nQ c)) 1 (nQ c)) (gG s (Es c) (cX d (nQ c)) 3 (nQ c)) (vX s (cX d (nQ c)) (sJ s c (nQ c)) (Es c) (nQ c) (sJ s c (nQ c)).length)
theorem Ic (w : Hz) : D.nM (uw w) = true := by
 have e1 := bY (f := DH) (fun q => by cases q <;> rfl) w.al
 have e2 := bY (f := lQ) (fun q => by cases q <;> rfl) w.dl
 unfold uw
 simp [D.nM, D.bZ, e1, e2]
theorem Qg {α : Type} {l : List α} {k : Nat} (h : l.length <= k) : cutD l none (some (k : Int)) = l := by
 unfold cutD
 have e1 : HT.zK l.length 0 none = 0 := rfl
 have e2 : HT.zK l.length l.length (some (k : Int)) = l.length := by
   unfold HT.zK
   simp
   split <;> omega
 rw [e1, e2]
 simp
noncomputable abbrev xE : Stmt := top 56
noncomputable abbrev Bm : Type := List Int
noncomputable def pY : Bm -> List L3.D := fun s => [.lst (s.map .int)]
noncomputable def pZ : Bm -> Prop := fun s => s.length <= 100
noncomputable def qa : Bm -> T := fun s => (.sh (.lst ((Bl s (U8 s) (bE s 1 % 10 ^ (9 : Int).toNat)).map .lst)) : T)
structure Qh (X : Cx) (CL : Str -> Addr) : Prop extends cj X where
 aY : Ln X 0 "script"
 DW : X.env.kindOf "script" = some .cell
 mV : Ln X 1 "shape"
 gR : Ln X 2 "moods"
 Qi : X.env.kindOf "moods" = some .cell
 bQ : Ln X 3 "elders"
 Fj : Ln X 4 "both"
 bX : Ln X 5 "names"
 bz : Ln X 6 "many"
 Ie : Ln X 7 "ahead"
 Qj : X.env.kindOf "ahead" = some .cell
 mP : Ln X 8 "k"
 mW : Ln X 9 "boxes"
 Ig : Ln X 10 "ins"
 Bo : Ln X 11 "outs"
 qb : Ln X 12 "sources"
 yr : Ln X 13 "ways"
 aZ : Gl X "_law_cell_at"
 zS : Gl X "_law_elders"
 Bp : Gl X "_law_kinds"
 Bq : Gl X "_law_names"
 cA : Gl X "range"
 vJ : Gl X "_law_rows"
 Mx : Gl X "sorted"
 cW : Gl X "len"
 Fl : Gl X "_law_way"
 b4 : Fc X CL "_law_cell_at" 1 2 eO eS eU
 My : Fc X CL "_law_elders" 2 2 mR kM mS
 Qk : Fc X CL "_law_kinds" 2 2 pR pS pT
 Ql : Fc X CL "_law_names" 1 2 pV lY pW
 cB : X.mg "range" = none
 Mz : Fc X CL "_law_rows" 4 4 sF lZ sG
 MA : X.mg "sorted" = none
 cS : X.mg "len" = none
 XS : Fc X CL "_law_way" 4 6 xB sI xC
 Mb : X.mg "str" = none
 Ml : Fc X CL "_law_far" 1 1 sy sA sC
theorem Qm {X : Cx} {CL : Str -> Addr} {b : Bx} (E : Qh X CL) (s) (h : pZ s) :
   aA X CL b xE ["script", "shape", "moods", "elders", "both", "names", "many", "ahead", "k", "boxes", "ins", "outs", "sources", "ways"] (pY s) (qa s) := by
 dsimp only [aA, pZ, pY, qa] at h ⊢
 have hs : s.length <= 100 := h
 have hsl : (s.map L3.D.int).length <= 120 := by rw [aea]; omega
 refine aV E.g E.aY (Hq (aC (Lh (h := some 120) (aG E.aY) (jE _) wZ (w4 (ai ak))) (by rw [show (120 : Int) = ((120 : Nat) : Int) from rfl, Qg hsl]))) ?_
 refine aV E.g E.mV (aC (bF (ai (c_ ((s, 0)) E.b4 E.aZ (aj (aG E.aY) (aj (ai ak) aF)) (show (0 : Int) <= 0 by omega) rfl)) (ai (iF (ai ak) (ai ak) ⟨by decide, by decide, by decide⟩)) (by decide)) (t2 := .sh (.int (U8 s))) rfl) ?_
 have c0 : 0 <= U8 s := aeU _ (by decide +kernel)
 have c1 : U8 s < 1000000000 := aeJ _ (by decide +kernel)
 generalize U8 s = c at c0 c1 ⊢
 obtain ⟨m0, m1, m2⟩ := Se c
 obtain ⟨n0, n1⟩ := Mt c
 refine aV E.g E.gR (fu (ai ak) (ai (bF (aG E.mV) (ai ak) (by decide)))) ?_
 refine RX (fun δ => δ = [some (.sh (.lst (s.map .int))), some (.sh (.int c)), some (.sh (.int (nQ c : Nat))), none, none, none, none, none, none, none, none, none, none, none]) (kH (ai (bF (ai (bW (aG E.mV) (ai ak) ⟨by decide, by decide⟩)) (ai ak) (by decide))) (ai ak)).1 (fun hp => ?_) (fun hp => ?_) ?_
 . refine aV E.g E.gR (aC (fu (ai ak) (ai (bF (ai (bW (aG E.mV) (ai ak) ⟨by decide, by decide⟩)) (ai ak) (by decide)))) (t2 := .sh (.int (nQ c : Nat))) ?_) (az rfl)
   rw [m0]; unfold U9; rw [aer (aez hp)]
 . refine az ?_
   rw [m0]; unfold U9; rw [aeq (ae3 hp)]
   rfl
 rintro δ rfl
 obtain ⟨el1, _, _⟩ := A8 s (nQ c - 1)
 unfold Bl
 generalize nQ c = m at m0 m1 m2 el1 ⊢
 have hel : (rO s (m - 1)).length = m := by omega
 refine aV E.g E.bQ (aC (c_ ((s, m)) E.My E.zS (aj (aG E.aY) (aj (aG E.gR) aF)) (by dsimp only [kM]; exact (⟨m1, by omega⟩)) (gY _)) (t2 := .lst (((rO s (m - 1)).map .int).map T.sh)) rfl) ?_
 generalize rO s (m - 1) = es at hel ⊢
 refine aV E.g E.Fj (AV (aC (c_ (s, es) E.Qk E.Bp (aj (aG E.aY) (aj (vL E.bQ.1) aF)) (show es.length <= 900 by omega) (by show T.gJ [T.lst _, T.lst _] = true; rw [T.gJ, T.gJ, T.gJ, qH, gY]; rfl)) (t2 := .tup [.lst (((nW s es m).map .str).map T.sh), .lst (((nX s es m).map .int).map T.sh)]) (by rw [← hel]; rfl)) (d := .tup [.lst ((nW s es m).map .str), .lst ((nX s es m).map .int)]) (by rw [T.fh, T.fM, T.fM, T.fM, c9, c9])) ?_
 generalize nW s es m = ks
 generalize nX s es m = ss
 have d0 : 0 <= bE s 1 % 10 ^ (9 : Int).toNat := aeU _ (by decide +kernel)
 have d1 : bE s 1 % 10 ^ (9 : Int).toNat < 1000000000 := aeJ _ (by decide +kernel)
 refine aV E.g E.bX (aC (c_ (bE s 1 % 10 ^ (9 : Int).toNat, m) E.Ql E.Bq (aj (ai (bF (ai (c_ ((s, 1)) E.b4 E.aZ (aj (aG E.aY) (aj (ai ak) aF)) (show (0 : Int) <= 1 by omega) rfl)) (ai (iF (ai ak) (ai ak) ⟨by decide, by decide, by decide⟩)) (by decide))) (aj (aG E.gR) aF)) (by dsimp only [lY]; exact ⟨d0, d1, by omega⟩) (qH _)) (t2 := .lst (((cX (bE s 1 % 10 ^ (9 : Int).toNat) m).map .str).map T.sh)) rfl) ?_
 have Qf := qM (bE s 1 % 10 ^ (9 : Int).toNat) m
 generalize cX (bE s 1 % 10 ^ (9 : Int).toNat) m = nm at Qf ⊢
 refine aV E.g E.bz (aC (bF (ai (bW (aG E.mV) (ai ak) ⟨by decide, by decide⟩)) (ai ak) (by decide)) (t2 := .sh (.int (Es c : Nat))) (by rw [n0])) ?_
 have ha7 : Fi.length <= sizeLine := by rw [afh]; decide +kernel
 have hal := afH Fi none (some (c / 7 % 7))
 have ha6 : Fi.length = 6 := by decide +kernel
 refine aV E.g E.Ie (aC (uI (ai (aC cN (t2 := .sh (.str Fi)) rfl)) ha7 wZ (w4 (ai (bF (ai (bW (aG E.mV) (ai ak) ⟨by decide, by decide⟩)) (ai ak) (by decide))))) (t2 := .sh (.str (Va c))) rfl) ?_
 have hak : (Va c).length <= 6 := by unfold Va; omega
 unfold DV Mu
 generalize Va c = ah at hak ⊢
 generalize Es c = n at n0 n1 ⊢
 refine A2 (p := fun _ => true) (gg := fun d => T.sh (Ag ((ah ++ ("b" : Str)) ++ sq (d.Ep.toNat : Int), mU (bE s (2 + (d.Ep.toNat : Int)))))) E.g E.mW (fU (.cons E.Ie.1 (.inl E.Qj) (.cons E.aY.1 (.inl E.DW) .nil)) (by decide +kernel)) (fS E.cB (aG E.bz) (by omega) E.cA) (.inr rfl) (fun C s0 H0 f0 b' d hd => ?Jz) (ae2 (cz (by simp [bP]; omega))) ?rest (by exact aec rfl) (rX ⟨_, rfl⟩)
 case Jz =>
   obtain ⟨i, hi, rfl⟩ := aeu.mp hd
   have hi2 : i < n := by simpa using hi
   obtain ⟨sl, sg⟩ := DL i (by omega)
   have ei : (0 + (i : Int)) = (i : Int) := afb _
   have et : (L3.D.int (0 + (i : Int))).Ep.toNat = i := by show (0 + (i : Int)).toNat = i; omega
   have sl2 : (toString (i : Int) : Str).length = 1 := sl
   refine ⟨rfl, fun _ => aC (j7 (aR (xP (ai (xP (ai (v_ (kK (i := 1) rfl (by decide +kernel)))) (ai cN) ((by rw [afh]; show ah.length + 1 <= _; omega)))) (ai (Hj E.Mb (j8 (by decide +kernel)) (ai (v_ (jJ (i := 0) rfl (by decide +kernel)))) ((by rw [ei]; exact sg)))) ((by rw [ei, str_len, sl2, afh]; show ah.length + 1 + 1 <= _; omega))) (aR (c_ (bE s (2 + (0 + (i : Int)))) (rY E.Ml) (j8 (by decide +kernel)) (aj (ai (c_ ((s, 2 + (0 + (i : Int)))) (rY E.b4) (j8 (by decide +kernel)) (aj (ai (v_ (kK (i := 2) rfl (by decide +kernel)))) (aj (ai (fu (ai ak) (ai (v_ (jJ (i := 0) rfl (by decide +kernel)))))) aF)) (show (0 : Int) <= 2 + (0 + (i : Int)) by omega) rfl)) aF) (trivial) rfl) jl)) (aW rfl)) ?_⟩
   show T.sh _ = T.sh (Ag ((ah ++ ("b" : Str)) ++ sq ((L3.D.int (0 + (i : Int))).Ep.toNat : Int), mU (bE s (2 + ((L3.D.int (0 + (i : Int))).Ep.toNat : Int)))))
   rw [et, ei]
   rfl
 case rest =>
 have em : ((bP 0 (n : Int).toNat).filter fun _ => true).map (fun d => T.sh (Ag ((ah ++ ("b" : Str)) ++ sq (d.Ep.toNat : Int), mU (bE s (2 + (d.Ep.toNat : Int)))))) = (((List.range n).map fun k : Nat => ((ah ++ ("b" : Str)) ++ sq (k : Int), mU (bE s (2 + (k : Int))))).map Ag).map T.sh := by
   rw [iz]
   unfold bP
   rw [aeN, aeN, aeN, ae1]
   refine afw fun k _ => ?_
   show T.sh (Ag ((ah ++ ("b" : Str)) ++ sq ((0 + (k : Int)).toNat : Int), mU (bE s (2 + ((0 + (k : Int)).toNat : Int))))) = _
   rw [show (0 + (k : Int)).toNat = k by omega]
   rfl
 rw [em]
 generalize ((List.range n).map fun k : Nat => ((ah ++ ("b" : Str)) ++ sq (k : Int), mU (bE s (2 + (k : Int))))) = bs
 have cdl : ∀ l : List (List vH), (T.lst ((l.map ux).map T.sh)).clean = true := fun l => jm (bY (f := ux) (fun q => show D.bZ (q.map lQ) = true from bY (fun q => by cases q <;> rfl) _) l)
 refine aV E.g E.Ig (aC (c_ (s, n, nm, 1) E.Mz E.vJ (aj (aG E.aY) (aj (aG E.bz) (aj (vL E.bX.1) (aj (ai ak) aF)))) (by dsimp only [lZ]; exact ⟨by omega, by omega, by omega, by omega⟩) (cdl _)) (t2 := .lst (((gG s n nm 1 m).map ux).map T.sh)) (by rw [← Qf]; rfl)) ?_
 refine aV E.g E.Bo (aC (c_ (s, n, nm, 3) E.Mz E.vJ (aj (aG E.aY) (aj (aG E.bz) (aj (vL E.bX.1) (aj (ai ak) aF)))) (by dsimp only [lZ]; exact ⟨by omega, by omega, by omega, by omega⟩) (cdl _)) (t2 := .lst (((gG s n nm 3 m).map ux).map T.sh)) (by rw [← Qf]; rfl)) ?_
 generalize gG s n nm 1 m = is
 generalize gG s n nm 3 m = os
 have q0 := aeU (c / 15) (b := 7) (by decide)
 have q1 := aeJ (c / 15) (b := 7) (by decide)
 refine aV E.g E.qb (aC (EX (l := (List.range (c / 15 % 7).toNat).map (V9 s m)) E.MA (fz (aC (w9 (p := fun _ => true) (g := fun d => T.sh (.int (V9 s m d.Ep.toNat))) (fU (.cons E.gR.1 (.inl E.Qi) (.cons E.aY.1 (.inl E.DW) .nil)) (by decide +kernel)) E.g.calm (fS E.cB (ai (bF (ai (bW (aG E.mV) (ai ak) ⟨by decide, by decide⟩)) (ai ak) (by decide))) ((show -(2 ^ 62) <= c / 15 % 7 /\ c / 15 % 7 < 2 ^ 62 by omega)) E.cA) (.inr rfl) (fun C s0 H0 f0 b' d hd => ?aa6) (ae2 (cz (by simp [bP]; omega)))) ?U5)) (by rw [aea, aeW]; omega) E.Mx) (t2 := .lst (((sJ s c m).map .int).map T.sh)) rfl) ?_
 case aa6 =>
   obtain ⟨i, hi, rfl⟩ := aeu.mp hd
   have et : (L3.D.int (0 + (i : Int))).Ep.toNat = i := by show (0 + (i : Int)).toNat = i; omega
   refine ⟨rfl, fun _ => aC (bF (ai (bW (ai (c_ ((s, 20 + 4 * (0 + (i : Int)))) (rY E.b4) (j8 (by decide +kernel)) (aj (ai (v_ (kK (i := 2) rfl (by decide +kernel)))) (aj (ai (fu (ai ak) (ai (EK (ai ak) (ai (v_ (jJ (i := 0) rfl (by decide +kernel)))) (.inl ⟨by decide, by decide⟩))))) aF)) (show (0 : Int) <= 20 + 4 * (0 + (i : Int)) by omega) rfl)) (ai ak) ⟨by decide, by decide⟩)) (ai (v_ (kK (i := 1) rfl (by decide +kernel)))) (by omega)) ?_⟩
   show T.sh _ = T.sh (.int (V9 s m (L3.D.int (0 + (i : Int))).Ep.toNat))
   rw [et]
   unfold V9
   rw [afb]
 case U5 =>
   rw [iz]
   unfold bP
   rw [aeN, aeN, aeN]
   congr 1
   refine afw fun k _ => ?_
   show T.sh (.int (V9 s m (0 + (k : Int)).toNat)) = _
   rw [show (0 + (k : Int)).toNat = k by omega]
   rfl
 have XR : ∀ x ∈ sJ s c m, 0 <= x /\ x < m := fun x hx => by
   obtain ⟨k, _, rfl⟩ := aeu.mp (Ac.mp hx)
   exact ⟨aeU _ (by omega), aeJ _ (by omega)⟩
 have aa7 : (sJ s c m).length <= 6 := by
   unfold sJ
   rw [uH, aea, aeW]
   omega
 generalize sJ s c m = sr at XR aa7 ⊢
 refine aV E.g E.yr (dh eG (aey _)) ?_
 refine jD E.g E.mP (fun j δ => ∃ o8, δ = [some (.sh (.lst (s.map .int))), some (.sh (.int c)), some (.sh (.int m)), some (.lst ((es.map .int).map T.sh)), some (.sh (.tup [.lst (ks.map .str), .lst (ss.map .int)])), some (.lst ((nm.map .str).map T.sh)), some (.sh (.int n)), some (.sh (.str ah)), o8, some (.lst ((bs.map Ag).map T.sh)), some (.lst ((is.map ux).map T.sh)), some (.lst ((os.map ux).map T.sh)), some (.lst ((sr.map .int).map T.sh)), some (.lst (((vX s nm sr n m j).map uw).map T.sh))])
   (fS E.cB (ai (c6 (aea ..) E.cS (vL E.qb.1) E.cW)) (by omega) E.cA) ⟨_, rfl⟩ (fun j δ ⟨_, e⟩ => by subst e; exact aec rfl) ?turn ?fin
 case turn =>
   rintro j d δ hj ⟨o8, rfl⟩
   obtain ⟨rfl, xm⟩ := iH hj
   rw [afb]
   have Xz : j < sr.length := by simpa using xm
   obtain ⟨x0, x1⟩ : 0 <= sr.getD j 0 /\ sr.getD j 0 < m := XR _ (by
     rw [aeg, aeo Xz]
     exact afe _)
   have Sf : zL (sr.map L3.D.int) (j : Int) = some (.int (sr.getD j 0)) := (jk (by omega) (by omega)).trans (by rw [ae1])
   have lw : (vX s nm sr n m j).length = j := by unfold vX; rw [aea, aeW]
   refine nP E.yr.1 rfl (aC (c_ (s, 21 + 4 * (j : Int), sr.getD j 0, n, m, nm.getD (sr.getD j 0).toNat Str.empty) E.XS E.Fl (aj (aG E.aY) (aj (ai (fu (ai ak) (ai (EK (ai ak) (aG E.mP) (.inl ⟨by decide, by decide⟩))))) (aj (bG (vL E.qb.1) (aG E.mP) (Sf)) (aj (aG E.bz) (aj (aG E.gR) (aj (bG (vL E.bX.1) (bG (vL E.qb.1) (aG E.mP) (Sf)) (qF Str.empty x0 (by omega))) aF)))))) (by dsimp only [sI]; exact ⟨by omega, by omega, by omega, by omega⟩) (Ic _)) (t2 := .sh (uw (wyK s nm sr n m j))) rfl) rfl (by rw [List.length_map, List.length_map]; omega) (az ?_)
   have e : ((vX s nm sr n m j).map uw).map T.sh ++ [T.sh (uw (wyK s nm sr n m j))] = ((vX s nm sr n m (j + 1)).map uw).map T.sh := by
     unfold vX
     simp [afp]
   rw [e]
   exact ⟨_, rfl⟩
 case fin =>
   rintro δ ⟨o8, rfl⟩
   rw [show (bP 0 (sr.length : Int).toNat).length = sr.length by simp [bP]]
   generalize vX s nm sr n m sr.length = ws
   refine bM (AV (dh (c5 (vM E.mW.1) (c5 (vM E.bX.1) (c5 (K8 (v_ E.Fj.1) (ai ak) (aP (j := 0) rfl)) (c5 (vM E.bQ.1) (c5 (K8 (v_ E.Fj.1) (ai ak) (aP (j := 1) rfl)) (c5 (vM E.Ig.1) (c5 (vM E.Bo.1) (c5 (vM E.yr.1) eG)))))))) (aW rfl)) ?_) rfl
   rw [T.fh, T.fM, T.fM, T.fM, T.fM, T.fM, T.fM, T.fM, T.fM, T.fM, c9, c9, c9, c9, c9, c9, T.fh, T.fh]
   rfl
theorem bf : mD (aq xE) ([("script", .cell), ("shape", ay), ("moods", .cell), ("elders", ay), ("both", ay), ("names", ay), ("many", ay), ("ahead", .cell), ("k", ay), ("boxes", ay), ("ins", ay), ("outs", ay), ("sources", ay), ("ways", ay), ("_law_cell_at", av), ("_law_elders", av), ("_law_kinds", av), ("_law_names", av), ("range", av), ("_law_rows", av), ("sorted", av), ("len", av), ("_law_way", av)]) = true := by decide +kernel
theorem DX : aK ["script", "shape", "moods", "elders", "both", "names", "many", "ahead", "k", "boxes", "ins", "outs", "sources", "ways"] ["script"] (aq xE) := aT
noncomputable abbrev xF : Stmt := top 22
noncomputable abbrev Br : Type := List Str × List Int × List Int × Int
noncomputable def l0 : Br -> List L3.D := fun (ks, es, ss, m) => [jj ks es ss, .int m]
noncomputable def kE : Br -> Prop := fun (ks, es, ss, m) => qG es /\ 0 <= m /\ m < es.length /\ es.length <= 1000
noncomputable def mh : Br -> T := fun (ks, es, ss, m) => (.lst (((lP es m).map .int).map T.sh) : T)
structure Qn (X : Cx) (CL : Str -> Addr) : Prop extends cj X where
 bA : Ln X 0 "tree"
 fZ : Ln X 1 "mood"
 jy : Ln X 2 "found"
 lz : Ln X 3 "elder"
 bU : rQ X.K (CL "Tree")
 aM : aH X.K (CL "Tree") "elders"
theorem Qo {X : Cx} {CL : Str -> Addr} {b : Bx} (E : Qn X CL) (ks es ss m) (h : kE (ks, es, ss, m)) :
   aA X CL b xF ["tree", "mood", "found", "elder"] (l0 (ks, es, ss, m)) (mh (ks, es, ss, m)) := by
 dsimp only [aA, kE, l0, mh] at h ⊢
 obtain ⟨ht, h0, h1, hlen⟩ := h
 refine aV E.g E.jy (dh eG (aey _)) ?_
 refine aV E.g E.lz (dg (bG (cg E.bU E.aM (aG E.bA) cR) (aG E.fZ) (jk h0 h1)) rfl) ?_
 have hm := ht.at h0 h1
 refine Hi E.g (fun n δ => ∃ (k : Int) (l : List Int), δ = [some (.sh (jj ks es ss)), some (.sh (.int m)), some (.lst ((l.map .int).map T.sh)), some (.sh (.int k))] /\ -1 <= k /\ k < n /\ k < es.length /\ l ++ xg n es k = lP es m /\ l.length + n <= es.length + 1) (es.length + 1)
   ⟨es.getD m.toNat 0, [], rfl, hm.1, by omega, by omega, rfl, by simp⟩ ?_
 rintro n δ ⟨k, l, rfl, k0, k1, k2, k3, k4⟩
 refine ⟨_, _, (lF (aG E.lz) (ai (kJ (ai ak)))).1, fun hp => ?_, fun hp => ?_⟩
 . have hk : ¬ k = -1 := by simpa using hp
   have ha := ht.at (k := k) (by omega) k2
   cases n with
   | zero => omega
   | succ n =>
     refine nP E.jy.1 rfl (v_ E.lz.1) rfl (by simp; omega) ?_
     refine aV E.g E.lz (dg (bG (cg E.bU E.aM (aG E.bA) cR) (aG E.lz) (jk (by omega) k2)) rfl) ?_
     refine az ⟨n, afI _, es.getD k.toNat 0, l ++ [k], ?_, ha.1, by omega, by omega, ?_, by simp; omega⟩
     . show [_, _, some (T.lst (((l.map D.int).map T.sh) ++ [T.sh (.int k)])), _] = _
       simp
     . rw [← k3, xg, aeq hk, aed]
       rfl
 . have hk : k = -1 := by simpa using hp
   subst hk
   have e : l = lP es m := by
     rw [← k3]
     cases n with
     | zero => rw [xg, aeY]
     | succ n => rw [xg, aer rfl, aeY]
   subst e
   exact bM (vM E.jy.1) rfl
theorem sL : mD (aq xF) ([("tree", ay), ("mood", ay), ("found", ay), ("elder", ay)]) = true := by decide +kernel
theorem DY : aK ["tree", "mood", "found", "elder"] ["tree", "mood"] (aq xF) := aT
noncomputable abbrev xG : Stmt := top 23
noncomputable abbrev Bs : Type := List Str × List Int × List Int × Int
noncomputable def qc : Bs -> List L3.D := fun (ks, es, ss, m) => [jj ks es ss, .int m]
noncomputable def mj : Bs -> Prop := fun (ks, es, ss, m) => qG es /\ 0 <= m /\ m < es.length /\ es.length <= 1000
noncomputable def qd : Bs -> T := fun (ks, es, ss, m) => (.sh (.int ((lP es m).length : Nat)) : T)
structure Qp (X : Cx) (CL : Str -> Addr) : Prop extends cj X where
 bA : Ln X 0 "tree"
 fZ : Ln X 1 "mood"
 cW : Gl X "len"
 sM : Gl X "above"
 cS : X.mg "len" = none
 Bt : Fc X CL "above" 1 2 l0 kE mh
theorem Qq {X : Cx} {CL : Str -> Addr} {b : Bx} (E : Qp X CL) (ks es ss m) (h : mj (ks, es, ss, m)) :
   aA X CL b xG ["tree", "mood"] (qc (ks, es, ss, m)) (qd (ks, es, ss, m)) := by
 dsimp only [aA, mj, qc, qd] at h ⊢
 have hl : ((lP es m).map L3.D.int).length = (lP es m).length := by simp
 exact bM (c6 hl E.cS (fz (c_ (ks, es, ss, m) E.Bt E.sM (aj (aG E.bA) (aj (aG E.fZ) aF)) h (by show (T.lst _).clean = true; rw [lT]; exact vz _))) E.cW) rfl
theorem sN : mD (aq xG) ([("tree", ay), ("mood", ay), ("len", av), ("above", av)]) = true := by decide +kernel
theorem DZ : aK ["tree", "mood"] ["tree", "mood"] (aq xG) := aT
noncomputable abbrev eX : Stmt := top 31
noncomputable abbrev gZ : Type := List Str × List Int × List Int
noncomputable def dD : gZ -> List L3.D := fun (ks, es, ss) => [jj ks es ss]
noncomputable def ck : gZ -> Prop := fun (ks, es, ss) => lV es /\ 1 <= es.length /\ es.length <= 900 /\ ∀ m : Int, 0 <= m -> m < es.length -> (lP es m).length <= 12
noncomputable def dF : gZ -> T := fun (ks, es, ss) => (.sh (.bl true) : T)
structure qO (X : Cx) (CL : Str -> Addr) : Prop extends cj X where
 bA : Ln X 0 "tree"
 fZ : Ln X 1 "mood"
 MB : Ln X 2 "line"
 cA : Gl X "range"
 cW : Gl X "len"
 sM : Gl X "above"
 Bu : Gl X "depth"
 JC : Gl X "DEEPEST"
 cB : X.mg "range" = none
 cS : X.mg "len" = none
 Bt : Fc X CL "above" 1 2 l0 kE mh
 Qs : Fc X CL "depth" 2 2 qc mj qd
 JD : ∃ u, X.mg "DEEPEST" = some (.int 12 u)
 bU : rQ X.K (CL "Tree")
 aM : aH X.K (CL "Tree") "elders"
theorem qP {X : Cx} {CL : Str -> Addr} {b : Bx} (E : qO X CL) (ks es ss) (h : ck (ks, es, ss)) :
   aA X CL b eX ["tree", "mood", "line"] (dD (ks, es, ss)) (dF (ks, es, ss)) := by
 dsimp only [aA, ck, dD, dF] at h ⊢
 obtain ⟨hp, h1, h2, h3⟩ := h
 have ht := hp.1
 have e0 : es.getD (0 : Int).toNat 0 = -1 := by
   have := ht.at (k := 0) (by omega) (by omega)
   omega
 refine dW (lF (i := -1) (bG (cg E.bU E.aM (aG E.bA) cR) (ai ak) ((jk (by omega) (by omega)).trans (by rw [e0]))) (ai (kJ (ai ak)))).1 (fun hq => absurd hq (by decide)) (fun _ => az ?_)
 refine jD E.g E.fZ (fun j δ => ∃ o1 o2, δ = [some (.sh (jj ks es ss)), o1, o2])
   (z8 E.cB (ai ak) (ai (c6 (aea ..) E.cS (cg E.bU E.aM (aG E.bA) cR) E.cW)) (by omega) E.cA) ⟨_, _, rfl⟩ (fun j δ ⟨_, _, e⟩ => by subst e; exact aec rfl) ?turn ?fin
 case turn =>
   rintro j d δ hj ⟨o1, o2, rfl⟩
   obtain ⟨rfl, xm⟩ := iH hj
   have xm : j + 1 < es.length := by simp at xm; omega
   have hcl : (lP es (j : Int)).length <= 12 := h3 j (by omega) (by omega)
   have ej : (1 + (j : Int)) - 1 = (j : Int) := by omega
   refine aV E.g E.MB (aC (w6 (ds := [.int (j : Int)]) (Jd := (lP es (j : Int)).map .int) (fz (ds := [.int (j : Int)]) (aC (dh (c5 (gX (aG E.fZ) (ai ak)) eG) (aW rfl)) (by rw [ej]; rfl))) (fz (aC (c_ (ks, es, ss, (j : Int)) E.Bt E.sM (aj (aG E.bA) (aj (Lr (ai (gX (aG E.fZ) (ai ak))) (congrArg L3.D.int ej)) aF)) (by dsimp only [kE]; exact ⟨ht, by omega, by omega, by omega⟩) (gY _)) rfl)) rfl (jE _) (Nat.le_of_lt (cz (by simp; omega)))) (t2 := .lst ((((j : Int) :: lP es (j : Int)).map .int).map T.sh)) rfl) ?_
   have hm : es.getD (1 + (j : Int)).toNat 0 ∈ (j : Int) :: lP es (j : Int) := by
     have := hp.2 j xm
     rw [show (1 + (j : Int)).toNat = j + 1 by omega]
     rcases this with z | z
     . rw [z]; exact aef
     . exact aeh _ z
   refine dW (vV (kI (Ph (i := es.getD (1 + (j : Int)).toNat 0) (bG (cg E.bU E.aM (aG E.bA) cR) (aG E.fZ) (jk (by omega) (by omega))) (vL E.MB.1) rfl rfl).1 (fun _ => lG (K2 (ai (aC (c_ (ks, es, ss, 1 + (j : Int)) E.Qs E.Bu (aj (aG E.bA) (aj (aG E.fZ) aF)) (by dsimp only [mj]; exact ⟨ht, by omega, by omega, by omega⟩) rfl) (t2 := .sh (.int ((lP es (1 + (j : Int))).length : Nat))) rfl)) (ai (gM E.JD E.JC))).1))) (fun hq => ?_) (fun _ => az (az ⟨_, _, rfl⟩))
   have h12 := h3 (1 + (j : Int)) (by omega) (by omega)
   rw [aej hm, aeA (by omega)] at hq
   exact absurd hq (by decide)
 case fin =>
   rintro δ ⟨o1, o2, rfl⟩
   exact bM nO rfl
theorem bw : mD (aq eX) ([("tree", ay), ("mood", ay), ("line", ay), ("range", av), ("len", av), ("above", av), ("depth", av), ("DEEPEST", av)]) = true := by decide +kernel
theorem j3 : aK ["tree", "mood", "line"] ["tree"] (aq eX) := aT
noncomputable abbrev fC : Stmt := top 32
noncomputable abbrev iK : Type := List Str × List Int × List Int
noncomputable def d8 : iK -> List L3.D := fun (ks, es, ss) => [jj ks es ss]
noncomputable def cI : iK -> Prop := fun (ks, es, ss) => ks.length = es.length /\ es.length <= 900 /\ ∀ m : Nat, m < es.length -> ks.getD m Str.empty ∈ (["leaf", "one", "all"] : List Str) /\ decide (ks.getD m Str.empty = "leaf") = !decide ((m : Int) ∈ es)
noncomputable def d9 : iK -> T := fun (ks, es, ss) => (.sh (.bl true) : T)
structure sO (X : Cx) (CL : Str -> Addr) : Prop extends cj X where
 bA : Ln X 0 "tree"
 mX : Ln X 1 "with_inner"
 lz : Ln X 2 "elder"
 fZ : Ln X 3 "mood"
 Fo : Ln X 4 "kind"
 oU : Gl X "enumerate"
 Qt : Gl X "KINDS"
 oV : X.mg "enumerate" = none
 Bv : GT X "KINDS" ["leaf", "one", "all"]
 bU : rQ X.K (CL "Tree")
 aM : aH X.K (CL "Tree") "elders"
 b7 : aH X.K (CL "Tree") "kinds"
theorem sP {X : Cx} {CL : Str -> Addr} {b : Bx} (E : sO X CL) (ks es ss) (h : cI (ks, es, ss)) :
   aA X CL b fC ["tree", "with_inner", "elder", "mood", "kind"] (d8 (ks, es, ss)) (d9 (ks, es, ss)) := by
 dsimp only [aA, cI, d8, d9] at h ⊢
 obtain ⟨h1, h2, h3⟩ := h
 refine aV E.g E.mX Pw ?_
 refine jD E.g E.lz (fun j δ => ∃ o2 o3 o4, δ = [some (.sh (jj ks es ss)), some (.pM (Ka (adds (es.take j)))), o2, o3, o4])
   (mJ (iI E.bU E.aM (v_ E.bA.1) cR)) ⟨_, _, _, rfl⟩ (fun j δ ⟨_, _, _, e⟩ => by subst e; exact aec rfl) ?turn ?fin
 case turn =>
   rintro j d δ hj ⟨o2, o3, o4, rfl⟩
   obtain ⟨x, rfl, _, _, xm, _, Y9⟩ := A0 hj
   have hl := (uK (es.take j) []).1
   have Ze : (es.take j).length <= 900 := by rw [aft]; omega
   have hkl : (Ka (adds (es.take j))).length <= 1000000 := by unfold Ka adds; rw [aea]; simp at hl; omega
   refine UK (.inl x) E.u E.mX.1 nO (aG E.lz) rfl hkl (az ?_)
   rw [PF, ← Ju, ← Y9]
   exact ⟨_, _, _, rfl⟩
 case fin =>
 rintro δ ⟨o2, o3, o4, rfl⟩
 rw [aea, List.take_length]
 have hin : ∀ x : Int, decide (x ∈ adds es) = decide (x ∈ es) := fun x => decide_eq_decide.mpr (((uK es []).2 x).trans (by simp))
 refine Lv E.g (Hs E.g.nd E.g.calm E.fZ E.Fo) (fun j δ => ∃ o2 o3 o4, δ = [some (.sh (jj ks es ss)), some (.pM (Ka (adds es))), o2, o3, o4])
   (Dy (f := L3.D.str) (l := ks) Str.empty E.oV (iI E.bU E.b7 (v_ E.bA.1) kL) E.oU) ⟨_, _, _, rfl⟩ (fun j δ ⟨_, _, _, e⟩ => by subst e; intro i hi; simp only [aek, aeF, or_false] at hi; rcases hi with rfl | rfl <;> exact aec rfl) ?DU ?fin2
 case DU =>
   rintro j d δ hj ⟨o2, o3, o4, rfl⟩
   obtain ⟨i, rfl, hi, him, XT, _, _⟩ := A0 hj
   clear hi XT hj
   have XT : i < ks.length := aeR.mp him
   refine ⟨_, rfl, ?_⟩
   obtain ⟨e1, e2⟩ := h3 i (by omega)
   refine dW (vV (kI (Ho (l := ["leaf", "one", "all"]) (aG E.Fo) (ai (sd E.Bv E.Qt)) rfl rfl).1 (fun _ => lG (Xd (w1 := .bl (decide (ks.getD i Str.empty = "leaf"))) (w2 := .bl (decide ((i : Int) ∈ es))) (ai (oz (aG E.Fo) (ai cN)).2) (ai (aC (UO (.inl (i : Int)) E.u (aG E.fZ) (vE E.mX.1 rfl (by rw [T.fh])) rfl) (t2 := .sh (.bl (decide ((i : Int) ∈ es)))) (congrArg (fun z => T.sh (.bl z)) ((PJ _ _).trans (hin _))))) rfl rfl rfl).1))) (fun hp => ?_) (fun _ => az (az ⟨_, _, _, rfl⟩))
   rw [aej e1, e2] at hp
   cases hd : decide ((i : Int) ∈ es) with
   | false => rw [hd] at hp; simp at hp
   | true => rw [hd] at hp; simp at hp
 case fin2 =>
   rintro δ ⟨o2, o3, o4, rfl⟩
   exact bM nO rfl
theorem bO : mD (aq fC) ([("tree", ay), ("with_inner", ay), ("elder", ay), ("mood", ay), ("kind", ay), ("enumerate", av), ("KINDS", av)]) = true := by decide +kernel
theorem kN : aK ["tree", "with_inner", "elder", "mood", "kind"] ["tree"] (aq fC) := aT
noncomputable abbrev mY : Stmt := top 42
noncomputable abbrev qQ : Type := Int × List L3.D
noncomputable def dG : qQ -> List L3.D := fun (i, ds) => [.int i, .lst ds]
noncomputable def dH : qQ -> Prop := fun (i, ds) => True
noncomputable def dI : qQ -> T := fun (i, ds) => (.sh (.bl (xj i ds.length)) : T)
structure Fp (X : Cx) (CL : Str -> Addr) : Prop extends cj X where
 yt : Ln X 0 "number"
 XU : Ln X 1 "row"
 cW : Gl X "len"
 cS : X.mg "len" = none
theorem Fq {X : Cx} {CL : Str -> Addr} {b : Bx} (E : Fp X CL) (i ds) (h : dH (i, ds)) :
   aA X CL b mY ["number", "row"] (dG (i, ds)) (dI (i, ds)) := by
 dsimp only [aA, dH, dG, dI] at h ⊢
 exact bM (R5 WO GU (ai ak) (aG E.yt) (ai (c6 rfl E.cS (aG E.XU) E.cW)) (by with_unfolding_all rfl)).2 rfl
theorem oW : mD (aq mY) ([("number", ay), ("row", ay), ("len", av)]) = true := by decide +kernel
theorem vK : aK ["number", "row"] ["number", "row"] (aq mY) := aT
noncomputable abbrev eY : Stmt := top 33
noncomputable abbrev g5 : Type := List Str × List Int × List Int
noncomputable def dJ : g5 -> List L3.D := fun (ks, es, ss) => [jj ks es ss]
noncomputable def cu : g5 -> Prop := fun (ks, es, ss) => ks.length = es.length /\ ss.length = es.length /\ es.length <= 900 /\ ∀ m : Nat, m < es.length -> (ks.getD m Str.empty ≠ "one" /\ ss.getD m 0 = -1) \/ (ks.getD m Str.empty = "one" /\ xj (ss.getD m 0) es.length = true /\ es.getD (ss.getD m 0).toNat 0 = m)
noncomputable def dM : g5 -> T := fun (ks, es, ss) => (.sh (.bl true) : T)
structure qR (X : Cx) (CL : Str -> Addr) : Prop extends cj X where
 bA : Ln X 0 "tree"
 fZ : Ln X 1 "mood"
 xH : Ln X 2 "start"
 oU : Gl X "enumerate"
 cD : Gl X "is_place"
 oV : X.mg "enumerate" = none
 dY : Fc X CL "is_place" 1 2 dG dH dI
 bU : rQ X.K (CL "Tree")
 dZ : aH X.K (CL "Tree") "starts"
 b7 : aH X.K (CL "Tree") "kinds"
 aM : aH X.K (CL "Tree") "elders"
theorem qS {X : Cx} {CL : Str -> Addr} {b : Bx} (E : qR X CL) (ks es ss) (h : cu (ks, es, ss)) :
   aA X CL b eY ["tree", "mood", "start"] (dJ (ks, es, ss)) (dM (ks, es, ss)) := by
 dsimp only [aA, cu, dJ, dM] at h ⊢
 obtain ⟨h1, h2, h3, h4⟩ := h
 refine Lv E.g (Hs E.g.nd E.g.calm E.fZ E.xH) (fun j δ => ∃ o1 o2, δ = [some (.sh (jj ks es ss)), o1, o2])
   (Dy (f := L3.D.int) (l := ss) 0 E.oV (iI E.bU E.dZ (v_ E.bA.1) oF) E.oU) ⟨_, _, rfl⟩ (fun j δ ⟨_, _, e⟩ => by subst e; intro i hi; simp only [aek, aeF, or_false] at hi; rcases hi with rfl | rfl <;> exact aec rfl) ?turn ?fin
 case turn =>
   rintro j d δ hj ⟨o1, o2, rfl⟩
   obtain ⟨i, rfl, hi, him, XT, _, _⟩ := A0 hj
   clear hi XT hj
   have XT : i < ss.length := aeR.mp him
   refine ⟨_, rfl, ?_⟩
   have hk : zL (ks.map L3.D.str) (i : Int) = some (.str (ks.getD i Str.empty)) := (qF Str.empty (by omega) (by omega)).trans (by rw [ae1])
   rcases h4 i (by omega) with ⟨e1, e2⟩ | ⟨e1, e2, e3⟩
   . refine dW (EL (bG (cg E.bU E.b7 (aG E.bA) kL) (aG E.fZ) hk) (ai cN)).1 (fun _ => ?_) (fun hp => absurd hp (by rw [aeA e1]; decide))
     refine dW (lF (aG E.xH) (ai (kJ (ai ak)))).1 (fun hp => ?_) (fun _ => az (az (az ⟨_, _, rfl⟩)))
     rw [aej e2] at hp
     exact absurd hp (by decide)
   . refine dW (EL (bG (cg E.bU E.b7 (aG E.bA) kL) (aG E.fZ) hk) (ai cN)).1 (fun hp => absurd hp (by rw [aej e1]; decide)) (fun _ => ?_)
     have e4 := e2
     unfold xj at e4
     rw [aev] at e4
     have p0 := aez e4.1
     have p1 := aez e4.2
     have eL : xj (ss.getD i 0) (es.map L3.D.int).length = true := by rw [aea]; exact e2
     refine dW (vV (kI (fP (jB (aC (c_ (ss.getD i 0, es.map L3.D.int) E.dY E.cD (aj (aG E.xH) (aj (cg E.bU E.aM (aG E.bA) cR) aF)) trivial rfl) (t2 := .sh (.bl true)) (congrArg (fun z => T.sh (.bl z)) eL)))) (fun _ => lG (lF (bG (cg E.bU E.aM (aG E.bA) cR) (aG E.xH) (jk p0 p1)) (aG E.fZ)).1))) (fun hp => ?_) (fun _ => az (az (az ⟨_, _, rfl⟩)))
     rw [aej e3] at hp
     exact absurd hp (by decide)
 case fin =>
   rintro δ ⟨o1, o2, rfl⟩
   exact bM nO rfl
theorem cJ : mD (aq eY) ([("tree", ay), ("mood", ay), ("start", ay), ("enumerate", av), ("is_place", av)]) = true := by decide +kernel
theorem j4 : aK ["tree", "mood", "start"] ["tree"] (aq eY) := aT
noncomputable abbrev gS : Stmt := top 30
noncomputable abbrev jL : Type := List Str × List Int × List Int × List L3.D
noncomputable def fD : jL -> List L3.D := fun (ks, es, ss, nm) => [jj ks es ss, .lst nm]
noncomputable def dN : jL -> Prop := fun (ks, es, ss, nm) => Jv ks es ss /\ nm.length = es.length
noncomputable def fE : jL -> T := fun (ks, es, ss, nm) => (.sh (.bl true) : T)
structure vY (X : Cx) (CL : Str -> Addr) : Prop extends cj X where
 bA : Ln X 0 "tree"
 bX : Ln X 1 "names"
 bz : Ln X 2 "many"
 cW : Gl X "len"
 g6 : Gl X "are_elders_right"
 iL : Gl X "are_kinds_right"
 g7 : Gl X "are_starts_right"
 cS : X.mg "len" = none
 qT : Fc X CL "are_elders_right" 3 1 dD ck dF
 sQ : Fc X CL "are_kinds_right" 1 1 d8 cI d9
 qU : Fc X CL "are_starts_right" 2 1 dJ cu dM
 bU : rQ X.K (CL "Tree")
 b7 : aH X.K (CL "Tree") "kinds"
 aM : aH X.K (CL "Tree") "elders"
 dZ : aH X.K (CL "Tree") "starts"
theorem vZ {X : Cx} {CL : Str -> Addr} {b : Bx} (E : vY X CL) (ks es ss nm) (h : dN (ks, es, ss, nm)) :
   aA X CL b gS ["tree", "names", "many"] (fD (ks, es, ss, nm)) (fE (ks, es, ss, nm)) := by
 dsimp only [aA, dN, fD, fE] at h ⊢
 obtain ⟨h, hn⟩ := h
 have n1 := h.n1
 refine aV E.g E.bz (c6 (n := es.length) ((aea ..).trans h.kl) E.cS (cg E.bU E.b7 (aG E.bA) kL) E.cW) ?_
 refine dW (vV (kI (kH (aG E.bz) (ai ak)).1 (fun _ => kI (lF (ai (c6 (n := es.length) (aea ..) E.cS (cg E.bU E.aM (aG E.bA) cR) E.cW)) (aG E.bz)).1 (fun _ => kI (lF (ai (c6 (n := es.length) ((aea ..).trans h.sl) E.cS (cg E.bU E.dZ (aG E.bA) oF) E.cW)) (aG E.bz)).1 (fun _ => lG (lF (ai (c6 (n := es.length) hn E.cS (aG E.bX) E.cW)) (aG E.bz)).1))))) (fun hp => ?_) (fun _ => az ?_)
 . rw [aeA (show ¬ ((es.length : Nat) : Int) = 0 by omega)] at hp
   simp at hp
 exact bM (aC (mG (aC (c_ (ks, es, ss) E.qT E.g6 (aj (aG E.bA) aF) (by dsimp only [ck]; exact ⟨h.pre, h.n1, h.n2, h.deep⟩) rfl) (t2 := .sh (.bl true)) rfl) (fun _ => mG (aC (c_ (ks, es, ss) E.sQ E.iL (aj (aG E.bA) aF) (by dsimp only [cI]; exact ⟨h.kl, h.n2, h.kinds⟩) rfl) (t2 := .sh (.bl true)) rfl) (fun _ => oA (aC (c_ (ks, es, ss) E.qU E.g7 (aj (aG E.bA) aF) (by dsimp only [cu]; exact ⟨h.kl, h.sl, h.n2, h.starts⟩) rfl) (t2 := .sh (.bl true)) rfl)))) (t2 := .sh (.bl true)) rfl) rfl
theorem b5 : mD (aq gS) ([("tree", ay), ("names", ay), ("many", ay), ("len", av), ("are_elders_right", av), ("are_kinds_right", av), ("are_starts_right", av)]) = true := by decide +kernel
theorem mq : aK ["tree", "names", "many"] ["tree", "names"] (aq gS) := aT
noncomputable abbrev qe : Stmt := top 12
noncomputable abbrev uN : Type := Str
noncomputable def iA : uN -> List L3.D := fun x => [.str x]
noncomputable def iB : uN -> Prop := fun x => x.length <= 1000
noncomputable def iC : uN -> T := fun x => (.sh (.bl (fW x)) : T)
structure JF (X : Cx) (CL : Str -> Addr) : Prop extends cj X where
 yu : Ln X 0 "text"
 MC : Ln X 1 "sign"
 cW : Gl X "len"
 yw : Gl X "LONGEST_NAME"
 Qu : Gl X "WORDS"
 JG : Gl X "LETTERS"
 nY : Gl X "LETTERS_AND_FIGURES"
 cS : X.mg "len" = none
 yx : ∃ u, X.mg "LONGEST_NAME" = some (.int 12 u)
 Bw : GT X "WORDS" ["all", "and", "box", "call", "do", "far", "if", "in", "leaf", "near", "on", "one", "open", "out", "put", "say", "shut", "then", "to"]
 JH : ∃ u, X.mg "LETTERS" = some (.str "abcdefghijklmnopqrstuvwxyz" u)
 n5 : ∃ u, X.mg "LETTERS_AND_FIGURES" = some (.str "abcdefghijklmnopqrstuvwxyz0123456789" u)
theorem JK {X : Cx} {CL : Str -> Addr} {b : Bx} (E : JF X CL) (x) (h : iB x) :
   aA X CL b qe ["text", "sign"] (iA x) (iC x) := by
 dsimp only [aA, iB, iA, iC] at h ⊢
 have hz : x.length <= sizeLine := ae2 (cz h)
 refine dW (vV (kI (oz (aG E.yu) (ai cN)).1 (fun hb => (kI (K2 (ai (O2 E.cS (aG E.yu) (hz) E.cW)) (ai (gM E.yx E.yw))).1 (fun hb2 => (lG (Hl (aG E.yu) (ai (sd E.Bw E.Qu)) (rfl) rfl).1)))))) (fun hp => ?_) (fun hp => az ?_)
 . refine bM nO ?_
   have hp : (decide (x = "") || (decide ((12 : Int) < (x.length : Nat)) || decide (x ∈ se))) = true := hp
   show T.sh _ = T.sh (.bl (fW x))
   refine congrArg (fun z => T.sh (.bl z)) ?_
   simp only [Bool.or_eq_true, afF] at hp
   unfold fW
   rcases hp with z | z | z
   . subst z; decide +kernel
   . rw [aeA (p := x.length <= 12) (by omega), Bool.false_and, Bool.and_false]
   . rw [aej z, Bool.not_true, Bool.false_and, Bool.and_false, Bool.and_false]
 have hp : (decide (x = "") || (decide ((12 : Int) < (x.length : Nat)) || decide (x ∈ se))) = false := hp
 simp only [Bool.or_eq_false_iff, decide_eq_false_iff_not] at hp
 obtain ⟨h1, h2, h3⟩ := hp
 have Zd : 1 <= x.length := by
   rcases Nat.eq_zero_or_pos x.length with z | z
   . exact absurd (PD z) h1
   . exact z
 have hll : x.cps.toList.length = x.length := by simp [Str.length]
 have Jc : fW x = (isLt (x.cps.toList.getD 0 0) && x.cps.toList.all (fun c => isLt c || oG c)) := by
   unfold fW
   rw [aej Zd, aej (show x.length <= 12 by omega), aeA h3]
   rfl
 refine dW (vG (ai (K7 (aG E.yu) (ai ak) hz (Lk 0 (by omega) (by omega)))) (ai (Dz E.JH E.JG)) rfl).1 (fun hp => ?_) (fun hp => az ?_)
 . refine bM nO ?_
   rw [yg] at hp
   have hp : (!isLt (x.cps.toList.getD 0 0)) = true := hp
   rw [Bool.not_eq_true'] at hp
   show T.sh _ = T.sh (.bl (fW x))
   rw [Jc, hp]
   rfl
 rw [yg] at hp
 have hp : (!isLt (x.cps.toList.getD 0 0)) = false := hp
 rw [Bool.not_eq_false'] at hp
 refine jD E.g E.MC (fun j δ => (∃ o, δ = [some (.sh (.str x)), o]) /\ (x.cps.toList.take j).all (fun c => isLt c || oG c) = true)
   (UE (v_ E.yu.1)) ⟨⟨_, rfl⟩, rfl⟩ (fun j δ ⟨⟨_, e⟩, _⟩ => by subst e; exact aec rfl) ?turn ?fin
 case turn =>
   rintro j d δ hj ⟨⟨o, rfl⟩, IW⟩
   obtain ⟨c, rfl, hc⟩ := E1 hj
   refine dW (vG (aG E.MC) (ai (Dz E.n5 E.nY)) rfl).1 (fun hq => ?_) (fun hq => az (az ⟨⟨_, rfl⟩, ?_⟩))
   . refine bM nO ?_
     rw [Hy] at hq
     have hq : (isLt c || oG c) = false := by simpa using hq
     show T.sh _ = T.sh (.bl (fW x))
     have ha : x.cps.toList.all (fun c => isLt c || oG c) = false := by
       rw [List.all_eq_false]
       exact ⟨c, aeQ hc, by rw [hq]; decide⟩
     rw [Jc, ha, Bool.and_false]
   . rw [Hy] at hq
     have hq : (!(isLt c || oG c)) = false := hq
     rw [Bool.not_eq_false'] at hq
     rw [afQ, hc, afD, IW]
     show (true && ([c].all fun c => isLt c || oG c)) = true
     rw [afc, hq]
     rfl
 case fin =>
   rintro δ ⟨⟨o, rfl⟩, IW⟩
   refine bM nO ?_
   rw [show (jF x).length = x.cps.toList.length by simp [jF], List.take_length] at IW
   show T.sh _ = T.sh (.bl (fW x))
   rw [Jc, hp, IW]
   rfl
theorem g8 : mD (aq qe) ([("text", ay), ("sign", ay), ("len", av), ("LONGEST_NAME", av), ("WORDS", av), ("LETTERS", av), ("LETTERS_AND_FIGURES", av)]) = true := by decide +kernel
theorem yy : aK ["text", "sign"] ["text"] (aq qe) := aT
noncomputable abbrev fF : Stmt := top 34
noncomputable abbrev iM : Type := List Str
noncomputable def cK : iM -> List L3.D := fun l => [.lst (l.map .str)]
noncomputable def bI : iM -> Prop := fun l => (∀ x ∈ l, x.length <= 1000 /\ fW x = true) /\ l.Nodup /\ l.length <= 1000
noncomputable def cL : iM -> T := fun l => (.sh (.bl true) : T)
structure sR (X : Cx) (CL : Str -> Addr) : Prop extends cj X where
 bX : Ln X 0 "names"
 oS : Ln X 1 "name"
 iD : Gl X "is_name"
 cW : Gl X "len"
 XW : Gl X "set"
 kF : Fc X CL "is_name" 1 1 iA iB iC
 cS : X.mg "len" = none
 XY : X.mg "set" = none
theorem sS {X : Cx} {CL : Str -> Addr} {b : Bx} (E : sR X CL) (l) (h : bI l) :
   aA X CL b fF ["names", "name"] (cK l) (cL l) := by
 dsimp only [aA, bI, cK, cL] at h ⊢
 obtain ⟨h1, h2, h3⟩ := h
 refine jD E.g E.oS (fun j δ => ∃ o, δ = [some (.sh (.lst (l.map .str))), o]) (mJ (v_ E.bX.1)) ⟨_, rfl⟩ (fun j δ ⟨_, e⟩ => by subst e; exact aec rfl) ?turn ?fin
 case turn =>
   rintro j d δ hj ⟨o, rfl⟩
   obtain ⟨x, rfl, _, hx, _, _, _⟩ := A0 hj
   obtain ⟨x1, x2⟩ := h1 x hx
   exact dW (fP (jB (aC (c_ x E.kF E.iD (aj (aG E.oS) aF) x1 rfl) (t2 := .sh (.bl true)) (congrArg (fun z => T.sh (.bl z)) x2)))) (fun hp => absurd hp (by decide)) (fun _ => az (az ⟨_, rfl⟩))
 case fin =>
   rintro δ ⟨o, rfl⟩
   exact bM (aC (kH (ai (EY E.g E.cS E.XY (aG E.bX) h2 h3 E.cW E.XW)) (ai (c6 (aea ..) E.cS (aG E.bX) E.cW))).2 (t2 := .sh (.bl true)) (congrArg (fun z => T.sh (.bl z)) (aej rfl))) rfl
theorem cY : mD (aq fF) ([("names", ay), ("name", ay), ("is_name", av), ("len", av), ("set", av)]) = true := by decide +kernel
theorem kO : aK ["names", "name"] ["names"] (aq fF) := aT
noncomputable abbrev ko : Stmt := top 43
noncomputable abbrev mZ : Type := Int
noncomputable def f6 : mZ -> List L3.D := fun i => [.int i]
noncomputable def f7 : mZ -> Prop := fun i => True
noncomputable def f9 : mZ -> T := fun i => (.sh (.bl (R7 i)) : T)
structure By (X : Cx) (CL : Str -> Addr) : Prop extends cj X where
 yt : Ln X 0 "number"
theorem BD {X : Cx} {CL : Str -> Addr} {b : Bx} (E : By X CL) (i) (h : f7 i) :
   aA X CL b ko ["number"] (f6 i) (f9 i) := by
 dsimp only [aA, f7, f6, f9] at h ⊢
 exact bM (R5 GU GU (ai (kJ (ai (iF (ai ak) (ai ak) ⟨by decide, by decide, by decide⟩)))) (aG E.yt) (ai (iF (ai ak) (ai ak) ⟨by decide, by decide, by decide⟩)) (by with_unfolding_all rfl)).2 rfl
theorem zT : mD (aq ko) ([("number", ay)]) = true := by decide +kernel
theorem qv : aK ["number"] ["number"] (aq ko) := aT
noncomputable abbrev fG : Stmt := top 35
noncomputable abbrev iN : Type := (List (Str × Int))
noncomputable def ef : iN -> List L3.D := fun l => [.lst (l.map Ag)]
noncomputable def eo : iN -> Prop := fun l => (∀ q ∈ l, (q.1.length <= 1000 /\ fW q.1 = true) /\ R7 q.2 = true) /\ (l.map (·.1)).Nodup /\ l.length <= 1000
noncomputable def ez : iN -> T := fun l => (.sh (.bl true) : T)
structure sU (X : Cx) (CL : Str -> Addr) : Prop extends cj X where
 mW : Ln X 0 "boxes"
 Sg : Ln X 1 "box"
 iO : Gl X "is_bounded"
 dO : Gl X "are_names_right"
 m5 : Fc X CL "is_bounded" 1 1 f6 f7 f9
 iP : Fc X CL "are_names_right" 2 1 cK bI cL
theorem sV {X : Cx} {CL : Str -> Addr} {b : Bx} (E : sU X CL) (l) (h : eo l) :
   aA X CL b fG ["boxes", "box"] (ef l) (ez l) := by
 dsimp only [aA, eo, ef, ez] at h ⊢
 obtain ⟨h1, h2, h3⟩ := h
 refine jD E.g E.Sg (fun j δ => ∃ o, δ = [some (.sh (.lst (l.map Ag))), o]) (mJ (v_ E.mW.1)) ⟨_, rfl⟩ (fun j δ ⟨_, e⟩ => by subst e; exact aec rfl) ?turn ?fin
 case turn =>
   rintro j d δ hj ⟨o, rfl⟩
   obtain ⟨q, hq, rfl⟩ := aeu.mp (aeQ hj)
   exact dW (fP (jB (aC (c_ q.2 E.m5 E.iO (aj (b9 (aG E.Sg) (ai ak) (aP (j := 1) rfl)) aF) trivial rfl) (t2 := .sh (.bl true)) (congrArg (fun z => T.sh (.bl z)) (h1 q hq).2)))) (fun hp => absurd hp (by decide)) (fun _ => az (az ⟨_, rfl⟩))
 case fin =>
   rintro δ ⟨o, rfl⟩
   have hl : ∀ x ∈ l.map (·.1), x.length <= 1000 /\ fW x = true := fun x hx => by
     obtain ⟨q, hq, rfl⟩ := aeu.mp hx
     exact (h1 q hq).1
   refine bM (aC (c_ (l.map (·.1)) E.iP E.dO (aj (fz (aC (w9 (p := fun _ => true) (g := fun d => T.sh (.str d.at1.toS)) (fU .nil (by decide +kernel)) E.g.calm (mJ (v_ E.mW.1)) (.inr rfl) (fun C s0 H0 f0 b' d hd => ?Jz) (Nat.le_of_lt (cz (by rw [List.length_map]; omega)))) ?U5)) aF) (by dsimp only [bI]; exact ⟨hl, h2, by rw [List.length_map]; exact h3⟩) rfl) rfl) rfl
   case Jz =>
     obtain ⟨q, hq, rfl⟩ := aeu.mp hd
     exact ⟨rfl, fun _ => dg (b9 (ai (v_ (jJ (i := 0) rfl (by decide +kernel)))) (ai ak) (aP (j := 0) rfl)) rfl⟩
   case U5 =>
     rw [iz, aeN, aeN, aeN]
     rfl
theorem eZ : mD (aq fG) ([("boxes", ay), ("box", ay), ("is_bounded", av), ("are_names_right", av)]) = true := by decide +kernel
theorem kP : aK ["boxes", "box"] ["boxes"] (aq fG) := aT
noncomputable abbrev gT : Stmt := top 41
noncomputable abbrev jM : Type := List L3.D × List L3.D × L3.D × List L3.D × List L3.D × List L3.D × Int × Int
noncomputable def dP : jM -> List L3.D := fun (bs, nm, tr, is, os, ws, i, c) => [gK bs nm tr is os ws, .tup [.int i, .int c]]
noncomputable def dQ : jM -> Prop := fun (bs, nm, tr, is, os, ws, i, c) => True
noncomputable def dR : jM -> T := fun (bs, nm, tr, is, os, ws, i, c) => (.sh (.bl (CQ bs.length i c)) : T)
structure v5 (X : Cx) (CL : Str -> Addr) : Prop extends cj X where
 aJ : Ln X 0 "chart"
 yz : Ln X 1 "term"
 cD : Gl X "is_place"
 iO : Gl X "is_bounded"
 dY : Fc X CL "is_place" 1 2 dG dH dI
 m5 : Fc X CL "is_bounded" 1 1 f6 f7 f9
 aN : rQ X.K (CL "Chart")
 b8 : aH X.K (CL "Chart") "boxes"
theorem v7 {X : Cx} {CL : Str -> Addr} {b : Bx} (E : v5 X CL) (bs nm tr is os ws i c) (h : dQ (bs, nm, tr, is, os, ws, i, c)) :
   aA X CL b gT ["chart", "term"] (dP (bs, nm, tr, is, os, ws, i, c)) (dR (bs, nm, tr, is, os, ws, i, c)) := by
 dsimp only [aA, dQ, dP, dR] at h ⊢
 exact bM (mG (Xe (kH (b9 (aG E.yz) (ai ak) rfl) (ai (kJ (ai ak)))).2 (fun _ => oA (aC (c_ (i, bs) E.dY E.cD (aj (b9 (aG E.yz) (ai ak) rfl) (aj (cg E.aN E.b8 (aG E.aJ) ly) aF)) trivial rfl) (t2 := .sh (.bl (xj i bs.length))) rfl))) (fun _ => oA (aC (c_ c E.m5 E.iO (aj (b9 (aG E.yz) (ai ak) rfl) aF) trivial rfl) (t2 := .sh (.bl (R7 c))) rfl))) rfl
theorem gu : mD (aq gT) ([("chart", ay), ("term", ay), ("is_place", av), ("is_bounded", av)]) = true := by decide +kernel
theorem mw : aK ["chart", "term"] ["chart", "term"] (aq gT) := aT
noncomputable abbrev gU : Stmt := top 40
noncomputable abbrev jN : Type := List L3.D × List L3.D × L3.D × List L3.D × List L3.D × List L3.D × vH
noncomputable def fH : jN -> List L3.D := fun (bs, nm, tr, is, os, ws, q) => [gK bs nm tr is os ws, lQ q]
noncomputable def fJ : jN -> Prop := fun (bs, nm, tr, is, os, ws, q) => R8 q
noncomputable def fK : jN -> T := fun (bs, nm, tr, is, os, ws, q) => (.sh (.bl (LZ bs.length q)) : T)
structure v8 (X : Cx) (CL : Str -> Addr) : Prop extends cj X where
 aJ : Ln X 0 "chart"
 jn : Ln X 1 "deed"
 m7 : Ln X 2 "word"
 cD : Gl X "is_place"
 cE : Gl X "is_term_right"
 iD : Gl X "is_name"
 dY : Fc X CL "is_place" 1 2 dG dH dI
 fj : Fc X CL "is_term_right" 2 2 dP dQ dR
 kF : Fc X CL "is_name" 1 1 iA iB iC
 aN : rQ X.K (CL "Chart")
 b8 : aH X.K (CL "Chart") "boxes"
theorem v9 {X : Cx} {CL : Str -> Addr} {b : Bx} (E : v8 X CL) (bs nm tr is os ws q) (h : fJ (bs, nm, tr, is, os, ws, q)) :
   aA X CL b gU ["chart", "deed", "word"] (fH (bs, nm, tr, is, os, ws, q)) (fK (bs, nm, tr, is, os, ws, q)) := by
 dsimp only [aA, fJ, fH, fK] at h ⊢
 cases q with
 | put i a' c =>
   refine aV E.g E.m7 (dg (b9 (aG E.jn) (ai ak) (aP (j := 0) rfl)) rfl) ?_
   refine dW (oz (aG E.m7) (ai cN)).1 (fun _ => ?_) (fun hp => absurd (ae3 hp) (by decide +kernel))
   exact bM (mG (aC (c_ (i, bs) E.dY E.cD (aj (b9 (aG E.jn) (ai ak) (aP (j := 1) rfl)) (aj (cg E.aN E.b8 (aG E.aJ) ly) aF)) trivial rfl) (t2 := .sh (.bl (xj i bs.length))) rfl) (fun _ => oA (aC (c_ (bs, nm, tr, is, os, ws, a', c) E.fj E.cE (aj (aG E.aJ) (aj (b9 (aG E.jn) (ai ak) (aP (j := 2) rfl)) aF)) trivial rfl) (t2 := .sh (.bl (CQ bs.length a' c))) rfl))) rfl
 | say x a' c =>
   have hx : x.length <= 1000 := h
   refine aV E.g E.m7 (dg (b9 (aG E.jn) (ai ak) (aP (j := 0) rfl)) rfl) ?_
   refine dW (oz (aG E.m7) (ai cN)).1 (fun hp => absurd (aez hp) (by decide +kernel)) (fun _ => az ?_)
   refine dW (oz (aG E.m7) (ai cN)).1 (fun _ => ?_) (fun hp => absurd (ae3 hp) (by decide +kernel))
   exact bM (mG (aC (c_ x E.kF E.iD (aj (b9 (aG E.jn) (ai ak) (aP (j := 1) rfl)) aF) hx rfl) (t2 := .sh (.bl (fW x))) rfl) (fun _ => oA (aC (c_ (bs, nm, tr, is, os, ws, a', c) E.fj E.cE (aj (aG E.aJ) (aj (b9 (aG E.jn) (ai ak) (aP (j := 2) rfl)) aF)) trivial rfl) (t2 := .sh (.bl (CQ bs.length a' c))) rfl))) rfl
 | call x =>
   have hx : x.length <= 1000 := h
   refine aV E.g E.m7 (dg (b9 (aG E.jn) (ai ak) (aP (j := 0) rfl)) rfl) ?_
   refine dW (oz (aG E.m7) (ai cN)).1 (fun hp => absurd (aez hp) (by decide +kernel)) (fun _ => az ?_)
   refine dW (oz (aG E.m7) (ai cN)).1 (fun hp => absurd (aez hp) (by decide +kernel)) (fun _ => az ?_)
   exact bM (aC (mG (oz (aG E.m7) (ai cN)).2 (fun _ => oA (aC (c_ x E.kF E.iD (aj (b9 (aG E.jn) (ai ak) (aP (j := 1) rfl)) aF) hx rfl) (t2 := .sh (.bl (fW x))) rfl))) (t2 := .sh (.bl (fW x))) (congrArg (fun z => T.sh (.bl z)) (by rw [aej rfl]; rfl))) rfl
theorem cV : mD (aq gU) ([("chart", ay), ("deed", ay), ("word", ay), ("is_place", av), ("is_term_right", av), ("is_name", av)]) = true := by decide +kernel
theorem mz : aK ["chart", "deed", "word"] ["chart", "deed"] (aq gU) := aT
noncomputable abbrev fL : Stmt := top 36
noncomputable abbrev iQ : Type := List L3.D × List L3.D × L3.D × List (List vH) × List (List vH) × List Hz
noncomputable def eB : iQ -> List L3.D := fun (bs, nm, tr, is, os, ws) => [gK bs nm tr (is.map fun l => L3.D.tup (l.map lQ)) (os.map fun l => L3.D.tup (l.map lQ)) (ws.map uw)]
noncomputable def cM : iQ -> Prop := fun (bs, nm, tr, is, os, ws) => is.length = nm.length /\ os.length = nm.length /\ nm.length <= 400 /\ ws.length <= 100 /\ (∀ l ∈ is ++ os ++ ws.map (·.dl), ∀ q ∈ l, R8 q /\ LZ bs.length q = true)
noncomputable def eF : iQ -> T := fun (bs, nm, tr, is, os, ws) => (.sh (.bl true) : T)
structure sW (X : Cx) (CL : Str -> Addr) : Prop extends cj X where
 aJ : Ln X 0 "chart"
 bz : Ln X 1 "many"
 pX : Ln X 2 "deeds"
 jn : Ln X 3 "deed"
 cW : Gl X "len"
 jO : Gl X "is_deed_right"
 cS : X.mg "len" = none
 wc : Fc X CL "is_deed_right" 3 2 fH fJ fK
 Qv : ∃ u, X.mg "DEEDS" = some (.int 3 u)
 aN : rQ X.K (CL "Chart")
 bu : aH X.K (CL "Chart") "names"
 iE : aH X.K (CL "Chart") "ins"
 gw : aH X.K (CL "Chart") "outs"
 e7 : aH X.K (CL "Chart") "ways"
theorem sX {X : Cx} {CL : Str -> Addr} {b : Bx} (E : sW X CL) (bs nm tr is os ws) (h : cM (bs, nm, tr, is, os, ws)) :
   aA X CL b fL ["chart", "many", "deeds", "deed"] (eB (bs, nm, tr, is, os, ws)) (eF (bs, nm, tr, is, os, ws)) := by
 dsimp only [aA, cM, eB, eF] at h ⊢
 obtain ⟨h1, h2, h3, h4, h5⟩ := h
 refine aV E.g E.bz (c6 (n := nm.length) rfl E.cS (cg E.aN E.bu (aG E.aJ) fV) E.cW) ?_
 refine dW (vV (kI (lF (ai (c6 (n := nm.length) ((aea ..).trans h1) E.cS (cg E.aN E.iE (aG E.aJ) uJ) E.cW)) (aG E.bz)).1 (fun _ => lG (lF (ai (c6 (n := nm.length) ((aea ..).trans h2) E.cS (cg E.aN E.gw (aG E.aJ) qI) E.cW)) (aG E.bz)).1))) (fun hp => ?_) (fun _ => az ?_)
 . simp at hp
 have im : ∀ l : List (List vH), D.bZ (l.map fun l => L3.D.tup (l.map lQ)) = true := fun l => bY (f := fun l : List vH => L3.D.tup (l.map lQ)) (fun q => show D.bZ (q.map lQ) = true from bY (fun q => by cases q <;> rfl) q) l
 refine jD E.g E.pX (fun j δ => ∃ o1 o2, δ = [some (.sh (gK bs nm tr (is.map fun l => L3.D.tup (l.map lQ)) (os.map fun l => L3.D.tup (l.map lQ)) (ws.map uw))), some (.sh (.int nm.length)), o1, o2])
   (mJ (Hq (ds := (is ++ os ++ ws.map (·.dl)).map fun l => L3.D.tup (l.map lQ)) (aC (w6 (ds := (is ++ os).map fun l => L3.D.tup (l.map lQ)) (Jd := (ws.map (·.dl)).map fun l => L3.D.tup (l.map lQ)) (fz (aC (w6 (cg E.aN E.iE (aG E.aJ) uJ) (cg E.aN E.gw (aG E.aJ) qI) (im is) (im os) (ae2 (cz (by simp; omega)))) (by rw [← afC]))) (fz (aC (w9 (p := fun _ => true) (g := fun d => T.sh (aaV d)) (fU .nil (by decide +kernel)) E.g.calm (mJ (iI E.aN E.e7 (v_ E.aJ.1) qJ)) (.inr rfl) (fun C s0 H0 f0 b' d hd => ?Jz) (ae2 (cz (by rw [aea]; omega)))) ?U5)) (im _) (im _) (ae2 (cz (by simp; omega)))) (by rw [← afC])))) ⟨_, _, rfl⟩ (fun j δ ⟨_, _, e⟩ => by subst e; exact aec rfl) ?turn ?fin
 case Jz =>
   obtain ⟨w, hw, rfl⟩ := aeu.mp hd
   exact ⟨rfl, fun _ => dg (b9 (ai (v_ (jJ (i := 0) rfl (by decide +kernel)))) (ai (gM (by exact E.Qv) (j8 (by decide +kernel)))) (aP (j := 3) rfl)) (show D.bZ (w.dl.map lQ) = true from bY (fun q => by cases q <;> rfl) _)⟩
 case U5 =>
   rw [iz, aeN, aeN, aeN]
   rfl
 case turn =>
   rintro j d δ hj ⟨o1, o2, rfl⟩
   obtain ⟨l, hl, rfl⟩ := aeu.mp (aeQ hj)
   have hq := h5 l hl
   refine jD E.g E.jn (fun j δ => ∃ o2, δ = [some (.sh (gK bs nm tr (is.map fun l => L3.D.tup (l.map lQ)) (os.map fun l => L3.D.tup (l.map lQ)) (ws.map uw))), some (.sh (.int nm.length)), some (.sh (.tup (l.map lQ))), o2]) (Ld (v_ E.pX.1)) ⟨_, rfl⟩ (fun j δ ⟨_, e⟩ => by subst e; exact aec rfl) ?DU ?fin2
   case DU =>
     rintro i d δ hi ⟨o2, rfl⟩
     obtain ⟨q, hqm, rfl⟩ := aeu.mp (aeQ hi)
     exact dW (fP (jB (aC (c_ (bs, nm, tr, is.map fun l => L3.D.tup (l.map lQ), os.map fun l => L3.D.tup (l.map lQ), ws.map uw, q) E.wc E.jO (aj (aG E.aJ) (aj (aG E.jn) aF)) (hq q hqm).1 rfl) (t2 := .sh (.bl true)) (congrArg (fun z => T.sh (.bl z)) (hq q hqm).2)))) (fun hp => absurd hp (by decide)) (fun _ => az (az ⟨_, rfl⟩))
   case fin2 =>
     rintro δ ⟨o2, rfl⟩
     exact az ⟨_, _, rfl⟩
 case fin =>
   rintro δ ⟨o1, o2, rfl⟩
   exact bM nO rfl
theorem b6 : mD (aq fL) ([("chart", ay), ("many", ay), ("deeds", ay), ("deed", ay), ("len", av), ("is_deed_right", av)]) = true := by decide +kernel
theorem kQ : aK ["chart", "many", "deeds", "deed"] ["chart"] (aq fL) := aT
noncomputable abbrev iR : Stmt := top 39
noncomputable abbrev kR : Type := List L3.D × List L3.D × L3.D × List L3.D × List L3.D × List L3.D × N7
noncomputable def gy : kR -> List L3.D := fun (bs, nm, tr, is, os, ws, q) => [gK bs nm tr is os ws, DH q]
noncomputable def gA : kR -> Prop := fun (bs, nm, tr, is, os, ws, q) => LX q
noncomputable def gB : kR -> T := fun (bs, nm, tr, is, os, ws, q) => (.sh (.bl (Xy nm.length bs.length q)) : T)
structure yC (X : Cx) (CL : Str -> Addr) : Prop extends cj X where
 aJ : Ln X 0 "chart"
 qw : Ln X 1 "ask"
 yE : Ln X 2 "mark"
 cD : Gl X "is_place"
 Qw : Gl X "MARKS"
 cE : Gl X "is_term_right"
 dY : Fc X CL "is_place" 1 2 dG dH dI
 BE : GT X "MARKS" ["<", "<=", "=", "!="]
 fj : Fc X CL "is_term_right" 2 2 dP dQ dR
 aN : rQ X.K (CL "Chart")
 bu : aH X.K (CL "Chart") "names"
theorem yF {X : Cx} {CL : Str -> Addr} {b : Bx} (E : yC X CL) (bs nm tr is os ws q) (h : gA (bs, nm, tr, is, os, ws, q)) :
   aA X CL b iR ["chart", "ask", "mark"] (gy (bs, nm, tr, is, os, ws, q)) (gB (bs, nm, tr, is, os, ws, q)) := by
 dsimp only [aA, gA, gy, gB] at h ⊢
 cases q with
 | Jt x m =>
   refine aV E.g E.yE (dg (b9 (aG E.qw) (ai ak) (aP (j := 0) rfl)) rfl) ?_
   refine dW (Lj (l := ["open", "shut"]) (aG E.yE) (pP rfl)).1 (fun _ => ?_) (fun hp => absurd (show x ∈ (["open", "shut"] : List Str) from h) (ae3 hp))
   exact bM (aC (c_ (m, nm) E.dY E.cD (aj (b9 (aG E.qw) (ai ak) (aP (j := 1) rfl)) (aj (cg E.aN E.bu (aG E.aJ) fV) aF)) trivial rfl) rfl) rfl
 | num mk a1 c1 a2 c2 =>
   refine aV E.g E.yE (dg (b9 (aG E.qw) (ai ak) (aP (j := 0) rfl)) rfl) ?_
   refine dW (Lj (l := ["open", "shut"]) (aG E.yE) (pP rfl)).1 (fun hp => absurd (aez hp) h) (fun _ => az ?_)
   exact bM (mG (Hl (l := ["<", "<=", "=", "!="]) (aG E.yE) (ai (sd E.BE E.Qw)) rfl rfl).2 (fun _ => mG (aC (c_ (bs, nm, tr, is, os, ws, a1, c1) E.fj E.cE (aj (aG E.aJ) (aj (b9 (aG E.qw) (ai ak) (aP (j := 1) rfl)) aF)) trivial rfl) (t2 := .sh (.bl (CQ bs.length a1 c1))) rfl) (fun _ => oA (aC (c_ (bs, nm, tr, is, os, ws, a2, c2) E.fj E.cE (aj (aG E.aJ) (aj (b9 (aG E.qw) (ai ak) (aP (j := 2) rfl)) aF)) trivial rfl) (t2 := .sh (.bl (CQ bs.length a2 c2))) rfl)))) rfl
theorem dm : mD (aq iR) ([("chart", ay), ("ask", ay), ("mark", ay), ("is_place", av), ("MARKS", av), ("is_term_right", av)]) = true := by decide +kernel
theorem nR : aK ["chart", "ask", "mark"] ["chart", "ask"] (aq iR) := aT
noncomputable abbrev iS : Stmt := top 38
noncomputable abbrev kT : Type := List L3.D × List L3.D × L3.D × List L3.D × List L3.D × List L3.D × Int × Str × List N7 × List L3.D × Int × Str
noncomputable def gC : kT -> List L3.D := fun (bs, nm, tr, is, os, ws, src, sg, al, dd, tg, md) => [gK bs nm tr is os ws, .tup [.int src, .str sg, .tup (al.map DH), .tup dd, .int tg, .str md]]
noncomputable def gD : kT -> Prop := fun (bs, nm, tr, is, os, ws, src, sg, al, dd, tg, md) => xj src nm.length = true /\ (sg.length <= 1000 /\ fW sg = true) /\ md ∈ (["new", "near", "far"] : List Str) /\ ((tg = -1 /\ md = "new") \/ (tg ≠ -1 /\ xj tg nm.length = true)) /\ ∀ q ∈ al, LX q /\ Xy nm.length bs.length q = true
noncomputable def gE : kT -> T := fun (bs, nm, tr, is, os, ws, src, sg, al, dd, tg, md) => (.sh (.bl true) : T)
structure yG (X : Cx) (CL : Str -> Addr) : Prop extends cj X where
 aJ : Ln X 0 "chart"
 gP : Ln X 1 "way"
 jI : Ln X 2 "target"
 qN : Ln X 3 "mode"
 qw : Ln X 4 "ask"
 MD : Gl X "TARGET"
 Vc : Gl X "MODE"
 cD : Gl X "is_place"
 sY : Gl X "SOURCE"
 iD : Gl X "is_name"
 Vd : Gl X "SIGN"
 Qx : Gl X "MODES"
 Ve : Gl X "ASKS"
 kU : Gl X "is_ask_right"
 MF : ∃ u, X.mg "TARGET" = some (.int 4 u)
 Vf : ∃ u, X.mg "MODE" = some (.int 5 u)
 dY : Fc X CL "is_place" 1 2 dG dH dI
 sZ : ∃ u, X.mg "SOURCE" = some (.int 0 u)
 kF : Fc X CL "is_name" 1 1 iA iB iC
 Vg : ∃ u, X.mg "SIGN" = some (.int 1 u)
 BF : GT X "MODES" ["new", "near", "far"]
 Vh : ∃ u, X.mg "ASKS" = some (.int 2 u)
 yH : Fc X CL "is_ask_right" 3 2 gy gA gB
 aN : rQ X.K (CL "Chart")
 bu : aH X.K (CL "Chart") "names"
theorem yI {X : Cx} {CL : Str -> Addr} {b : Bx} (E : yG X CL) (bs nm tr is os ws src sg al dd tg md) (h : gD (bs, nm, tr, is, os, ws, src, sg, al, dd, tg, md)) :
   aA X CL b iS ["chart", "way", "target", "mode", "ask"] (gC (bs, nm, tr, is, os, ws, src, sg, al, dd, tg, md)) (gE (bs, nm, tr, is, os, ws, src, sg, al, dd, tg, md)) := by
 dsimp only [aA, gD, gC, gE] at h ⊢
 obtain ⟨h1, ⟨h2, h3⟩, h4, h5, h6⟩ := h
 refine aV E.g E.jI (dg (b9 (aG E.gP) (ai (gM E.MF E.MD)) (aP (j := 4) rfl)) rfl) ?_
 refine aV E.g E.qN (dg (b9 (aG E.gP) (ai (gM E.Vf E.Vc)) (aP (j := 5) rfl)) rfl) ?_
 refine dW (vV (kI (fP (jB (aC (c_ (src, nm) E.dY E.cD (aj (b9 (aG E.gP) (ai (gM E.sZ E.sY)) (aP (j := 0) rfl)) (aj (cg E.aN E.bu (aG E.aJ) fV) aF)) trivial rfl) (t2 := .sh (.bl true)) (congrArg (fun z => T.sh (.bl z)) h1)))) (fun _ => kI (fP (jB (aC (c_ sg E.kF E.iD (aj (b9 (aG E.gP) (ai (gM E.Vg E.Vd)) (aP (j := 1) rfl)) aF) h2 rfl) (t2 := .sh (.bl true)) (congrArg (fun z => T.sh (.bl z)) h3)))) (fun _ => lG (Ho (l := ["new", "near", "far"]) (aG E.qN) (ai (sd E.BF E.Qx)) rfl rfl).1)))) (fun hp => ?_) (fun _ => az ?_)
 . rw [aej h4] at hp
   exact absurd hp (by decide)
 refine aaq (fun δ => δ = [some (.sh (gK bs nm tr is os ws)), some (.sh (.tup [.int src, .str sg, .tup (al.map DH), .tup dd, .int tg, .str md])), some (.sh (.int tg)), some (.sh (.str md)), none]) (fun δ2 e2 => ?_) (fun k => ?_)
 . subst e2
   refine jD E.g E.qw (fun j δ => ∃ o, δ = [some (.sh (gK bs nm tr is os ws)), some (.sh (.tup [.int src, .str sg, .tup (al.map DH), .tup dd, .int tg, .str md])), some (.sh (.int tg)), some (.sh (.str md)), o])
     (Ld (dg (b9 (aG E.gP) (ai (gM E.Vh E.Ve)) (aP (j := 2) rfl)) (LY al))) ⟨_, rfl⟩ (fun j δ ⟨_, e⟩ => by subst e; exact aec rfl) ?turn ?fin
   case turn =>
     rintro j d δ hj ⟨o, rfl⟩
     obtain ⟨q, hq, rfl⟩ := aeu.mp (aeQ hj)
     obtain ⟨q1, q2⟩ := h6 q hq
     exact dW (fP (jB (aC (c_ (bs, nm, tr, is, os, ws, q) E.yH E.kU (aj (aG E.aJ) (aj (aG E.qw) aF)) q1 rfl) (t2 := .sh (.bl true)) (congrArg (fun z => T.sh (.bl z)) q2)))) (fun hp => absurd hp (by decide)) (fun _ => az (az ⟨_, rfl⟩))
   case fin =>
     rintro δ ⟨o, rfl⟩
     exact bM nO rfl
 rcases h5 with ⟨e1, e2⟩ | ⟨e1, e2⟩
 . refine dW (kH (aG E.jI) (ai (kJ (ai ak)))).1 (fun _ => ?_) (fun hp => absurd e1 (ae3 hp))
   refine dW (EL (aG E.qN) (ai cN)).1 (fun hp => ?_) (fun _ => az (az (k _ rfl)))
   rw [aej e2] at hp
   exact absurd hp (by decide)
 . refine dW (kH (aG E.jI) (ai (kJ (ai ak)))).1 (fun hp => absurd (aez hp) e1) (fun _ => ?_)
   refine dW (fP (jB (aC (c_ (tg, nm) E.dY E.cD (aj (aG E.jI) (aj (cg E.aN E.bu (aG E.aJ) fV) aF)) trivial rfl) (t2 := .sh (.bl true)) (congrArg (fun z => T.sh (.bl z)) e2)))) (fun hp => absurd hp (by decide)) (fun _ => az (az (k _ rfl)))
theorem aO : mD (aq iS) ([("chart", ay), ("way", ay), ("target", ay), ("mode", ay), ("ask", ay), ("TARGET", av), ("MODE", av), ("is_place", av), ("SOURCE", av), ("is_name", av), ("SIGN", av), ("MODES", av), ("ASKS", av), ("is_ask_right", av)]) = true := by decide +kernel
theorem nS : aK ["chart", "way", "target", "mode", "ask"] ["chart", "way"] (aq iS) := aT
noncomputable abbrev gF : Stmt := top 37
noncomputable abbrev jo : Type := List L3.D × List L3.D × L3.D × List L3.D × List L3.D × List Hz
noncomputable def e9 : jo -> List L3.D := fun (bs, nm, tr, is, os, ws) => [gK bs nm tr is os (ws.map uw)]
noncomputable def cZ : jo -> Prop := fun (bs, nm, tr, is, os, ws) => (∀ w ∈ ws, w.Ok nm.length bs.length) /\ ws.Pairwise (fun a c => a.src <= c.src)
noncomputable def fc : jo -> T := fun (bs, nm, tr, is, os, ws) => (.sh (.bl true) : T)
structure uO (X : Cx) (CL : Str -> Addr) : Prop extends cj X where
 aJ : Ln X 0 "chart"
 Ft : Ln X 1 "last"
 gP : Ln X 2 "way"
 sY : Gl X "SOURCE"
 kW : Gl X "is_way_right"
 sZ : ∃ u, X.mg "SOURCE" = some (.int 0 u)
 yJ : Fc X CL "is_way_right" 4 2 gC gD gE
 aN : rQ X.K (CL "Chart")
 e7 : aH X.K (CL "Chart") "ways"
theorem uP {X : Cx} {CL : Str -> Addr} {b : Bx} (E : uO X CL) (bs nm tr is os ws) (h : cZ (bs, nm, tr, is, os, ws)) :
   aA X CL b gF ["chart", "last", "way"] (e9 (bs, nm, tr, is, os, ws)) (fc (bs, nm, tr, is, os, ws)) := by
 dsimp only [aA, cZ, e9, fc] at h ⊢
 obtain ⟨h1, h2⟩ := h
 refine aV E.g E.Ft ak ?_
 refine jD E.g E.gP (fun j δ => ∃ (l : Int) (o : Option T), (∀ w ∈ ws.drop j, l <= w.src) /\ δ = [some (.sh (gK bs nm tr is os (ws.map uw))), some (.sh (.int l)), o])
   (mJ (iI E.aN E.e7 (v_ E.aJ.1) qJ)) ⟨0, none, fun w hw => ?_, rfl⟩ (fun j δ ⟨_, _, _, e⟩ => by subst e; exact aec rfl) ?turn ?fin
 . have := (h1 w (List.mem_of_mem_drop hw)).1
   unfold xj at this
   rw [aev] at this
   exact aez this.1
 case turn =>
   rintro j d δ hj ⟨l, o, hl, rfl⟩
   obtain ⟨w, hw, rfl⟩ : ∃ w, ws[j]? = some w /\ uw w = d := by rw [aeS] at hj; exact afE.mp hj
   have xm : j < ws.length := (aeD.mp hw).1
   have hdr : ws.drop j = w :: ws.drop (j + 1) := by rw [afs xm, (aeD.mp hw).2]
   have hwm : w ∈ ws := aeQ hw
   have hlw : l <= w.src := hl w (by rw [hdr]; exact aef)
   refine dW (vV (kI (G7 (b9 (aG E.gP) (ai (gM E.sZ E.sY)) (aP (j := 0) rfl)) (aG E.Ft)).1 (fun _ => lG (fP (jB (aC (c_ (bs, nm, tr, is, os, ws.map uw, w.src, w.sign, w.al, w.dl.map lQ, w.tgt, w.mode) E.yJ E.kW (aj (aG E.aJ) (aj (aG E.gP) aF)) (h1 w hwm) rfl) (t2 := .sh (.bl true)) rfl)))))) (fun hp => ?_) (fun _ => az ?_)
   . have hp : (decide (w.src < l) || !true) = true := hp
     rw [aeA (by omega)] at hp
     exact absurd hp (by decide)
   refine aV E.g E.Ft (dg (b9 (aG E.gP) (ai (gM E.sZ E.sY)) (aP (j := 0) rfl)) rfl) (az ⟨w.src, _, fun v hv => ?_, rfl⟩)
   have hp := h2.drop (i := j)
   rw [hdr] at hp
   exact (afm.mp hp).1 v hv
 case fin =>
   rintro δ ⟨l, o, _, rfl⟩
   exact bM nO rfl
theorem dS : mD (aq gF) ([("chart", ay), ("last", ay), ("way", ay), ("SOURCE", av), ("is_way_right", av)]) = true := by decide +kernel
theorem lA : aK ["chart", "last", "way"] ["chart"] (aq gF) := aT
noncomputable abbrev tu : Stmt := top 29
noncomputable abbrev yK : Type := (List (Str × Int)) × List Str × List Str × List Int × List Int × List (List vH) × List (List vH) × List Hz
noncomputable def m8 : yK -> List L3.D := fun (bs, nm, ks, es, ss, is, os, ws) => [gK (bs.map Ag) (nm.map .str) (jj ks es ss) (is.map fun l => L3.D.tup (l.map lQ)) (os.map fun l => L3.D.tup (l.map lQ)) (ws.map uw)]
noncomputable def jq : yK -> Prop := fun (bs, nm, ks, es, ss, is, os, ws) => (Jv ks es ss /\ nm.length = es.length /\ es.length <= 400) /\ ((∀ x ∈ nm, x.length <= 1000 /\ fW x = true) /\ nm.Nodup) /\ ((∀ q ∈ bs, (q.1.length <= 1000 /\ fW q.1 = true) /\ R7 q.2 = true) /\ (bs.map (·.1)).Nodup /\ bs.length <= 1000) /\ (is.length = nm.length /\ os.length = nm.length /\ ws.length <= 100 /\ (∀ l ∈ is ++ os ++ ws.map (·.dl), ∀ q ∈ l, R8 q /\ LZ bs.length q = true)) /\ (∀ w ∈ ws, w.Ok nm.length bs.length) /\ ws.Pairwise (fun a c => a.src <= c.src)
noncomputable def m9 : yK -> T := fun (bs, nm, ks, es, ss, is, os, ws) => (.sh .non : T)
structure MG (X : Cx) (CL : Str -> Addr) : Prop extends cj X where
 aJ : Ln X 0 "chart"
 jP : Gl X "is_tree_right"
 Wb : Gl X "BadTree"
 dO : Gl X "are_names_right"
 Wc : Gl X "BadName"
 iT : Gl X "are_boxes_right"
 XZ : Gl X "BadBox"
 iU : Gl X "are_deeds_right"
 Wd : Gl X "BadDeed"
 jr : Gl X "are_ways_right"
 X3 : Gl X "BadWay"
 wg : Fc X CL "is_tree_right" 4 2 fD dN fE
 iP : Fc X CL "are_names_right" 2 1 cK bI cL
 tD : Fc X CL "are_boxes_right" 3 1 ef eo ez
 tE : Fc X CL "are_deeds_right" 4 1 eB cM eF
 uQ : Fc X CL "are_ways_right" 5 1 e9 cZ fc
 aN : rQ X.K (CL "Chart")
 iV : aH X.K (CL "Chart") "tree"
 bu : aH X.K (CL "Chart") "names"
 b8 : aH X.K (CL "Chart") "boxes"
theorem MH {X : Cx} {CL : Str -> Addr} {b : Bx} (E : MG X CL) (bs nm ks es ss is os ws) (h : jq (bs, nm, ks, es, ss, is, os, ws)) :
   aA X CL b tu ["chart"] (m8 (bs, nm, ks, es, ss, is, os, ws)) (m9 (bs, nm, ks, es, ss, is, os, ws)) := by
 dsimp only [aA, jq, m8, m9] at h ⊢
 obtain ⟨⟨h1, h2, h3⟩, ⟨h4, h5⟩, h6, ⟨h7, h8, h9, h10⟩, h11, h12⟩ := h
 have el : (nm.map L3.D.str).length = nm.length := aea ..
 have eb : (bs.map Ag).length = bs.length := aea ..
 refine dW (fP (jB (aC (c_ (ks, es, ss, nm.map L3.D.str) E.wg E.jP (aj (cg E.aN E.iV (aG E.aJ) yc) (aj (cg E.aN E.bu (aG E.aJ) fV) aF)) (by dsimp only [dN]; exact ⟨h1, by omega⟩) rfl) (t2 := .sh (.bl true)) rfl))) (fun hp => absurd hp (by decide)) (fun _ => az ?_)
 refine dW (fP (jB (aC (c_ nm E.iP E.dO (aj (cg E.aN E.bu (aG E.aJ) fV) aF) (by dsimp only [bI]; exact ⟨h4, h5, by omega⟩) rfl) (t2 := .sh (.bl true)) rfl))) (fun hp => absurd hp (by decide)) (fun _ => az ?_)
 refine dW (fP (jB (aC (c_ bs E.tD E.iT (aj (cg E.aN E.b8 (aG E.aJ) ly) aF) h6 rfl) (t2 := .sh (.bl true)) rfl))) (fun hp => absurd hp (by decide)) (fun _ => az ?_)
 refine dW (fP (jB (aC (c_ (bs.map Ag, nm.map L3.D.str, jj ks es ss, is, os, ws) E.tE E.iU (aj (aG E.aJ) aF) (by dsimp only [cM]; rw [el, eb]; exact ⟨h7, h8, by omega, h9, h10⟩) rfl) (t2 := .sh (.bl true)) rfl))) (fun hp => absurd hp (by decide)) (fun _ => az ?_)
 refine dW (fP (jB (aC (c_ (bs.map Ag, nm.map L3.D.str, jj ks es ss, is.map fun l => L3.D.tup (l.map lQ), os.map fun l => L3.D.tup (l.map lQ), ws) E.uQ E.jr (aj (aG E.aJ) aF) (by dsimp only [cZ]; rw [el, eb]; exact ⟨h11, h12⟩) rfl) (t2 := .sh (.bl true)) rfl))) (fun hp => absurd hp (by decide)) (fun _ => az ?_)
 exact az rfl
theorem eN : mD (aq tu) ([("chart", ay), ("is_tree_right", av), ("BadTree", av), ("are_names_right", av), ("BadName", av), ("are_boxes_right", av), ("BadBox", av), ("are_deeds_right", av), ("BadDeed", av), ("are_ways_right", av), ("BadWay", av)]) = true := by decide +kernel
theorem Ak : aK ["chart"] ["chart"] (aq tu) := aT
noncomputable abbrev s_same : Stmt := top 58
noncomputable abbrev Fv : Type := List (List L3.D)
noncomputable def tF : Fv -> List L3.D := fun ls => [.lst (ls.map .lst), .lst (ls.map .lst)]
noncomputable def oX : Fv -> Prop := fun ls => ls.length = 8 /\ ∀ l ∈ ls, lO 60 (.lst l)
noncomputable def tG : Fv -> T := fun ls => (.sh (.bl true) : T)
structure Vi (X : Cx) (CL : Str -> Addr) : Prop extends cj X where
 jy : Ln X 0 "found"
 kr : Ln X 1 "parts"
 mP : Ln X 2 "k"
 cA : Gl X "range"
 BG : Gl X "isinstance"
 kX : Gl X "list"
 cB : X.mg "range" = none
 BH : X.mg "isinstance" = none
 jt : X.mg "list" = none
theorem Vj {X : Cx} {CL : Str -> Addr} {b : Bx} (E : Vi X CL) (ls) (h : oX ls) :
   aA X CL b s_same ["found", "parts", "k"] (tF ls) (tG ls) := by
 dsimp only [aA, oX, tF, tG] at h ⊢
 obtain ⟨hl, hd⟩ := h
 refine jD E.g E.mP (fun j δ => ∃ o, δ = [some (.sh (.lst (ls.map .lst))), some (.sh (.lst (ls.map .lst))), o])
   (fS E.cB (ai ak) (by omega) E.cA) ⟨_, rfl⟩ (fun j δ ⟨_, e⟩ => by subst e; exact aec rfl) ?turn ?fin
 case turn =>
   rintro j d δ hj ⟨o, rfl⟩
   obtain ⟨rfl, xm⟩ := iH hj
   rw [afb]
   have hj8 : j < 8 := xm
   have Sf : zL (ls.map L3.D.lst) (j : Int) = some (.lst (ls.getD j [])) := (qF [] (by omega) (by omega)).trans (by rw [ae1])
   have Wf : lO 60 (.lst (ls.getD j [])) := hd _ (by
     rw [aeg, aeo (by omega)]
     exact afe _)
   refine dW (vV (kI (fP (jB (isL E.BH E.jt E.BG E.kX (bG (aG E.jy) (aG E.mP) Sf)))) (fun _ => lG (xT E.u (bG (aG E.jy) (aG E.mP) Sf) (bG (aG E.kr) (aG E.mP) Sf) Wf Wf).1))) (fun hp => ?_) (fun _ => az (az ⟨_, rfl⟩))
   rw [xS Wf] at hp
   exact absurd hp (by decide)
 case fin =>
   rintro δ ⟨o, rfl⟩
   exact bM nO rfl
theorem qf : mD (aq s_same) ([("found", ay), ("parts", ay), ("k", ay), ("range", av), ("isinstance", av), ("list", av)]) = true := by decide +kernel
theorem Ih : aK ["found", "parts", "k"] ["found", "parts"] (aq s_same) := aT
noncomputable abbrev tH : Stmt := top 57
noncomputable abbrev yL : Type := List L3.D × List L3.D × List Str × List Int × List Int × List L3.D × List L3.D × List L3.D
noncomputable def ng : yL -> List L3.D := fun (bs, nm, ks, es, ss, is, os, ws) => [gK bs nm (jj ks es ss) is os ws]
noncomputable def nh : yL -> Prop := fun (bs, nm, ks, es, ss, is, os, ws) => True
noncomputable def ni : yL -> T := fun (bs, nm, ks, es, ss, is, os, ws) => (.sh (.lst ([bs, nm, ks.map .str, es.map .int, ss.map .int, is, os, ws].map .lst)) : T)
structure MJ (X : Cx) (CL : Str -> Addr) : Prop extends cj X where
 aJ : Ln X 0 "chart"
 bA : Ln X 1 "tree"
 aN : rQ X.K (CL "Chart")
 bU : rQ X.K (CL "Tree")
 iV : aH X.K (CL "Chart") "tree"
 b8 : aH X.K (CL "Chart") "boxes"
 bu : aH X.K (CL "Chart") "names"
 b7 : aH X.K (CL "Tree") "kinds"
 aM : aH X.K (CL "Tree") "elders"
 dZ : aH X.K (CL "Tree") "starts"
 iE : aH X.K (CL "Chart") "ins"
 gw : aH X.K (CL "Chart") "outs"
 e7 : aH X.K (CL "Chart") "ways"
theorem MK {X : Cx} {CL : Str -> Addr} {b : Bx} (E : MJ X CL) (bs nm ks es ss is os ws) (h : nh (bs, nm, ks, es, ss, is, os, ws)) :
   aA X CL b tH ["chart", "tree"] (ng (bs, nm, ks, es, ss, is, os, ws)) (ni (bs, nm, ks, es, ss, is, os, ws)) := by
 dsimp only [aA, nh, ng, ni] at h ⊢
 refine aV E.g E.bA (iI E.aN E.iV (v_ E.aJ.1) yc) ?_
 exact bM (aC (O6 (aR (iI E.aN E.b8 (v_ E.aJ.1) ly) (aR (iI E.aN E.bu (v_ E.aJ.1) fV) (aR (iI E.bU E.b7 (v_ E.bA.1) kL) (aR (iI E.bU E.aM (v_ E.bA.1) cR) (aR (iI E.bU E.dZ (v_ E.bA.1) oF)
   (aR (iI E.aN E.iE (v_ E.aJ.1) uJ) (aR (iI E.aN E.gw (v_ E.aJ.1) qI) (aR (iI E.aN E.e7 (v_ E.aJ.1) qJ) jl))))))))) (t2 := .sh (.lst ([bs, nm, ks.map .str, es.map .int, ss.map .int, is, os, ws].map .lst))) rfl) rfl
theorem Al : mD (aq tH) ([("chart", ay), ("tree", ay)]) = true := by decide +kernel
theorem Am : aK ["chart", "tree"] ["chart"] (aq tH) := aT
noncomputable abbrev lB : Stmt := inClass (top 21) 0
noncomputable abbrev oY : Type := List Str × List Int × List Int
noncomputable def qx : oY -> List L3.D := fun (ks, es, ss) => [.lst (ks.map .str), .lst (es.map .int), .lst (ss.map .int)]
noncomputable def qy : oY -> Prop := fun (ks, es, ss) => True
noncomputable def qz : oY -> List (Str × T) := fun (ks, es, ss) => (x8 ks es ss : List (Str × T))
structure D0 (X : Cx) (CL : Str -> Addr) : Prop extends cj X where
 lH : Ln X 0 "self"
 ki : Ln X 1 "kinds"
 bQ : Ln X 2 "elders"
 lW : Ln X 3 "starts"
 kX : Gl X "list"
 jt : X.mg "list" = none
 bU : rQ X.K (CL "Tree")
 b7 : aH X.K (CL "Tree") "kinds"
 aM : aH X.K (CL "Tree") "elders"
 dZ : aH X.K (CL "Tree") "starts"
theorem D3 {X : Cx} {CL : Str -> Addr} {b : Bx} (E : D0 X CL) (ks : List Str) (es ss : List Int) (y : Addr) (h : True) :
   gk X CL b (jx lB) (Lq ["self", "kinds", "elders", "starts"] y "Tree" [.lst (ks.map .str), .lst (es.map .int), .lst (ss.map .int)]) { nx := fun δ => δ[0]? = some (some (.pin y (.ins "Tree" (x8 ks es ss)))), rt := fun _ _ => False } := by
 have hi : D.bZ (ks.map L3.D.str) = true := bY (fun _ => rfl) _
 refine rZ E.bU E.b7 E.lH.1 (jC E.jt (aG E.ki) hi E.kX dX) rfl (aec rfl) ?_
 rw [iJ]
 refine rZ E.bU E.aM E.lH.1 (jC E.jt (aG E.bQ) (jE _) E.kX dX) rfl (aec rfl) ?_
 rw [bK (by decide +kernel), iJ]
 refine rZ E.bU E.dZ E.lH.1 (jC E.jt (aG E.lW) (jE _) E.kX dX) rfl (aec rfl) ?_
 rw [bK (by decide +kernel), bK (by decide +kernel), iJ]
 exact az rfl
theorem iW : mD (aq lB) ([("self", ay), ("kinds", ay), ("elders", ay), ("starts", ay), ("list", av)]) = true := by decide +kernel
theorem tK : aK ["self", "kinds", "elders", "starts"] ["self", "kinds", "elders", "starts"] (aq lB) := aT
noncomputable abbrev ku : Stmt := inClass (top 11) 0
noncomputable abbrev nj : Type := List L3.D × List L3.D × V × List L3.D × List L3.D × List L3.D
noncomputable def oZ : nj -> List L3.D := fun (bs, nm, tv, is, os, ws) => [.lst bs, .lst nm, .val tv, .lst is, .lst os, .lst ws]
noncomputable def pe : nj -> Prop := fun (bs, nm, tv, is, os, ws) => D.bZ bs = true /\ D.bZ nm = true /\ D.bZ is = true /\ D.bZ os = true /\ D.bZ ws = true
noncomputable def pA : nj -> List (Str × T) := fun (bs, nm, tv, is, os, ws) => (yf bs nm (.sh (.val tv)) is os ws : List (Str × T))
structure BI (X : Cx) (CL : Str -> Addr) : Prop extends cj X where
 lH : Ln X 0 "self"
 mW : Ln X 1 "boxes"
 bX : Ln X 2 "names"
 bA : Ln X 3 "tree"
 Ig : Ln X 4 "ins"
 Bo : Ln X 5 "outs"
 yr : Ln X 6 "ways"
 kX : Gl X "list"
 jt : X.mg "list" = none
 aN : rQ X.K (CL "Chart")
 b8 : aH X.K (CL "Chart") "boxes"
 bu : aH X.K (CL "Chart") "names"
 iV : aH X.K (CL "Chart") "tree"
 iE : aH X.K (CL "Chart") "ins"
 gw : aH X.K (CL "Chart") "outs"
 e7 : aH X.K (CL "Chart") "ways"
theorem BJ {X : Cx} {CL : Str -> Addr} {b : Bx} (E : BI X CL) (bs nm : List L3.D) (tv : V) (is os ws : List L3.D) (y : Addr) (h : D.bZ bs = true /\ D.bZ nm = true /\ D.bZ is = true /\ D.bZ os = true /\ D.bZ ws = true) :
   gk X CL b (jx ku) (Lq ["self", "boxes", "names", "tree", "ins", "outs", "ways"] y "Chart" [.lst bs, .lst nm, .val tv, .lst is, .lst os, .lst ws]) { nx := fun δ => δ[0]? = some (some (.pin y (.ins "Chart" (yf bs nm (.sh (.val tv)) is os ws)))), rt := fun _ _ => False } := by
 obtain ⟨h1, h2, h3, h4, h5⟩ := h
 refine rZ E.aN E.b8 E.lH.1 (jC E.jt (aG E.mW) h1 E.kX dX) rfl (aec rfl) ?_
 rw [iJ]
 refine rZ E.aN E.bu E.lH.1 (jC E.jt (aG E.bX) h2 E.kX dX) rfl (aec rfl) ?_
 rw [bK (by decide +kernel), iJ]
 refine rZ E.aN E.iV E.lH.1 (v_ E.bA.1) rfl (aec rfl) ?_
 rw [bK (by decide +kernel), bK (by decide +kernel), iJ]
 refine rZ E.aN E.iE E.lH.1 (jC E.jt (aG E.Ig) h3 E.kX dX) rfl (aec rfl) ?_
 rw [bK (by decide +kernel), bK (by decide +kernel), bK (by decide +kernel), iJ]
 refine rZ E.aN E.gw E.lH.1 (jC E.jt (aG E.Bo) h4 E.kX dX) rfl (aec rfl) ?_
 rw [bK (by decide +kernel), bK (by decide +kernel), bK (by decide +kernel), bK (by decide +kernel), iJ]
 refine rZ E.aN E.e7 E.lH.1 (jC E.jt (aG E.yr) h5 E.kX dX) rfl (aec rfl) ?_
 rw [bK (by decide +kernel), bK (by decide +kernel), bK (by decide +kernel), bK (by decide +kernel), bK (by decide +kernel), iJ]
 exact az rfl
theorem cT : mD (aq ku) ([("self", ay), ("boxes", ay), ("names", ay), ("tree", ay), ("ins", ay), ("outs", ay), ("ways", ay), ("list", av)]) = true := by decide +kernel
theorem qA : aK ["self", "boxes", "names", "tree", "ins", "outs", "ways"] ["self", "boxes", "names", "tree", "ins", "outs", "ways"] (aq ku) := aT
theorem yM {x : Str} (h : fW x = true) : PyData.strOk x = true := by
 unfold fW at h
 simp only [aev] at h
 have h := ae6.mp h.2.2.2.2
 unfold PyData.strOk
 rw [← Array.all_toList, ae6]
 intro c hc
 have := h c hc
 unfold isLt oG at this
 simp only [Bool.or_eq_true, aev, afF] at this
 refine aej ?_
 omega
theorem BK {x : Str} {l : List Str} (h : x ∈ l) (hl : l.all (fun y => PyData.strOk y) = true) : PyData.strOk x = true := ae6.mp hl x h
theorem Fw {d : L3.D} {x y : L3.D} {n : Nat} (h1 : lO n x) (h2 : lO n y) : lO (n + 1) (.tup [x, y]) := .tup fun d hd => by
 simp only [aek, aeF, or_false] at hd
 rcases hd with rfl | rfl
 . exact h1
 . exact h2
theorem Vk {x y z : L3.D} {n : Nat} (h1 : lO n x) (h2 : lO n y) (h3 : lO n z) : lO (n + 1) (.tup [x, y, z]) := .tup fun d hd => by
 simp only [aek, aeF, or_false] at hd
 rcases hd with rfl | rfl | rfl
 . exact h1
 . exact h2
 . exact h3
theorem ML {n k : Nat} {q : vH} (h : LZ n q = true) : lO (k + 2) (lQ q) := by
 cases q with
 | put i a c => exact Vk (.str _ _ (by decide +kernel)) (.int _ _) (Fw (d := .non) (.int _ _) (.int _ _))
 | say x a c =>
   have h : (fW x && CQ n a c) = true := h
   rw [aev] at h
   exact Vk (.str _ _ (by decide +kernel)) (.str _ _ (yM h.1)) (Fw (d := .non) (.int _ _) (.int _ _))
 | call x => exact Fw (d := .non) (.str _ _ (by decide +kernel)) (.str _ _ (yM h))
theorem Vl {n m k : Nat} {q : N7} (h : LX q /\ Xy n m q = true) : lO (k + 2) (DH q) := by
 cases q with
 | Jt x i => exact Fw (d := .non) (.str _ _ (BK h.1 (by decide +kernel))) (.int _ _)
 | num mk a c a2 c2 =>
   have h : (decide (mk ∈ (["<", "<=", "=", "!="] : List Str)) && (CQ m a c && CQ m a2 c2)) = true := h.2
   rw [aev] at h
   exact Vk (.str _ _ (BK (aez h.1) (by decide +kernel))) (Fw (d := .non) (.int _ _) (.int _ _)) (Fw (d := .non) (.int _ _) (.int _ _))
theorem Vm {n m : Nat} {w : Hz} (h : w.Ok n m) (hd : ∀ q ∈ w.dl, LZ m q = true) : lO 59 (uw w) := .tup fun d N1 => by
 obtain ⟨_, ⟨_, h2⟩, h3, _, h5⟩ := h
 simp only [aek, aeF, or_false] at N1
 rcases N1 with rfl | rfl | rfl | rfl | rfl | rfl
 . exact .int _ _
 . exact .str _ _ (yM h2)
 . refine .tup fun d hq => ?_
   obtain ⟨q, hm, rfl⟩ := aeu.mp hq
   exact Vl (h5 q hm)
 . refine .tup fun d hq => ?_
   obtain ⟨q, hm, rfl⟩ := aeu.mp hq
   exact ML (hd q hm)
 . exact .int _ _
 . exact .str _ _ (BK h3 (by decide +kernel))
theorem Qy {bs : List (Str × Int)} {nm ks : List Str} {es ss : List Int} {is os : List (List vH)} {ws : List Hz} (h : Drawn bs nm ks es ss is os ws) : ∀ l ∈ jK bs nm ks es ss is os ws, lO 60 (.lst l) := fun l hl => by
 have Wf : ∀ l ∈ is ++ os ++ ws.map (·.dl), ∀ q ∈ l, LZ bs.length q = true := fun l hl q hq => (h.dds.2.2.2 l hl q hq).2
 have X4 : ∀ rw : List (List vH), (∀ l ∈ rw, l ∈ is ++ os ++ ws.map (·.dl)) -> lO 60 (.lst (rw.map ux)) := fun rw hr => .lst fun d hd => by
   obtain ⟨l, hl, rfl⟩ := aeu.mp hd
   refine .tup fun d hd => ?_
   obtain ⟨q, hq, rfl⟩ := aeu.mp hd
   exact ML (Wf l (hr l hl) q hq)
 have X5 : ∀ l : List Str, (∀ x ∈ l, PyData.strOk x = true) -> lO 60 (.lst (l.map .str)) := fun l hx => .lst fun d hd => by
   obtain ⟨x, hm, rfl⟩ := aeu.mp hd
   exact .str _ _ (hx x hm)
 unfold jK at hl
 simp only [aek, aeF, or_false] at hl
 rcases hl with rfl | rfl | rfl | rfl | rfl | rfl | rfl | rfl
 . refine .lst fun d hd => ?_
   obtain ⟨q, hq, rfl⟩ := aeu.mp hd
   exact Fw (d := .non) (.str _ _ (yM (h.Wa.1 q hq).1.2)) (.int _ _)
 . exact X5 _ fun x hx => yM (h.Zg.1 x hx).2
 . refine X5 _ fun x hx => ?_
   obtain ⟨i, hi, rfl⟩ := List.getElem_of_mem hx
   have := (h.tr.1.kinds i (by have := h.tr.1.kl; omega)).1
   rw [aeg, aeo hi] at this
   exact BK this (by decide +kernel)
 . exact jG _
 . exact jG _
 . exact X4 is fun l hl => aei _ (aei _ hl)
 . exact X4 os fun l hl => aei _ (aeb _ hl)
 . refine .lst fun d hd => ?_
   obtain ⟨w, hw, rfl⟩ := aeu.mp hd
   exact Vm (h.wys w hw) (fun q hq => Wf w.dl (aeb _ (aeu.mpr ⟨w, hw, rfl⟩)) q hq)
noncomputable def X6 : L3.D -> T
 | .lst l => .lst (l.map T.sh)
 | _ => .sh .non
noncomputable def JL (ls : List (List L3.D)) : List T := ls.map fun l => T.lst (l.map T.sh)
theorem An : ∀ ls : List (List L3.D), T.fM (JL ls) = ls.map .lst
 | [] => by show T.fM [] = _; rw [T.fM]; rfl
 | l :: ls => by
   show T.fM (T.lst (l.map T.sh) :: JL ls) = _
   rw [T.fM, c9, An ls]
   rfl
theorem iX (ls : List (List L3.D)) : T.fh (.lst (JL ls)) = .lst (ls.map .lst) := by rw [T.fh, An]
noncomputable abbrev Ii : Stmt := top 59
noncomputable abbrev MN : Type := List Int
noncomputable def qg : MN -> List L3.D := fun a => [.lst (a.map .int)]
noncomputable def qh : MN -> Prop := fun a => a.length <= 63
noncomputable def qi : MN -> T := fun a => (.sh (.bl true) : T)
structure X7 (X : Cx) (CL : Str -> Addr) : Prop extends cj X where
 aY : Ln X 0 "script"
 kr : Ln X 1 "parts"
 uR : Ln X 2 "part"
 gb : Ln X 3 "handed"
 bA : Ln X 4 "tree"
 aJ : Ln X 5 "chart"
 BL : Gl X "_law_parts"
 Vo : Gl X "Tree"
 Qz : Gl X "Chart"
 tL : Gl X "looked"
 pB : Gl X "_law_same"
 qB : Gl X "_law_fields"
 QB : Fc X CL "_law_parts" 5 1 pY pZ qa
 Vp : Fm X CL "Tree" 1 4 qx qy qz
 QC : Fm X CL "Chart" 1 7 oZ pe pA
 D4 : Fc X CL "looked" 6 1 m8 jq m9
 Fx : Fc X CL "_law_same" 1 2 tF oX tG
 D5 : Fc X CL "_law_fields" 1 1 ng nh ni
 jt : X.mg "list" = none
theorem X8 {X : Cx} {CL : Str -> Addr} {b : Bx} (E : X7 X CL) (a) (h : qh a) :
   aA X CL b Ii ["script", "parts", "part", "handed", "tree", "chart"] (qg a) (qi a) := by
 dsimp only [aA, qh, qg, qi] at h ⊢
 have hs : a.length <= 100 := by omega
 refine aV E.g E.kr (cF a E.QB E.BL (aR (v_ E.aY.1) jl) hs) ?_
 have dr := Mw a (U8 a) (bE a 1 % 10 ^ (9 : Int).toNat)
 show gk X CL b _ [some (.sh (.lst (a.map .int))), some (.sh (.lst ((Bl a (U8 a) (bE a 1 % 10 ^ (9 : Int).toNat)).map .lst))), none, none, none, none] _
 unfold Bl
 generalize vX a _ _ _ _ _ = ws at dr ⊢
 generalize gG a _ _ 1 _ = is at dr ⊢
 generalize gG a _ _ 3 _ = os at dr ⊢
 generalize nW a _ _ = ks at dr ⊢
 generalize nX a _ _ = ss at dr ⊢
 generalize rO a _ = es at dr ⊢
 generalize cX _ _ = nm at dr ⊢
 generalize DV a _ = bs at dr ⊢
 have X9 := Qy dr
 have ib : D.bZ (bs.map Ag) = true := bY (fun _ => rfl) _
 have Sb : ∀ l : List (List vH), D.bZ (l.map ux) = true := fun l => bY (f := ux) (fun q => show D.bZ (q.map lQ) = true from bY (fun q => by cases q <;> rfl) _) l
 have iw : D.bZ (ws.map uw) = true := bY (f := uw) Ic ws
 refine A2 (p := fun _ => true) (gg := X6) E.g E.gb (fU .nil (by decide +kernel)) (mJ (v_ E.kr.1)) (.inr rfl) (fun C s0 H0 f0 b' d hd => ?Jz) (aW rfl) ?rest (by exact aec rfl) (rX ⟨_, rfl⟩)
 case Jz =>
   obtain ⟨l, hl, rfl⟩ := aeu.mp hd
   exact ⟨rfl, fun _ => K9 (by exact E.jt) (v_ (jJ (i := 0) rfl (by decide +kernel))) (j8 (by decide +kernel)) dX⟩
 case rest =>
 have em : (((jK bs nm ks es ss is os ws).map L3.D.lst).filter fun _ => true).map X6 = JL (jK bs nm ks es ss is os ws) := by
   rw [iz, aeN]
   rfl
 rw [em]
 refine aV E.g E.bA (aC (mk_ (ks, es, ss) E.Vp E.Vo (aj (bG (vE E.gb.1 rfl (iX _)) (ai ak) (aP (j := 2) rfl)) (aj (bG (vE E.gb.1 rfl (iX _)) (ai ak) (aP (j := 3) rfl)) (aj (bG (vE E.gb.1 rfl (iX _)) (ai ak) (aP (j := 4) rfl)) aF))) trivial (DG ks es ss)) (t2 := .ins "Tree" (x8 ks es ss)) rfl) ?_
 refine aV E.g E.aJ (AV (d := gK (bs.map Ag) (nm.map .str) (jj ks es ss) (is.map ux) (os.map ux) (ws.map uw)) (mkP (f := "tree") (DC := yd (bs.map Ag) (nm.map .str)) (J9 := ye (is.map ux) (os.map ux) (ws.map uw)) (fun v => (bs.map Ag, nm.map .str, v, is.map ux, os.map ux, ws.map uw)) E.QC E.Qz
   (DE (bG (vE E.gb.1 rfl (iX _)) (ai ak) (aP (j := 0) rfl)) (DE (bG (vE E.gb.1 rfl (iX _)) (ai ak) (aP (j := 1) rfl))
     (LJ (vM E.bA.1)
       (aj (bG (vE E.gb.1 rfl (iX _)) (ai ak) (aP (j := 5) rfl)) (aj (bG (vE E.gb.1 rfl (iX _)) (ai ak) (aP (j := 6) rfl)) (aj (bG (vE E.gb.1 rfl (iX _)) (ai ak) (aP (j := 7) rfl)) aF))))))
   (fun v => rfl) (fun v => ⟨ib, r6 _, Sb _, Sb _, iw⟩) (fun v => rfl) (A6 ib (r6 _)) (A7 (Sb _) (Sb _) iw)) (by
   show T.fh (.ins "Chart" (yf _ _ _ _ _ _)) = _
   rw [EZ, Js])) ?_
 have hlk : jq (bs, nm, ks, es, ss, is, os, ws) := by
   dsimp only [jq]
   exact ⟨dr.tr, ⟨fun x hx => ⟨by have := (dr.Zg.1 x hx).1; omega, (dr.Zg.1 x hx).2⟩, dr.Zg.2⟩, ⟨fun q hq => ⟨⟨by have := (dr.Wa.1 q hq).1.1; omega, (dr.Wa.1 q hq).1.2⟩, (dr.Wa.1 q hq).2⟩, dr.Wa.2⟩, dr.dds, dr.wys, dr.srt⟩
 have hsm : oX (jK bs nm ks es ss is os ws) := ⟨rfl, X9⟩
 refine dW (vV (kI (LW (ai (aC (c_ (bs, nm, ks, es, ss, is, os, ws) E.D4 E.tL (aj (aG E.aJ) aF) hlk rfl) (t2 := .sh .non) rfl))) (fun _ => kI (fP (jB (aC (c_ (jK bs nm ks es ss is os ws) E.Fx E.pB (aj (ai (cF (bs.map Ag, nm.map .str, ks, es, ss, is.map ux, os.map ux, ws.map uw) E.D5 E.qB (aR (v_ E.aJ.1) jl) trivial)) (aj (aG E.kr) aF)) hsm rfl) (t2 := .sh (.bl true)) rfl))) (fun _ => lG (fP (jB (aC (c_ (jK bs nm ks es ss is os ws) E.Fx E.pB (aj (vE E.gb.1 rfl (iX _)) (aj (aG E.kr) aF)) hsm rfl) (t2 := .sh (.bl true)) rfl))))))) (fun hp => absurd hp (by decide)) (fun _ => az ?_)
 refine UQ E.g E.uR E.gb.1 (tl := JL (jK bs nm ks es ss is os ws)) (fun j δ => ∃ o2, δ = [some (.sh (.lst (a.map .int))), some (.sh (.lst ((jK bs nm ks es ss is os ws).map .lst))), o2, none, none, some (.sh (gK (bs.map Ag) (nm.map .str) (jj ks es ss) (is.map ux) (os.map ux) (ws.map uw)))]) rfl ⟨_, rfl⟩ (fun j δ ⟨_, e⟩ => by subst e; exact aec rfl) ?turn ?fin
 case turn =>
   rintro j t δ hj ⟨o2, rfl⟩
   unfold JL at hj
   rw [aeS] at hj
   obtain ⟨l, hl, rfl⟩ := afE.mp hj
   have Yb := aeQ hl
   have hd := X9 l Yb
   obtain ⟨hi, hn⟩ : D.bZ l = true /\ l.length <= 1000 := by
     have t1 := dr.tr
     have t2 := dr.tr.1.kl
     have t3 := dr.tr.1.sl
     have t4 := dr.Wa.2.2
     have t5 := dr.dds
     unfold jK at Yb
     simp only [aek, aeF, or_false] at Yb
     rcases Yb with rfl | rfl | rfl | rfl | rfl | rfl | rfl | rfl
     . exact ⟨ib, by rw [aea]; omega⟩
     . exact ⟨r6 _, by rw [aea]; omega⟩
     . exact ⟨r6 _, by rw [aea]; omega⟩
     . exact ⟨jE _, by rw [aea]; omega⟩
     . exact ⟨jE _, by rw [aea]; omega⟩
     . exact ⟨Sb _, by rw [aea]; omega⟩
     . exact ⟨Sb _, by rw [aea]; omega⟩
     . exact ⟨iw, by rw [aea]; omega⟩
   clear hj hl Yb
   cases l with
   | nil => exact nP E.uR.1 rfl (K6 (t := .sh (.int 0)) (xT E.u (vL E.uR.1) (fz (ds := []) (dh eG (aey _))) hd hd).1 (fun hp => absurd hp (by rw [xS hd]; decide)) (fun _ => ak)) rfl (aey _) (az ⟨_, rfl⟩)
   | cons x l =>
     rw [D.bZ, aev] at hi
     exact nP E.uR.1 rfl (K6 (t := .sh x) (xT E.u (vL E.uR.1) (fz (ds := []) (dh eG (aey _))) hd (jG [])).1 (fun _ => dg (bG (vL E.uR.1) (ai ak) (aP (j := 0) rfl)) hi.1) (fun hp => by
       have e : O8 (.lst (x :: l)) (.lst []) = false := rfl
       rw [e] at hp
       cases hp)) rfl (by rw [aea]; omega) (az ⟨_, rfl⟩)
 case fin =>
   rintro δ ⟨o2, rfl⟩
   exact bM (aC (mG (UM (ai (aC (c_ (bs, nm, ks, es, ss, is, os, ws) E.D4 E.tL (aj (aG E.aJ) aF) hlk rfl) (t2 := .sh .non) rfl))).2 (fun _ => oA (aC (c_ (jK bs nm ks es ss is os ws) E.Fx E.pB (aj (ai (cF (bs.map Ag, nm.map .str, ks, es, ss, is.map ux, os.map ux, ws.map uw) E.D5 E.qB (aR (v_ E.aJ.1) jl) trivial)) (aj (aG E.kr) aF)) hsm rfl) (t2 := .sh (.bl true)) rfl))) (t2 := .sh (.bl true)) rfl) rfl
theorem jQ : mD (aq Ii) ([("script", ay), ("parts", ay), ("part", ay), ("handed", ay), ("tree", ay), ("chart", ay), ("_law_parts", av), ("Tree", av), ("Chart", av), ("looked", av), ("_law_same", av), ("_law_fields", av)]) = true := by decide +kernel
theorem MP : aK ["script", "parts", "part", "handed", "tree", "chart"] ["script"] (aq Ii) := aT
noncomputable def cl (ao au : Addr) : Str -> Addr := fun c => if c = "Chart" then ao else if c = "Tree" then au else 0
theorem iY {ao au : Addr} : cl ao au "Chart" = ao := by unfold cl; rw [aer rfl]
theorem qj {ao au : Addr} : cl ao au "Tree" = au := by unfold cl; rw [aeq (by decide +kernel)]; rw [aer rfl]
theorem Vq {ao au : Addr} {x : Str} (h : G5 x = true) : cl ao au x = 0 := by unfold cl; rw [aeq (fun e => by rw [e] at h; exact absurd h (by decide +kernel))]; rw [aeq (fun e => by rw [e] at h; exact absurd h (by decide +kernel))]
noncomputable def Yc {α : Type} : Nat -> (List α -> Prop) -> Prop
 | 0, P => P []
 | n + 1, P => ∀ a, Yc n fun r => P (a :: r)
theorem bD {α : Type} {n : Nat} {P : List α -> Prop} (h : Yc n P) : ∀ us : List α, us.length = n -> P us := by
 intro us hl
 induction us generalizing n P with
 | nil => subst hl; exact h
 | cons a r ih => subst hl; exact ih (P := fun r => P (a :: r)) (h a) rfl
theorem all_mk {l : PySem.W.OpenLaw} {w : World} {K : PySem.W.Frag} {h : Heap} {mg : Str -> Option Value} {fa uS qV yN BO BP MQ Fy Fz FD MR MS BQ BR BU g9 iZ qW ia jR uT i6 nk i7 jS jT i9 kY kZ ju yO FE yP lC kB Sh ao au : Addr} (XX : K.In h) (G : h.Ns mainGlobals mg) (hfa : mg "law" = some (.ref fa))
   {JM FG MT QD QF Yd Vr Vs Vt Ye Yg QG sM Bu g6 iL cD g7 jP iD dO iO iT cE jO iU kU kW jr tL g_same MV D6 BV Si : FuncData}
   (BW : PySem.W.nsIn K mainGlobals "Chart" = some (some (.ref ao))) (yQ : PySem.W.plainGet K ao Str.empty = true) (yR : PySem.W.hasDictIn K ao = true) (yS : PySem.W.plainOver K ao = true) (yT : PySem.W.findIn K (.ref ao) "__setattr__" = some (some (.builtin "object.__setattr__"))) (yU : PySem.W.makesIn K ao = true) (yV : PySem.W.keepIn K (.ref ao) = true)
   (lI : PySem.W.findIn K (.ref ao) "boxes" = some none)
   (lJ : PySem.W.findIn K (.ref ao) "names" = some none)
   (nq : PySem.W.findIn K (.ref ao) "tree" = some none)
   (pC : PySem.W.findIn K (.ref ao) "ins" = some none)
   (nu : PySem.W.findIn K (.ref ao) "outs" = some none)
   (ny : PySem.W.findIn K (.ref ao) "ways" = some none)
   (FH : PySem.W.nsIn K mainGlobals "Tree" = some (some (.ref au))) (BX : PySem.W.plainGet K au Str.empty = true) (BZ : PySem.W.hasDictIn K au = true) (B3 : PySem.W.plainOver K au = true) (B4 : PySem.W.findIn K (.ref au) "__setattr__" = some (some (.builtin "object.__setattr__"))) (B5 : PySem.W.makesIn K au = true) (B6 : PySem.W.keepIn K (.ref au) = true)
   (nA : PySem.W.findIn K (.ref au) "kinds" = some none)
   (lK : PySem.W.findIn K (.ref au) "elders" = some none)
   (lM : PySem.W.findIn K (.ref au) "starts" = some none)
   (uU : PySem.W.nsIn K mainGlobals "_law_cell_at" = some (some (.ref uS))) (uV : lN K "_law_cell_at" "_law_cell_at" pQ uS JM)
   (qX : PySem.W.nsIn K mainGlobals "_law_above" = some (some (.ref qV))) (qY : lN K "_law_above" "_law_above" mQ qV FG)
   (yW : PySem.W.nsIn K mainGlobals "_law_elders" = some (some (.ref yN))) (yX : lN K "_law_elders" "_law_elders" sf yN MT)
   (B7 : PySem.W.nsIn K mainGlobals "_law_kinds" = some (some (.ref BO))) (B8 : lN K "_law_kinds" "_law_kinds" xo BO QD)
   (B9 : PySem.W.nsIn K mainGlobals "_law_names" = some (some (.ref BP))) (Ca : lN K "_law_names" "_law_names" xq BP QF)
   (MX : PySem.W.nsIn K mainGlobals "_law_far" = some (some (.ref MQ))) (MY : lN K "_law_far" "_law_far" HP MQ Yd)
   (FI : PySem.W.nsIn K mainGlobals "_law_term" = some (some (.ref Fy))) (FJ : lN K "_law_term" "_law_term" Bd Fy Vr)
   (FL : PySem.W.nsIn K mainGlobals "_law_deed" = some (some (.ref Fz))) (FN : lN K "_law_deed" "_law_deed" Bf Fz Vs)
   (FP : PySem.W.nsIn K mainGlobals "_law_rows" = some (some (.ref FD))) (FQ : lN K "_law_rows" "_law_rows" Bg FD Vt)
   (MZ : PySem.W.nsIn K mainGlobals "_law_ask" = some (some (.ref MR))) (M0 : lN K "_law_ask" "_law_ask" HV MR Ye)
   (M3 : PySem.W.nsIn K mainGlobals "_law_way" = some (some (.ref MS))) (M4 : lN K "_law_way" "_law_way" HW MS Yg)
   (Cb : PySem.W.nsIn K mainGlobals "_law_parts" = some (some (.ref BQ))) (Cd : lN K "_law_parts" "_law_parts" xE BQ QG)
   (Ce : PySem.W.nsIn K mainGlobals "above" = some (some (.ref BR))) (Cg : lN K "above" "above" xF BR sM)
   (Ci : PySem.W.nsIn K mainGlobals "depth" = some (some (.ref BU))) (Cj : lN K "depth" "depth" xG BU Bu)
   (ic : PySem.W.nsIn K mainGlobals "are_elders_right" = some (some (.ref g9))) (ig : lN K "are_elders_right" "are_elders_right" eX g9 g6)
   (ja : PySem.W.nsIn K mainGlobals "are_kinds_right" = some (some (.ref iZ))) (jb : lN K "are_kinds_right" "are_kinds_right" fC iZ iL)
   (qZ : PySem.W.nsIn K mainGlobals "is_place" = some (some (.ref qW))) (rg : lN K "is_place" "is_place" mY qW cD)
   (iu : PySem.W.nsIn K mainGlobals "are_starts_right" = some (some (.ref ia))) (iy : lN K "are_starts_right" "are_starts_right" eY ia g7)
   (jU : PySem.W.nsIn K mainGlobals "is_tree_right" = some (some (.ref jR))) (jV : lN K "is_tree_right" "is_tree_right" gS jR jP)
   (uW : PySem.W.nsIn K mainGlobals "is_name" = some (some (.ref uT))) (uX : lN K "is_name" "is_name" qe uT iD)
   (jc : PySem.W.nsIn K mainGlobals "are_names_right" = some (some (.ref i6))) (jd : lN K "are_names_right" "are_names_right" fF i6 dO)
   (nB : PySem.W.nsIn K mainGlobals "is_bounded" = some (some (.ref nk))) (nE : lN K "is_bounded" "is_bounded" ko nk iO)
   (je : PySem.W.nsIn K mainGlobals "are_boxes_right" = some (some (.ref i7))) (jf : lN K "are_boxes_right" "are_boxes_right" fG i7 iT)
   (jW : PySem.W.nsIn K mainGlobals "is_term_right" = some (some (.ref jS))) (jX : lN K "is_term_right" "is_term_right" gT jS cE)
   (jY : PySem.W.nsIn K mainGlobals "is_deed_right" = some (some (.ref jT))) (jZ : lN K "is_deed_right" "is_deed_right" gU jT jO)
   (jg : PySem.W.nsIn K mainGlobals "are_deeds_right" = some (some (.ref i9))) (jh : lN K "are_deeds_right" "are_deeds_right" fL i9 iU)
   (k6 : PySem.W.nsIn K mainGlobals "is_ask_right" = some (some (.ref kY))) (k7 : lN K "is_ask_right" "is_ask_right" iR kY kU)
   (k8 : PySem.W.nsIn K mainGlobals "is_way_right" = some (some (.ref kZ))) (k9 : lN K "is_way_right" "is_way_right" iS kZ kW)
   (jv : PySem.W.nsIn K mainGlobals "are_ways_right" = some (some (.ref ju))) (jw : lN K "are_ways_right" "are_ways_right" gF ju jr)
   (yZ : PySem.W.nsIn K mainGlobals "looked" = some (some (.ref yO))) (y9 : lN K "looked" "looked" tu yO tL)
   (FT : PySem.W.nsIn K mainGlobals "_law_same" = some (some (.ref FE))) (FU : lN K "_law_same" "_law_same" s_same FE g_same)
   (za : PySem.W.nsIn K mainGlobals "_law_fields" = some (some (.ref yP))) (zb : lN K "_law_fields" "_law_fields" tH yP MV)
   (pD : PySem.W.findIn K (.ref au) "__init__" = some (some (.ref lC))) (pF : PySem.W.isFn K (.ref lC) = true) (vN : lN K "__init__" "Tree.__init__" lB lC D6)
   (nF : PySem.W.findIn K (.ref ao) "__init__" = some (some (.ref kB))) (nG : PySem.W.isFn K (.ref kB) = true) (tM : lN K "__init__" "Chart.__init__" ku kB BV)
   (Ij : PySem.W.nsIn K mainGlobals "law" = some (some (.ref Sh))) (M5 : lN K "law" "law" Ii Sh Si)
   (M6 : PySem.W.nsIn K mainGlobals "len" = some none)
   (Ck : PySem.W.nsIn K mainGlobals "range" = some none)
   (M7 : PySem.W.nsIn K mainGlobals "str" = some none)
   (Cm : PySem.W.nsIn K mainGlobals "tuple" = some none)
   (zc : PySem.W.nsIn K mainGlobals "sorted" = some none)
   {FW : Tok} (uY : PySem.W.nsIn K mainGlobals "DEEPEST" = some (some (.int 12 FW)))
   (pG : PySem.W.nsIn K mainGlobals "enumerate" = some none)
   {Ik : Addr} {M8 : Option Addr} {Bv : Nat} {M9 : Array (Option Value)} {FY FZ F0 : Tok} (Cp : PySem.W.nsIn K mainGlobals "KINDS" = some (some (.ref Ik))) (zf : K.lookup Ik = some ⟨.type "tuple", M8, .seq #[.str "leaf" FY, .str "one" FZ, .str "all" F0] Bv, M9⟩)
   {wj : Tok} (lg : PySem.W.nsIn K mainGlobals "LONGEST_NAME" = some (some (.int 12 wj)))
   {Il : Addr} {Nb : Option Addr} {Bw : Nat} {Nf : Array (Option Value)} {F2 F3 F4 F5 F6 F7 F8 F9 Ga Gb D7 D8 D9 Ea Eb Ec Ed Ef Eg : Tok} (Cq : PySem.W.nsIn K mainGlobals "WORDS" = some (some (.ref Il))) (zg : K.lookup Il = some ⟨.type "tuple", Nb, .seq #[.str "all" F2, .str "and" F3, .str "box" F4, .str "call" F5, .str "do" F6, .str "far" F7, .str "if" F8, .str "in" F9, .str "leaf" Ga, .str "near" Gb, .str "on" D7, .str "one" D8, .str "open" D9, .str "out" Ea, .str "put" Eb, .str "say" Ec, .str "shut" Ed, .str "then" Ef, .str "to" Eg] Bw, Nf⟩)
   {Gd : Tok} (uZ : PySem.W.nsIn K mainGlobals "LETTERS" = some (some (.str "abcdefghijklmnopqrstuvwxyz" Gd)))
   {nI : Tok} (fB : PySem.W.nsIn K mainGlobals "LETTERS_AND_FIGURES" = some (some (.str "abcdefghijklmnopqrstuvwxyz0123456789" nI)))
   (Ng : PySem.W.nsIn K mainGlobals "set" = some none)
   {Nh : Tok} (Cr : PySem.W.nsIn K mainGlobals "DEEDS" = some (some (.int 3 Nh)))
   {Im : Addr} {Ni : Option Addr} {BE : Nat} {Nj : Array (Option Value)} {Ge Gf Gg Gh : Tok} (Ct : PySem.W.nsIn K mainGlobals "MARKS" = some (some (.ref Im))) (zj : K.lookup Im = some ⟨.type "tuple", Ni, .seq #[.str "<" Ge, .str "<=" Gf, .str "=" Gg, .str "!=" Gh] BE, Nj⟩)
   {JN : Tok} (zk : PySem.W.nsIn K mainGlobals "TARGET" = some (some (.int 4 JN)))
   {QH : Tok} (Gi : PySem.W.nsIn K mainGlobals "MODE" = some (some (.int 5 QH)))
   {JQ : Tok} (zl : PySem.W.nsIn K mainGlobals "SOURCE" = some (some (.int 0 JQ)))
   {QI : Tok} (Gj : PySem.W.nsIn K mainGlobals "SIGN" = some (some (.int 1 QI)))
   {Io : Addr} {Nk : Option Addr} {BF : Nat} {Nm : Array (Option Value)} {Gk Gm Gn : Tok} (Cu : PySem.W.nsIn K mainGlobals "MODES" = some (some (.ref Io))) (zm : K.lookup Io = some ⟨.type "tuple", Nk, .seq #[.str "new" Gk, .str "near" Gm, .str "far" Gn] BF, Nm⟩)
   {QJ : Tok} (Gp : PySem.W.nsIn K mainGlobals "ASKS" = some (some (.int 2 QJ)))
   (nJ : PySem.W.nsIn K mainGlobals "isinstance" = some none)
   (Gq : PySem.W.nsIn K mainGlobals "list" = some none)
   : ∃ fd : FuncData, (∀ (s : Shared) (v : Value), BindsTo s fd ⟨[v], []⟩ [("script", v)]) /\ ∀ base : Heap, K.In base -> base.Ns mainGlobals mg -> bT l.prog w K mg base jA 7 fa fd ["script"] (lu K (fun _ => 0) 1 qg qh qi) := by
 have e := hfa.symm.trans (aee XX G Ij)
 cases e
 have JR := aee XX G uU
 have JS := uV.binds (ps := ["script", "k"]) fun _ _ _ _ _ _ => by refine bD ?_; exact fun _ _ => rfl
 have Gr := aee XX G qX
 have Gs := qY.binds (ps := ["elders", "at"]) fun _ _ _ _ _ _ => by refine bD ?_; exact fun _ _ => rfl
 have Nn := aee XX G yW
 have Np := yX.binds (ps := ["script", "many"]) fun _ _ _ _ _ _ => by refine bD ?_; exact fun _ _ => rfl
 have QK := aee XX G B7
 have QL := B8.binds (ps := ["script", "elders"]) fun _ _ _ _ _ _ => by refine bD ?_; exact fun _ _ => rfl
 have QM := aee XX G B9
 have QN := Ca.binds (ps := ["cell", "many"]) fun _ _ _ _ _ _ => by refine bD ?_; exact fun _ _ => rfl
 have Yh := aee XX G MX
 have Yi := MY.binds (ps := ["cell"]) fun _ _ _ _ _ _ => by refine bD ?_; exact fun _ => rfl
 have Vu := aee XX G FI
 have Vv := FJ.binds (ps := ["cell", "many"]) fun _ _ _ _ _ _ => by refine bD ?_; exact fun _ _ => rfl
 have Vw := aee XX G FL
 have Vx := FN.binds (ps := ["cell", "many", "name"]) fun _ _ _ _ _ _ => by refine bD ?_; exact fun _ _ _ => rfl
 have Vy := aee XX G FP
 have Vz := FQ.binds (ps := ["script", "many", "names", "by"]) fun _ _ _ _ _ _ => by refine bD ?_; exact fun _ _ _ _ => rfl
 have Yj := aee XX G MZ
 have Yk := M0.binds (ps := ["cell", "many", "moods"]) fun _ _ _ _ _ _ => by refine bD ?_; exact fun _ _ _ => rfl
 have Yl := aee XX G M3
 have Ym := M4.binds (ps := ["script", "at", "source", "many", "moods", "name"]) fun _ _ _ _ _ _ => by refine bD ?_; exact fun _ _ _ _ _ _ => rfl
 have QO := aee XX G Cb
 have QS := Cd.binds (ps := ["script"]) fun _ _ _ _ _ _ => by refine bD ?_; exact fun _ => rfl
 have QT := aee XX G Ce
 have QV := Cg.binds (ps := ["tree", "mood"]) fun _ _ _ _ _ _ => by refine bD ?_; exact fun _ _ => rfl
 have QW := aee XX G Ci
 have QX := Cj.binds (ps := ["tree", "mood"]) fun _ _ _ _ _ _ => by refine bD ?_; exact fun _ _ => rfl
 have rj := aee XX G ic
 have rm := ig.binds (ps := ["tree"]) fun _ _ _ _ _ _ => by refine bD ?_; exact fun _ => rfl
 have tN := aee XX G ja
 have tO := jb.binds (ps := ["tree"]) fun _ _ _ _ _ _ => by refine bD ?_; exact fun _ => rfl
 have Gu := aee XX G qZ
 have Gv := rg.binds (ps := ["number", "row"]) fun _ _ _ _ _ _ => by refine bD ?_; exact fun _ _ => rfl
 have rq := aee XX G iu
 have rz := iy.binds (ps := ["tree"]) fun _ _ _ _ _ _ => by refine bD ?_; exact fun _ => rfl
 have wk := aee XX G jU
 have wm := jV.binds (ps := ["tree", "names"]) fun _ _ _ _ _ _ => by refine bD ?_; exact fun _ _ => rfl
 have JT := aee XX G uW
 have JV := uX.binds (ps := ["text"]) fun _ _ _ _ _ _ => by refine bD ?_; exact fun _ => rfl
 have tP := aee XX G jc
 have tQ := jd.binds (ps := ["names"]) fun _ _ _ _ _ _ => by refine bD ?_; exact fun _ => rfl
 have Cv := aee XX G nB
 have Cw := nE.binds (ps := ["number"]) fun _ _ _ _ _ _ => by refine bD ?_; exact fun _ => rfl
 have tR := aee XX G je
 have tS := jf.binds (ps := ["boxes"]) fun _ _ _ _ _ _ => by refine bD ?_; exact fun _ => rfl
 have wo := aee XX G jW
 have wu := jX.binds (ps := ["chart", "term"]) fun _ _ _ _ _ _ => by refine bD ?_; exact fun _ _ => rfl
 have wA := aee XX G jY
 have wB := jZ.binds (ps := ["chart", "deed"]) fun _ _ _ _ _ _ => by refine bD ?_; exact fun _ _ => rfl
 have tT := aee XX G jg
 have tU := jh.binds (ps := ["chart"]) fun _ _ _ _ _ _ => by refine bD ?_; exact fun _ => rfl
 have zo := aee XX G k6
 have zq := k7.binds (ps := ["chart", "ask"]) fun _ _ _ _ _ _ => by refine bD ?_; exact fun _ _ => rfl
 have zu := aee XX G k8
 have zv := k9.binds (ps := ["chart", "way"]) fun _ _ _ _ _ _ => by refine bD ?_; exact fun _ _ => rfl
 have u0 := aee XX G jv
 have u5 := jw.binds (ps := ["chart"]) fun _ _ _ _ _ _ => by refine bD ?_; exact fun _ => rfl
 have Nq := aee XX G yZ
 have Nr := y9.binds (ps := ["chart"]) fun _ _ _ _ _ _ => by refine bD ?_; exact fun _ => rfl
 have VA := aee XX G FT
 have VB := FU.binds (ps := ["found", "parts"]) fun _ _ _ _ _ _ => by refine bD ?_; exact fun _ _ => rfl
 have Nt := aee XX G za
 have Nu := zb.binds (ps := ["chart"]) fun _ _ _ _ _ _ => by refine bD ?_; exact fun _ => rfl
 have Eh := vN.binds (ps := ["self", "kinds", "elders", "starts"]) fun _ _ _ _ _ _ => by refine bD ?_; exact fun _ _ _ _ => rfl
 have Cy := tM.binds (ps := ["self", "boxes", "names", "tree", "ins", "outs", "ways"]) fun _ _ _ _ _ _ => by refine bD ?_; exact fun _ _ _ _ _ _ _ => rfl
 have ab1 := aee XX G Ij
 have ab2 := M5.binds (ps := ["script"]) fun _ _ _ _ _ _ => by refine bD ?_; exact fun _ => rfl
 have QY := aee XX G BW
 have aN : rQ K ao := ⟨yQ, yR, yS, yT⟩
 have kC : rQ K ((cl ao au) "Chart") := by rw [iY]; exact aN
 have gQ : aH K ((cl ao au) "Chart") "boxes" := by rw [iY]; exact lI
 have fq : aH K ((cl ao au) "Chart") "names" := by rw [iY]; exact lJ
 have nK : aH K ((cl ao au) "Chart") "tree" := by rw [iY]; exact nq
 have pH : aH K ((cl ao au) "Chart") "ins" := by rw [iY]; exact pC
 have nL : aH K ((cl ao au) "Chart") "outs" := by rw [iY]; exact nu
 have kD : aH K ((cl ao au) "Chart") "ways" := by rw [iY]; exact ny
 have VC := aee XX G FH
 have bU : rQ K au := ⟨BX, BZ, B3, B4⟩
 have rA : rQ K ((cl ao au) "Tree") := by rw [qj]; exact bU
 have ji : aH K ((cl ao au) "Tree") "kinds" := by rw [qj]; exact nA
 have d7 : aH K ((cl ao au) "Tree") "elders" := by rw [qj]; exact lK
 have jz : aH K ((cl ao au) "Tree") "starts" := by rw [qj]; exact lM
 have nT := ae4 XX G M6
 have lD := ae4 XX G Ck
 have Sj := ae4 XX G M7
 have Ip := ae4 XX G Cm
 have Nv := ae4 XX G zc
 have JW : ∃ u, mg "DEEPEST" = some (.int 12 u) := ⟨_, aee XX G uY⟩
 have vO := ae4 XX G pG
 have QZ := aee XX G Cp
 have zx : ∃ u, mg "LONGEST_NAME" = some (.int 12 u) := ⟨_, aee XX G lg⟩
 have Q0 := aee XX G Cq
 have JX : ∃ u, mg "LETTERS" = some (.str "abcdefghijklmnopqrstuvwxyz" u) := ⟨_, aee XX G uZ⟩
 have n6 : ∃ u, mg "LETTERS_AND_FIGURES" = some (.str "abcdefghijklmnopqrstuvwxyz0123456789" u) := ⟨_, aee XX G fB⟩
 have Yn := ae4 XX G Ng
 have Q5 : ∃ u, mg "DEEDS" = some (.int 3 u) := ⟨_, aee XX G Cr⟩
 have Q6 := aee XX G Ct
 have Nx : ∃ u, mg "TARGET" = some (.int 4 u) := ⟨_, aee XX G zk⟩
 have VD : ∃ u, mg "MODE" = some (.int 5 u) := ⟨_, aee XX G Gi⟩
 have Ei : ∃ u, mg "SOURCE" = some (.int 0 u) := ⟨_, aee XX G zl⟩
 have VF : ∃ u, mg "SIGN" = some (.int 1 u) := ⟨_, aee XX G Gj⟩
 have Q7 := aee XX G Cu
 have VG : ∃ u, mg "ASKS" = some (.int 2 u) := ⟨_, aee XX G Gp⟩
 have Cz := ae4 XX G nJ
 have CB := ae4 XX G Gq
 refine ⟨Si, ?bind, fun base _ _ => ?_⟩
 case bind =>
   obtain ⟨oc, od, kV, doc, pm, an, gf, ct, Ou, rfl, lk, n8⟩ := M5.ex
   exact fun s v => .of_eq rfl
 have JY : bT l.prog w K mg base jA 1 uS _ ["script", "k"] (lu K (cl ao au) 2 eO eS eU) := aX uV yh fun gf Ar outer s H E b a hr hp => by
   obtain ⟨p0, p1⟩ := a; refine Jx ?_ p0 p1 hp
   exact ⟨⟨⟨yh.nd, rfl, rfl⟩, hr.units⟩, bL qK 0, bL qK 1, cO qK 2, nT⟩
 have mC := cQ JY JR uV.kp JS
 have Gw : bT l.prog w K mg base jA 1 qV _ ["elders", "at"] (lu K (cl ao au) 2 kg gq kh) := aX qY vI fun gf Ar outer s H E b a hr hp => by
   obtain ⟨p0, p1⟩ := a; refine E3 ?_ p0 p1 hp
   exact ⟨⟨⟨vI.nd, rfl, rfl⟩, hr.units⟩, bL oH 0, bL oH 1, bL oH 2⟩
 have Gy := cQ Gw Gr qY.kp Gs
 have Ny : bT l.prog w K mg base jA 2 yN _ ["script", "many"] (lu K (cl ao au) 2 mR kM mS) := aX yX Ah fun gf Ar outer s H E b a hr hp => by
   obtain ⟨p0, p1⟩ := a; refine L4 ?_ p0 p1 hp
   exact ⟨⟨⟨Ah.nd, rfl, rfl⟩, hr.units⟩, bL fk 0, bL fk 1, N6 fk 2, gn fk 2 rfl, bL fk 3, bL fk 4, cO fk 5, cO fk 6, cO fk 7, cO fk 8, lD, cP Gy hr, cP mC hr, nT⟩
 have Nz := cQ Ny Nn yX.kp Np
 have Q8 : bT l.prog w K mg base jA 2 BO _ ["script", "elders"] (lu K (cl ao au) 2 pR pS pT) := aX B8 DK fun gf Ar outer s H E b a hr hp => by
   obtain ⟨p0, p1⟩ := a; refine PV ?_ p0 p1 hp
   exact ⟨⟨⟨DK.nd, rfl, rfl⟩, hr.units⟩, bL fX 0, N6 fX 1, gn fX 1 rfl, bL fX 2, bL fX 3, N6 fX 4, gn fX 4 rfl, bL fX 5, cO fX 6, cO fX 7, cO fX 8, lD, nT, cP mC hr⟩
 have Q9 := cQ Q8 QK B8.kp QL
 have Ra : bT l.prog w K mg base jA 1 BP _ ["cell", "many"] (lu K (cl ao au) 2 pV lY pW) := aX Ca DP fun gf Ar outer s H E b a hr hp => by
   obtain ⟨p0, p1⟩ := a; refine P7 ?_ p0 p1 hp
   exact ⟨⟨⟨DP.nd, rfl, rfl⟩, hr.units⟩, bL gO 0, bL gO 1, bL gO 2, bL gO 3, bL gO 4, bL gO 5, bL gO 6, bL gO 7, cO gO 8, cO gO 9, lD, Sj⟩
 have Rb := cQ Ra QM Ca.kp QN
 have Yo : bT l.prog w K mg base jA 1 MQ _ ["cell"] (lu K (cl ao au) 1 sy sA sC) := aX MY Mj fun gf Ar outer s H E b a hr hp => by
   refine XH ?_ a hp
   exact ⟨⟨⟨Mj.nd, rfl, rfl⟩, hr.units⟩, bL Mi 0, bL Mi 1⟩
 have Sl := cQ Yo Yh MY.kp Yi
 have VH : bT l.prog w K mg base jA 2 Fy _ ["cell", "many"] (lu K (cl ao au) 2 oK oM oN) := aX FJ HQ fun gf Ar outer s H E b a hr hp => by
   obtain ⟨p0, p1⟩ := a; refine UX ?_ p0 p1 hp
   exact ⟨⟨⟨HQ.nd, rfl, rfl⟩, hr.units⟩, bL Be 0, bL Be 1, cO Be 2, cP Sl hr⟩
 have NB := cQ VH Vu FJ.kp Vv
 have VJ : bT l.prog w K mg base jA 3 Fz _ ["cell", "many", "name"] (lu K (cl ao au) 3 oO oQ oR) := aX FN HR fun gf Ar outer s H E b a hr hp => by
   obtain ⟨p0, p1, p2⟩ := a; refine UZ ?_ p0 p1 p2 hp
   exact ⟨⟨⟨HR.nd, rfl, rfl⟩, hr.units⟩, bL sE 0, bL sE 1, bL sE 2, bL sE 3, cO sE 4, cP NB hr⟩
 have NC := cQ VJ Vw FN.kp Vx
 have VL : bT l.prog w K mg base jA 4 FD _ ["script", "many", "names", "by"] (lu K (cl ao au) 4 sF lZ sG) := aX FQ HS fun gf Ar outer s H E b a hr hp => by
   obtain ⟨p0, p1, p2, p3⟩ := a; refine U4 ?_ p0 p1 p2 p3 hp
   exact ⟨⟨⟨HS.nd, rfl, rfl⟩, hr.units⟩, bL eW 0, N6 eW 1, gn eW 1 rfl, N6 eW 2, gn eW 2 rfl, bL eW 3, bL eW 4, N6 eW 5, gn eW 5 rfl, N6 eW 6, gn eW 6 rfl, cO eW 7, cO eW 8, cO eW 9, cO eW 10, lD, nT, cP mC hr, Ip, cP NC hr⟩
 have VM := cQ VL Vy FQ.kp Vz
 have Yp : bT l.prog w K mg base jA 3 MR _ ["cell", "many", "moods"] (lu K (cl ao au) 3 xx sH xA) := aX M0 Mp fun gf Ar outer s H E b a hr hp => by
   obtain ⟨p0, p1, p2⟩ := a; refine XJ ?_ p0 p1 p2 hp
   exact ⟨⟨⟨Mp.nd, rfl, rfl⟩, hr.units⟩, bL uM 0, bL uM 1, bL uM 2, bL uM 3, bL uM 4, cO uM 5, cP NB hr⟩
 have Yq := cQ Yp Yj M0.kp Yk
 have Yr : bT l.prog w K mg base jA 4 MS _ ["script", "at", "source", "many", "moods", "name"] (lu K (cl ao au) 6 xB sI xC) := aX M4 Ms fun gf Ar outer s H E b a hr hp => by
   obtain ⟨p0, p1, p2, p3, p4, p5⟩ := a; refine XQ ?_ p0 p1 p2 p3 p4 p5 hp
   exact ⟨⟨⟨Ms.nd, rfl, rfl⟩, hr.units⟩, bL fY 0, bL fY 1, bL fY 2, bL fY 3, bL fY 4, bL fY 5, bL fY 6, bL fY 7, bL fY 8, bL fY 9, bL fY 10, bL fY 11, cO fY 12, cO fY 13, cO fY 14, cO fY 15, cO fY 16, cP mC hr, lD, cP Yq hr, cP NC hr, Ip⟩
 have Ys := cQ Yr Yl M4.kp Ym
 have Rc : bT l.prog w K mg base jA 5 BQ _ ["script"] (lu K (cl ao au) 1 pY pZ qa) := aX Cd DX fun gf Ar outer s H E b a hr hp => by
   refine Qm ?_ a hp
   exact ⟨⟨⟨DX.nd, rfl, rfl⟩, hr.units⟩, N6 bf 0, gn bf 0 rfl, bL bf 1, N6 bf 2, gn bf 2 rfl, bL bf 3, bL bf 4, bL bf 5, bL bf 6, N6 bf 7, gn bf 7 rfl, bL bf 8, bL bf 9, bL bf 10, bL bf 11, bL bf 12, bL bf 13, cO bf 14, cO bf 15, cO bf 16, cO bf 17, cO bf 18, cO bf 19, cO bf 20, cO bf 21, cO bf 22, cP mC hr, cP Nz hr, cP Q9 hr, cP Rb hr, lD, cP VM hr, Nv, nT, cP Ys hr, Sj, cP Sl hr⟩
 have Rf := cQ Rc QO Cd.kp QS
 have Rg : bT l.prog w K mg base jA 1 BR _ ["tree", "mood"] (lu K (cl ao au) 2 l0 kE mh) := aX Cg DY fun gf Ar outer s H E b a hr hp => by
   obtain ⟨p0, p1, p2, p3⟩ := a; refine Qo ?_ p0 p1 p2 p3 hp
   exact ⟨⟨⟨DY.nd, rfl, rfl⟩, hr.units⟩, bL sL 0, bL sL 1, bL sL 2, bL sL 3, rA, d7⟩
 have Iq := cQ Rg QT Cg.kp QV
 have Rh : bT l.prog w K mg base jA 2 BU _ ["tree", "mood"] (lu K (cl ao au) 2 qc mj qd) := aX Cj DZ fun gf Ar outer s H E b a hr hp => by
   obtain ⟨p0, p1, p2, p3⟩ := a; refine Qq ?_ p0 p1 p2 p3 hp
   exact ⟨⟨⟨DZ.nd, rfl, rfl⟩, hr.units⟩, bL sN 0, bL sN 1, cO sN 2, cO sN 3, nT, cP Iq hr⟩
 have Ri := cQ Rh QW Cj.kp QX
 have rB : bT l.prog w K mg base jA 3 g9 _ ["tree"] (lu K (cl ao au) 1 dD ck dF) := aX ig j3 fun gf Ar outer s H E b a hr hp => by
   obtain ⟨p0, p1, p2⟩ := a; refine qP ?_ p0 p1 p2 hp
   exact ⟨⟨⟨j3.nd, rfl, rfl⟩, hr.units⟩, bL bw 0, bL bw 1, bL bw 2, cO bw 3, cO bw 4, cO bw 5, cO bw 6, cO bw 7, lD, nT, cP Iq hr, cP Ri hr, JW, rA, d7⟩
 have rC := cQ rB rj ig.kp rm
 have tV : bT l.prog w K mg base jA 1 iZ _ ["tree"] (lu K (cl ao au) 1 d8 cI d9) := aX jb kN fun gf Ar outer s H E b a hr hp => by
   obtain ⟨p0, p1, p2⟩ := a; refine sP ?_ p0 p1 p2 hp
   exact ⟨⟨⟨kN.nd, rfl, rfl⟩, hr.units⟩, bL bO 0, bL bO 1, bL bO 2, bL bO 3, bL bO 4, cO bO 5, cO bO 6, vO, Ht QZ zf (aW rfl) (.cons ⟨_, rfl⟩ (.cons ⟨_, rfl⟩ (.cons ⟨_, rfl⟩ (.nil)))), rA, d7, ji⟩
 have tW := cQ tV tN jb.kp tO
 have Gz : bT l.prog w K mg base jA 1 qW _ ["number", "row"] (lu K (cl ao au) 2 dG dH dI) := aX rg vK fun gf Ar outer s H E b a hr hp => by
   obtain ⟨p0, p1⟩ := a; refine Fq ?_ p0 p1 hp
   exact ⟨⟨⟨vK.nd, rfl, rfl⟩, hr.units⟩, bL oW 0, bL oW 1, cO oW 2, nT⟩
 have lq := cQ Gz Gu rg.kp Gv
 have rD : bT l.prog w K mg base jA 2 ia _ ["tree"] (lu K (cl ao au) 1 dJ cu dM) := aX iy j4 fun gf Ar outer s H E b a hr hp => by
   obtain ⟨p0, p1, p2⟩ := a; refine qS ?_ p0 p1 p2 hp
   exact ⟨⟨⟨j4.nd, rfl, rfl⟩, hr.units⟩, bL cJ 0, bL cJ 1, bL cJ 2, cO cJ 3, cO cJ 4, vO, cP lq hr, rA, jz, ji, d7⟩
 have rE := cQ rD rq iy.kp rz
 have wC : bT l.prog w K mg base jA 4 jR _ ["tree", "names"] (lu K (cl ao au) 2 fD dN fE) := aX jV mq fun gf Ar outer s H E b a hr hp => by
   obtain ⟨p0, p1, p2, p3⟩ := a; refine vZ ?_ p0 p1 p2 p3 hp
   exact ⟨⟨⟨mq.nd, rfl, rfl⟩, hr.units⟩, bL b5 0, bL b5 1, bL b5 2, cO b5 3, cO b5 4, cO b5 5, cO b5 6, nT, cP rC hr, cP tW hr, cP rE hr, rA, ji, d7, jz⟩
 have wF := cQ wC wk jV.kp wm
 have JZ : bT l.prog w K mg base jA 1 uT _ ["text"] (lu K (cl ao au) 1 iA iB iC) := aX uX yy fun gf Ar outer s H E b a hr hp => by
   refine JK ?_ a hp
   exact ⟨⟨⟨yy.nd, rfl, rfl⟩, hr.units⟩, bL g8 0, bL g8 1, cO g8 2, cO g8 3, cO g8 4, cO g8 5, cO g8 6, nT, zx, Ht Q0 zg (aW rfl) (.cons ⟨_, rfl⟩ (.cons ⟨_, rfl⟩ (.cons ⟨_, rfl⟩ (.cons ⟨_, rfl⟩ (.cons ⟨_, rfl⟩ (.cons ⟨_, rfl⟩ (.cons ⟨_, rfl⟩ (.cons ⟨_, rfl⟩ (.cons ⟨_, rfl⟩ (.cons ⟨_, rfl⟩ (.cons ⟨_, rfl⟩ (.cons ⟨_, rfl⟩ (.cons ⟨_, rfl⟩ (.cons ⟨_, rfl⟩ (.cons ⟨_, rfl⟩ (.cons ⟨_, rfl⟩ (.cons ⟨_, rfl⟩ (.cons ⟨_, rfl⟩ (.cons ⟨_, rfl⟩ (.nil)))))))))))))))))))), JX, n6⟩
 have u6 := cQ JZ JT uX.kp JV
 have tX : bT l.prog w K mg base jA 2 i6 _ ["names"] (lu K (cl ao au) 1 cK bI cL) := aX jd kO fun gf Ar outer s H E b a hr hp => by
   refine sS ?_ a hp
   exact ⟨⟨⟨kO.nd, rfl, rfl⟩, hr.units⟩, bL cY 0, bL cY 1, cO cY 2, cO cY 3, cO cY 4, cP u6 hr, nT, Yn⟩
 have lE := cQ tX tP jd.kp tQ
 have CD : bT l.prog w K mg base jA 1 nk _ ["number"] (lu K (cl ao au) 1 f6 f7 f9) := aX nE qv fun gf Ar outer s H E b a hr hp => by
   refine BD ?_ a hp
   exact ⟨⟨⟨qv.nd, rfl, rfl⟩, hr.units⟩, bL zT 0⟩
 have tY := cQ CD Cv nE.kp Cw
 have tZ : bT l.prog w K mg base jA 3 i7 _ ["boxes"] (lu K (cl ao au) 1 ef eo ez) := aX jf kP fun gf Ar outer s H E b a hr hp => by
   refine sV ?_ a hp
   exact ⟨⟨⟨kP.nd, rfl, rfl⟩, hr.units⟩, bL eZ 0, bL eZ 1, cO eZ 2, cO eZ 3, cP tY hr, cP lE hr⟩
 have t6 := cQ tZ tR jf.kp tS
 have wG : bT l.prog w K mg base jA 2 jS _ ["chart", "term"] (lu K (cl ao au) 2 dP dQ dR) := aX jX mw fun gf Ar outer s H E b a hr hp => by
   obtain ⟨p0, p1, p2, p3, p4, p5, p6, p7⟩ := a; refine v7 ?_ p0 p1 p2 p3 p4 p5 p6 p7 hp
   exact ⟨⟨⟨mw.nd, rfl, rfl⟩, hr.units⟩, bL gu 0, bL gu 1, cO gu 2, cO gu 3, cP lq hr, cP tY hr, kC, gQ⟩
 have nU := cQ wG wo jX.kp wu
 have wH : bT l.prog w K mg base jA 3 jT _ ["chart", "deed"] (lu K (cl ao au) 2 fH fJ fK) := aX jZ mz fun gf Ar outer s H E b a hr hp => by
   obtain ⟨p0, p1, p2, p3, p4, p5, p6⟩ := a; refine v9 ?_ p0 p1 p2 p3 p4 p5 p6 hp
   exact ⟨⟨⟨mz.nd, rfl, rfl⟩, hr.units⟩, bL cV 0, bL cV 1, bL cV 2, cO cV 3, cO cV 4, cO cV 5, cP lq hr, cP nU hr, cP u6 hr, kC, gQ⟩
 have wI := cQ wH wA jZ.kp wB
 have t7 : bT l.prog w K mg base jA 4 i9 _ ["chart"] (lu K (cl ao au) 1 eB cM eF) := aX jh kQ fun gf Ar outer s H E b a hr hp => by
   obtain ⟨p0, p1, p2, p3, p4, p5⟩ := a; refine sX ?_ p0 p1 p2 p3 p4 p5 hp
   exact ⟨⟨⟨kQ.nd, rfl, rfl⟩, hr.units⟩, bL b6 0, bL b6 1, bL b6 2, bL b6 3, cO b6 4, cO b6 5, nT, cP wI hr, Q5, kC, fq, pH, nL, kD⟩
 have t8 := cQ t7 tT jh.kp tU
 have zy : bT l.prog w K mg base jA 3 kY _ ["chart", "ask"] (lu K (cl ao au) 2 gy gA gB) := aX k7 nR fun gf Ar outer s H E b a hr hp => by
   obtain ⟨p0, p1, p2, p3, p4, p5, p6⟩ := a; refine yF ?_ p0 p1 p2 p3 p4 p5 p6 hp
   exact ⟨⟨⟨nR.nd, rfl, rfl⟩, hr.units⟩, bL dm 0, bL dm 1, bL dm 2, cO dm 3, cO dm 4, cO dm 5, cP lq hr, Ht Q6 zj (aW rfl) (.cons ⟨_, rfl⟩ (.cons ⟨_, rfl⟩ (.cons ⟨_, rfl⟩ (.cons ⟨_, rfl⟩ (.nil))))), cP nU hr, kC, fq⟩
 have zA := cQ zy zo k7.kp zq
 have zB : bT l.prog w K mg base jA 4 kZ _ ["chart", "way"] (lu K (cl ao au) 2 gC gD gE) := aX k9 nS fun gf Ar outer s H E b a hr hp => by
   obtain ⟨p0, p1, p2, p3, p4, p5, p6, p7, p8, p9, p10, p11⟩ := a; refine yI ?_ p0 p1 p2 p3 p4 p5 p6 p7 p8 p9 p10 p11 hp
   exact ⟨⟨⟨nS.nd, rfl, rfl⟩, hr.units⟩, bL aO 0, bL aO 1, bL aO 2, bL aO 3, bL aO 4, cO aO 5, cO aO 6, cO aO 7, cO aO 8, cO aO 9, cO aO 10, cO aO 11, cO aO 12, cO aO 13, Nx, VD, cP lq hr, Ei, cP u6 hr, VF, Ht Q7 zm (aW rfl) (.cons ⟨_, rfl⟩ (.cons ⟨_, rfl⟩ (.cons ⟨_, rfl⟩ (.nil)))), VG, cP zA hr, kC, fq⟩
 have zC := cQ zB zu k9.kp zv
 have u9 : bT l.prog w K mg base jA 5 ju _ ["chart"] (lu K (cl ao au) 1 e9 cZ fc) := aX jw lA fun gf Ar outer s H E b a hr hp => by
   obtain ⟨p0, p1, p2, p3, p4, p5⟩ := a; refine uP ?_ p0 p1 p2 p3 p4 p5 hp
   exact ⟨⟨⟨lA.nd, rfl, rfl⟩, hr.units⟩, bL dS 0, bL dS 1, bL dS 2, cO dS 3, cO dS 4, Ei, cP zC hr, kC, kD⟩
 have vd := cQ u9 u0 jw.kp u5
 have NF : bT l.prog w K mg base jA 6 yO _ ["chart"] (lu K (cl ao au) 1 m8 jq m9) := aX y9 Ak fun gf Ar outer s H E b a hr hp => by
   obtain ⟨p0, p1, p2, p3, p4, p5, p6, p7⟩ := a; refine MH ?_ p0 p1 p2 p3 p4 p5 p6 p7 hp
   exact ⟨⟨⟨Ak.nd, rfl, rfl⟩, hr.units⟩, bL eN 0, cO eN 1, cO eN 2, cO eN 3, cO eN 4, cO eN 5, cO eN 6, cO eN 7, cO eN 8, cO eN 9, cO eN 10, cP wF hr, cP lE hr, cP t6 hr, cP t8 hr, cP vd hr, kC, nK, fq, gQ⟩
 have NK := cQ NF Nq y9.kp Nr
 have VN : bT l.prog w K mg base jA 1 FE _ ["found", "parts"] (lu K (cl ao au) 2 tF oX tG) := aX FU Ih fun gf Ar outer s H E b a hr hp => by
   refine Vj ?_ a hp
   exact ⟨⟨⟨Ih.nd, rfl, rfl⟩, hr.units⟩, bL qf 0, bL qf 1, bL qf 2, cO qf 3, cO qf 4, cO qf 5, lD, Cz, CB⟩
 have VP := cQ VN VA FU.kp VB
 have NP : bT l.prog w K mg base jA 1 yP _ ["chart"] (lu K (cl ao au) 1 ng nh ni) := aX zb Am fun gf Ar outer s H E b a hr hp => by
   obtain ⟨p0, p1, p2, p3, p4, p5, p6, p7⟩ := a; refine MK ?_ p0 p1 p2 p3 p4 p5 p6 p7 hp
   exact ⟨⟨⟨Am.nd, rfl, rfl⟩, hr.units⟩, bL Al 0, bL Al 1, kC, rA, nK, gQ, fq, ji, d7, jz, pH, nL, kD⟩
 have NQ := cQ NP Nt zb.kp Nu
 have Ej : bT l.prog w K mg base jA 1 lC _ ["self", "kinds", "elders", "starts"] (Xo K (cl ao au) "Tree" 4 qx qy qz) := Hh vN tK fun gf Ar outer s H E b a y hr hp => by
   obtain ⟨p0, p1, p2⟩ := a; refine D3 ?_ p0 p1 p2 y hp
   exact ⟨⟨⟨tK.nd, rfl, rfl⟩, hr.units⟩, bL iW 0, bL iW 1, bL iW 2, bL iW 3, cO iW 4, CB, rA, ji, d7, jz⟩
 have CF : bT l.prog w K mg base jA 1 kB _ ["self", "boxes", "names", "tree", "ins", "outs", "ways"] (Xo K (cl ao au) "Chart" 7 oZ pe pA) := Hh tM qA fun gf Ar outer s H E b a y hr hp => by
   obtain ⟨p0, p1, p2, p3, p4, p5⟩ := a; refine BJ ?_ p0 p1 p2 p3 p4 p5 y hp
   exact ⟨⟨⟨qA.nd, rfl, rfl⟩, hr.units⟩, bL cT 0, bL cT 1, bL cT 2, bL cT 3, bL cT 4, bL cT 5, bL cT 6, cO cT 7, CB, kC, gQ, fq, nK, pH, nL, kD⟩
 have Yt : bT l.prog w K mg base jA 7 _ _ ["script"] (lu K (cl ao au) 1 qg qh qi) := aX M5 MP fun gf Ar outer s H E b a hr hp => by
   refine X8 ?_ a hp
   exact ⟨⟨⟨MP.nd, rfl, rfl⟩, hr.units⟩, bL jQ 0, bL jQ 1, bL jQ 2, bL jQ 3, bL jQ 4, bL jQ 5, cO jQ 6, cO jQ 7, cO jQ 8, cO jQ 9, cO jQ 10, cO jQ 11, cP Rf hr, ⟨⟨_, _, _, by rw [qj]; exact ⟨B5, pD, pF, B6⟩, Ej, by rw [qj]; exact VC, Eh⟩, hr.mono (by decide)⟩, ⟨⟨_, _, _, by rw [iY]; exact ⟨yU, nF, nG, yV⟩, CF, by rw [iY]; exact QY, Cy⟩, hr.mono (by decide)⟩, cP NK hr, cP VP hr, cP NQ hr, CB⟩
 exact Yt.imp (Ut (fun _ => rfl) (fun _ => rfl) fun x hx => Vq hx)
theorem walk {l : PySem.W.OpenLaw} {q : Program} {loose : List Str} {XP : (Str -> Option Value) -> Heap -> Prop} {YP : World -> Heap -> Prop} {d : DefRec} {K : Params -> PySem.W.Frag} (hn : l.most = some 63) (W4 : d.params.defaults = [])
   (hY : ∀ (w : World) (h : Heap), YP w h -> (K w.params).In h)
   (F : ∀ (w : World) (mg : Str -> Option Value) (fa : Addr) (h : Heap), (K w.params).In h -> h.Ns mainGlobals mg -> mg d.name = some (.ref fa) →
     ∃ fd : FuncData, (∀ (s : Shared) (u : Value), BindsTo s fd ⟨[u], []⟩ [("script", u)]) /\ ∀ base : Heap, (K w.params).In base -> base.Ns mainGlobals mg -> bT l.prog w (K w.params) mg base jA 7 fa fd ["script"] (lu (K w.params) (fun _ => 0) 1 qg qh qi)) :
   PySem.W.WalkO q loose XP YP l.row.toRowW d [] (fun f vs => PySem.call f vs) :=
 L2.OI (n := 63) (k := 7) (x := "script") (CX := fun _ => jA) (sp := fun w => lu (K w.params) (fun _ => 0) 1 qg qh qi) hn (by decide) W4 ⟨rfl, by decide, by decide⟩ hY F (fun _ _ a ns hl _ hS => Up rfl hl rfl hS) fun _ _ _ _ _ z => z
end Law
namespace PySem.W.Fast
 def tw13939588671320472263 := 0
 def tw1254055437660075832 := 0
 def tw8107624943392085505 := 0
 def tw9483901365539133693 := 0
 def tw13653590565465533523 := 0
 def tw6247637775566046493 := 0
 def tw7703481320282660217 := 0
 def tw233214795949781544 := 0
 def tw12699184637161311616 := 0
 def tw13735374213289077687 := 0
 def tw7078158304770013872 := 0
 def tw2461112869261460639 := 0
 def tw10051706953001414864 := 0
 def tw14853879272695448033 := 0
 def tw6941307121628617279 := 0
 def tw12140644396752922329 := 0
 def tw3349902583510766441 := 0
 def tw608348059088612779 := 0
 def tw5861080874399801377 := 0
 def tw3127590770979419190 := 0
 def tw9211406717419334985 := 0
 def tw5385529728059234702 := 0
 def tw4105314876692870794 := 0
 def tw8498807871391229795 := 0
 def tw14937018133495162804 := 0
 def tw18353529018050862451 := 0
 def tw7346734904468201856 := 0
 def tw17944012191317041014 := 0
 def tw4566428201002497316 := 0
 def tw7546296583847723743 := 0
 def tw17096955583190858677 := 0
 def tw2372181359677574836 := 0
 def tw12688706643115812114 := 0
 def tw8878930284526566163 := 0
 def tw994851707103553429 := 0
 def tw13232133971825308489 := 0
 def tw17810957349747721791 := 0
 def tw6102489117473296513 := 0
 def tw13670832016110501820 := 0
 def tw9831085789713965602 := 0
 def tw4066852091407215404 := 0
 def tw5877446759094742440 := 0
 def tw13434036740796963017 := 0
 def tw11277830955869734262 := 0
 def tw5360296199468790645 := 0
 def tw15939340247983900385 := 0
 def tw3991073255789776111 := 0
 def tw10684673666613732045 := 0
 def tw17661781774926695838 := 0
 def tw14584330079718344152 := 0
 def tw3572242596469082732 := 0
 def tw16514293769764632972 := 0
 def tw1273369819277798149 := 0
 def tw12035490634978948912 := 0
 def tw967348460351227560 := 0
 def tw8906659924891226191 := 0
 def tw4128019698045773519 := 0
end PySem.W.Fast
open PySem PySem.W PyProof.Rows
set_option maxRecDepth 100000 in
set_option maxHeartbeats 0 in
theorem PySem.Challenge.cw_moodtree_k15_whole_charts_are_let_holds : PySem.Challenge.rw_moodtree_k15_whole_charts_are_let.Holds := by
 w_on; o_law; k_head; (case hw => w_witness2)
 k_fill
 refine Law.walk (l := PySem.Challenge.rw_moodtree_k15_whole_charts_are_let) rfl rfl (fun w h Y => PySem.W.kIn_of Y) ?F
 case F =>
   intro w mg fa h KX G W5
   refine' Law.all_mk KX G W5 ?BW ?yQ ?yR ?yS ?yT ?yU ?yV ?lI ?lJ ?nq ?pC ?nu ?ny ?FH ?BX ?BZ ?B3 ?B4 ?B5 ?B6 ?nA ?lK ?lM ?uU (L2.bB ?J1 ?J2 ?J3) ?qX (L2.bB ?GA ?GB ?GC) ?yW (L2.bB ?bQ ?NR ?oJ) ?B7 (L2.bB ?ki ?Rj ?Rk) ?B9 (L2.bB ?bX ?Rl ?Bh) ?MX (L2.bB ?Yu ?Yv ?Yw) ?FI (L2.bB ?yz ?VQ ?VR) ?FL (L2.bB ?jn ?VW ?VX) ?FP (L2.bB ?yq ?VY ?VZ) ?MZ (L2.bB ?qw ?Yx ?Yy) ?M3 (L2.bB ?gP ?Yz ?YB) ?Cb (L2.bB ?kr ?Rm ?Rn) ?Ce (L2.bB ?Ro ?Rp ?Rq) ?Ci (L2.bB ?Rr ?Rt ?Ru) ?ic (L2.bB ?rG ?rH ?rJ) ?ja (L2.bB ?t9 ?ua ?uc) ?qZ (L2.bB ?GD ?GF ?GH) ?iu (L2.bB ?rK ?rL ?rM) ?jU (L2.bB ?wJ ?wK ?wL) ?uW (L2.bB ?J4 ?J5 ?J6) ?jc (L2.bB ?ud ?uf ?ug) ?nB (L2.bB ?CG ?CH ?CJ) ?je (L2.bB ?uh ?um ?uo) ?jW (L2.bB ?wM ?wN ?wO) ?jY (L2.bB ?wQ ?wR ?wU) ?jg (L2.bB ?uq ?ur ?uv) ?k6 (L2.bB ?zE ?zF ?zG) ?k8 (L2.bB ?zH ?zI ?zJ) ?jv (L2.bB ?ve ?vf ?vg) ?yZ (L2.bB ?NS ?NT ?NV) ?FT (L2.bB ?V0 ?V1 ?k_same) ?za (L2.bB ?NW ?NX ?NZ) ?pD ?pF (L2.bB ?Ek ?El ?Em) ?nF ?nG (L2.bB ?CK ?CM ?CN) ?Ij (L2.bB ?YC ?YD ?YF) ?M6 ?Ck ?M7 ?Cm ?zc ?uY ?pG ?Cp ?zf ?lg ?Cq ?zg ?uZ ?fB ?Ng ?Cr ?Ct ?zj ?zk ?Gi ?zl ?Gj ?Cu ?zm ?Gp ?nJ ?Gq
   case BW | yQ | yR | yS | yT | yU | yV | lI | lJ | nq | pC | nu | ny | FH | BX | BZ | B3 | B4 | B5 | B6 | nA | lK | lM | uU | J1 | J2 | J3 | qX | GA | GB | GC | yW | bQ | NR | oJ | B7 | ki | Rj | Rk | B9 | bX | Rl | Bh | MX | Yu | Yv | Yw | FI | yz | VQ | VR | FL | jn | VW | VX | FP | yq | VY | VZ | MZ | qw | Yx | Yy | M3 | gP | Yz | YB | Cb | kr | Rm | Rn | Ce | Ro | Rp | Rq | Ci | Rr | Rt | Ru | ic | rG | rH | rJ | ja | t9 | ua | uc | qZ | GD | GF | GH | iu | rK | rL | rM | jU | wJ | wK | wL | uW | J4 | J5 | J6 | jc | ud | uf | ug | nB | CG | CH | CJ | je | uh | um | uo | jW | wM | wN | wO | jY | wQ | wR | wU | jg | uq | ur | uv | k6 | zE | zF | zG | k8 | zH | zI | zJ | jv | ve | vf | vg | yZ | NS | NT | NV | FT | V0 | V1 | k_same | za | NW | NX | NZ | pD | pF | Ek | El | Em | nF | nG | CK | CM | CN | Ij | YC | YD | YF | M6 | Ck | M7 | Cm | zc | uY | pG | Cp | zf | lg | Cq | zg | uZ | fB | Ng | Cr | Ct | zj | zk | Gi | zl | Gj | Cu | zm | Gp | nJ | Gq => k_is
