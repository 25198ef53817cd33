import PyProof.Rows.All
import Wide.All
import OpenK.AllK
import Wide.FinOn
import Lean
import PyProof.EqAt
import PyProof.EqKinds
import PyProof.TupleCall
import PySem.Challenge.RW_moodtree_k31_what_a_leaf_may_go
set_option Elab.async false
set_option linter.all false
set_option maxRecDepth 100000
set_option maxHeartbeats 4000000
namespace L2
open PySem PySem.Spec PyProof.Rows
abbrev aao := @List.mem_append_right
abbrev aap := @if_neg
abbrev aaq := @List.getElem?_eq_getElem
abbrev aar := @if_pos
abbrev aas := @Nat.le_refl
abbrev aat := @Nat.le_of_ble_eq_true
abbrev aau := @List.mem_cons
abbrev aav := @List.append_assoc
abbrev aaw := @List.getD_eq_getElem?_getD
abbrev aax := @List.mem_cons_self
abbrev aay := @List.mem_cons_of_mem
abbrev aaz := @List.length_map
abbrev aaA := @Heap.get?_push_of_some
abbrev aaB := @Bool.false_ne_true
abbrev aaC := @wpAny_bind
abbrev aaD := @of_decide_eq_true
abbrev aaE := @Heap.lt_size
abbrev aaF := @Int.emod_lt_of_pos
abbrev aaG := @List.mem_append
abbrev aaH := @Option.some.inj
abbrev aaI := @PySem.W.mg_of
abbrev aaJ := @List.mem_append_left
abbrev aaK := @of_decide_eq_false
abbrev aaL := @List.length_cons
abbrev aaM := @List.length_append
abbrev aaN := @Int.emod_nonneg
abbrev aaO := @List.size_toArray
abbrev aaP := @List.getElem?_eq_some_iff
abbrev aaQ := @List.cons_append
abbrev aaR := @Heap.get?_push_size
abbrev aaS := @List.lookup_cons
abbrev aaT := @Nat.lt_of_lt_of_le
abbrev aaU := @List.mem_singleton
abbrev aaV := @Nat.ne_of_lt
abbrev aaW := @List.mem_map
abbrev aaX := @sizeLine_eq
abbrev aaY := @Nat.zero_le
abbrev aaZ := @List.Sublist.refl
abbrev aa0 := @List.getElem?_map
abbrev aa1 := @List.append_nil
abbrev aa2 := @List.Sublist.append
abbrev aa3 := @List.map_cons
abbrev aa4 := @wpAny_pure
abbrev aa5 := @List.mem_of_getElem?
abbrev aa6 := @Int.toNat_natCast
abbrev aa7 := @List.perm_append_comm
abbrev aa8 := @Bool.and_eq_true
abbrev aa9 := @List.nodup_append
abbrev abb := @Nat.le_trans
abbrev abd := @wpS_bind
abbrev abe := @decide_eq_false
abbrev abf := @List.Perm.append_left
abbrev abg := @Bool.false_eq_true
abbrev abh := @List.map_map
abbrev abi := @PySem.W.mg_none_of
abbrev abj := @PySem.mem_of_lookup
abbrev abk := @List.mem_range
abbrev abl := @List.filterMap_cons
abbrev abm := @wpS_pure
abbrev abn := @List.mem_filter
abbrev abo := @List.sublist_append_right
abbrev abp := @Nat.le_of_lt
abbrev abq := @List.all_eq_true
abbrev abr := @List.take_add_one
abbrev abt := @List.replicate_succ
abbrev abu := @List.getElem?_range
abbrev abv := @List.map_congr_left
abbrev abw := @wpAny_mono
abbrev abx := @List.getElem?_append_right
abbrev aby := @List.length_replicate
abbrev abz := @List.pairwise_cons
abbrev abA := @List.nodup_cons
abbrev abB := @List.length_nil
abbrev abC := @Int.zero_add
abbrev abD := @Array.length_toList
abbrev abE := @List.nodup_nil
abbrev abF := @beq_self_eq_true
abbrev abG := @List.getElem_mem
abbrev abH := @List.not_mem_nil
abbrev abI := @PyProof.Rows.callWith_type1
abbrev abJ := @wpAny_Call_Name_kw
abbrev abK := @wpAny_passesOwn
abbrev abL := @if_false
abbrev abM := @List.flatten_cons
abbrev abN := @List.ext_getElem?
abbrev abO := @List.reverse_cons
abbrev abP := @List.flatMap_def
abbrev abQ := @beq_eq_false_iff_ne
abbrev abR := @wpAny_getItem_str_slice
abbrev abS := @PySem.W.kia_one
abbrev abT := @List.range_succ
abbrev abU := @List.take_of_length_le
abbrev abV := @wpAny_truthy_bool
abbrev abW := @decide_eq_true_eq
abbrev abX := @List.flatMap_cons
abbrev abY := @List.length_range
abbrev abZ := @if_true
abbrev ab0 := @decide_eq_true
abbrev ab1 := @List.getElem?_eq_none
abbrev ab2 := @Array.getElem?_toList
abbrev ab3 := @List.take_length
abbrev ab4 := @Nat.lt_irrefl
abbrev ab5 := @Nat.le_succ
abbrev ab6 := @List.flatMap_append
abbrev ab7 := @List.getElem?_append_left
abbrev ab8 := @List.nil_append
abbrev ab9 := @List.filter_append
abbrev acd := @wpS_forRange
abbrev ace := @List.Perm.refl
abbrev acf := @List.filter_cons_of_neg
abbrev acg := @wpAny_holding
abbrev Key := Sum Int Str
def Mf : Key -> Value -> Bool
 | .inl k, v => Value.isInt k v
 | .inr x, v => Value.isStrOf x v
def U7 (w : World) : Key -> Int
 | .inl k => hashInt k
 | .inr x => hashStr w x
theorem cI : ∀ {k : Key} {v : Value}, Mf k v = true -> (∃ i t, k = Sum.inl i /\ v = Value.int i t) \/ (∃ x t, k = Sum.inr x /\ v = Value.str x t)
 | .inl i, v, h => by
   obtain ⟨t, e⟩ := Value.isInt_shape (k := i) (v := v) h
   exact .inl ⟨i, t, rfl, e⟩
 | .inr x, v, h => by
   obtain ⟨t, e⟩ := Value.isStrOf_shape (x := x) (v := v) h
   exact .inr ⟨x, t, rfl, e⟩
theorem MR (a b : Int) : decide ((Sum.inl a : Key) = Sum.inl b) = (a == b) := by
 by_cases e : a = b
 . subst e; simp
 . have h : ¬ (Sum.inl a : Key) = Sum.inl b := fun q => e (Sum.inl.inj q)
   rw [abe h]
   exact (abQ.mpr e).symm
theorem MS (a b : Str) : decide ((Sum.inr a : Key) = Sum.inr b) = decide (a = b) := by
 by_cases e : a = b
 . subst e; simp
 . have h : ¬ (Sum.inr a : Key) = Sum.inr b := fun q => e (Sum.inr.inj q)
   rw [abe h, abe e]
theorem MT (a : Int) (b : Str) : decide ((Sum.inl a : Key) = Sum.inr b) = false := abe (fun q => nomatch q)
theorem MV (a : Str) (b : Int) : decide ((Sum.inr a : Key) = Sum.inl b) = false := abe (fun q => nomatch q)
def Bs (prog : Program) (w : World) : PySem.KeyKind prog w Key where
 is := Mf
 hash := U7 w
 inj := fun v a b ha hb => by
   rcases cI ha with ⟨i, t, rfl, rfl⟩ | ⟨x, t, rfl, rfl⟩
   . rcases cI hb with ⟨j, u, rfl, e⟩ | ⟨y, u, rfl, e⟩
     . injection e with e1 _; rw [e1]
     . exact nomatch e
   . rcases cI hb with ⟨j, u, rfl, e⟩ | ⟨y, u, rfl, e⟩
     . exact nomatch e
     . injection e with e1 _; rw [e1]
 byValue := fun k v h => by
   rcases cI h with ⟨i, t, rfl, rfl⟩ | ⟨x, t, rfl, rfl⟩ <;> rfl
 pyHash := fun hv h => by
   rcases cI hv with ⟨i, t, rfl, rfl⟩ | ⟨x, t, rfl, rfl⟩
   . exact wpAny_pyHash_int h
   . exact wpAny_pyHash_str h
 eqBool := fun hu hv h => by
   rcases cI hu with ⟨i, t, rfl, rfl⟩ | ⟨x, t, rfl, rfl⟩
   . rcases cI hv with ⟨j, u, rfl, rfl⟩ | ⟨y, u, rfl, rfl⟩
     . rw [MR] at h; exact wpAny_eqBool_int h
     . rw [MT] at h; exact SeqAt.EqAt.int_str i t y u _ _ _ _ h
   . rcases cI hv with ⟨j, u, rfl, rfl⟩ | ⟨y, u, rfl, rfl⟩
     . rw [MV] at h; exact SeqAt.EqAt.str_int x t j u _ _ _ _ h
     . rw [MS] at h; exact wpAny_eqBool_str h
 «strs» := fun k x t v h => by
   rcases cI h with ⟨i, u, rfl, e⟩ | ⟨y, u, rfl, e⟩
   . exact nomatch e
   . injection e with e1 _
     subst e1
     cases v <;> rfl
inductive V where
 | non | bl (b : Bool) | int (i : Int) | str (x : Str) | D0 (b : Array UInt8) | Uv (b : UInt64) | ref (a : Addr) | ty (n : String)
 deriving DecidableEq
def RelV : V -> Value -> Prop
 | .non, u => u = Value.none
 | .bl b, u => u = Value.bool b
 | .int i, u => ∃ t, u = Value.int i t
 | .str x, u => ∃ t, u = Value.str x t
 | .D0 b, u => ∃ t, u = Value.bytes b t
 | .Uv b, u => ∃ t, u = Value.float b t
 | .ref a, u => u = Value.ref a
 | .ty n, u => u = Value.type n
abbrev Vals : List V -> List Value -> Prop := Paired RelV
theorem Vals.length {xs : List V} {us : List Value} (r : Vals xs us) : xs.length = us.length := Paired.length r
theorem Vals.get : ∀ {xs : List V} {us : List Value} {i : Nat} {x : V}, Vals xs us -> xs[i]? = some x -> ∃ u, us[i]? = some u /\ RelV x u
 | _, _, _, _, .nil, e => by simp at e
 | _, _, 0, _, .cons r _, e => by simp at e; subst e; exact ⟨_, rfl, r⟩
 | _, _, i + 1, x, .cons _ t, e => by
   obtain ⟨u, h1, h2⟩ := Vals.get (i := i) (x := x) t (by simpa using e)
   exact ⟨u, by simpa using h1, h2⟩
theorem Vals.set {x : V} {u : Value} (r : RelV x u) : ∀ {xs : List V} {us : List Value} (i : Nat), Vals xs us -> Vals (xs.set i x) (us.set i u)
 | _, _, _, .nil => .nil
 | _, _, 0, .cons _ t => .cons r t
 | _, _, i + 1, .cons q t => .cons q (Vals.set r i t)
theorem Vals.append : ∀ {xs ys : List V} {us ws : List Value}, Vals xs us -> Vals ys ws -> Vals (xs ++ ys) (us ++ ws)
 | _, _, _, _, .nil, s => s
 | _, _, _, _, .cons r t, s => .cons r (Vals.append t s)
theorem Vals.take : ∀ {xs : List V} {us : List Value} (n : Nat), Vals xs us -> Vals (xs.take n) (us.take n)
 | _, _, 0, _ => .nil
 | _, _, _ + 1, .nil => .nil
 | _, _, n + 1, .cons r t => .cons r (Vals.take n t)
theorem Vals.drop : ∀ {xs : List V} {us : List Value} (n : Nat), Vals xs us -> Vals (xs.drop n) (us.drop n)
 | _, _, 0, r => r
 | _, _, _ + 1, .nil => .nil
 | _, _, n + 1, .cons _ t => Vals.drop n t
def z0 : Option V -> Option Value -> Prop
 | some v, some u => RelV v u
 | none, none => True
 | _, _ => False
def KV {κ : Type} : List (κ × V) -> List (κ × Value) -> Prop := Paired fun (p : κ × V) (q : κ × Value) => p.1 = q.1 /\ RelV p.2 q.2
def kV : Key -> V
 | .inl i => .int i
 | .inr x => .str x
inductive HO where
 | lst (xs : List V)
 | tup (xs : List V)
 | dK (j4 : List (Key × V)) | dT (j4 : List (List Key × V))
 | set (S : Int -> Bool) (n : Nat)
 | ins (C dx : Addr) (fs : List (Str × V))
 | own (x : Addr)
 | xd (fs : List (Str × V))
 | met (f x : Addr)
 | U8 (lo hi : Int)
 | cZ (o : Obj) (u : HO)
 | MX (ps : Array Value)
 | tabs (q : Str)
 | CB (q : Str)
 | ext (φ : Heap -> Prop)
abbrev Hp := Addr -> Option HO
def upd (H : Hp) (a : Addr) (o : HO) : Hp := fun b => if b = a then some o else H b
theorem aL {H : Hp} {a : Addr} {o : HO} : upd H a o a = some o := by unfold upd; rw [aar rfl]
theorem au {H : Hp} {a b : Addr} {o : HO} (h : b ≠ a) : upd H a o b = H b := by unfold upd; rw [aap h]
theorem aD {H : Hp} {a b : Addr} {o : HO} (h : H a = some o) (h' : H b = none) : a ≠ b := by
 intro e; subst e; rw [h] at h'; cases h'
section
variable (P : Program) (w : World)
def fG (H : Hp) (h : Heap) (a : Addr) : HO -> Prop
 | .lst xs => xs.length <= sizeLine /\ ∃ (its : List Value) (n : Nat), Vals xs its /\ h.get? a = some { cls := .type "list", data := .seq its.toArray n }
 | .tup xs => xs.length <= sizeLine /\ ∃ its : List Value, Vals xs its /\ IsTup h a its.toArray
 | .dK j4 => j4.length <= sizeLine /\ (a == sysModules) = false /\ ∃ vs, KV j4 vs /\ h.DictOf (Bs P w) a vs
 | .dT j4 => j4.length <= sizeLine /\ (a == sysModules) = false /\ ∃ xs : List (List Key × Addr × Value),
     Paired (fun (p : List Key × V) (q : List Key × Addr × Value) => p.1 = q.1 /\ H q.2.1 = some (.tup (p.1.map kV)) /\ RelV p.2 q.2.2) j4 xs ∧
     ∃ o es ep, h.get? a = some o /\ o.ExactDict /\ o.data = .dict es ep /\ es.toList = xs.map (entryOfKey (tupleKind (Bs P w))) /\ (xs.map (·.1)).Nodup
 | .set S n => h.SetOf (intKind P w) a S n
 | .ins C dx fs => H dx = some (.own a) /\ fs.length <= 1000 /\ dx ≠ a /\ h.get? a = some (PySem.W.instObj C dx) ∧
     ∃ mA, h.Ns1 dx mA /\ (∀ f, z0 (fs.lookup f) (mA f)) /\ PySem.Within mA (fs.map (·.1))
 | .own _ => ∃ o, h.get? a = some o
 | .xd fs => ∃ mA, h.Ns1 a mA /\ ∀ f, z0 (fs.lookup f) (mA f)
 | .U8 lo hi => ∃ t u v, h.get? a = some { cls := .type "range", data := .fields #[.int lo t, .int hi u, .int 1 v] }
 | .cZ o u => h.get? a = some o /\ fG H h a u
 | .MX ps => h.get? a = some { cls := .none, data := .fields ps }
 | .tabs q => ∃ ps : Array Value, h.get? a = some { cls := .none, data := .fields ps } /\ TriplesOk ps.toList /\ ∀ pos cv, codeAmong pos ps.toList = some cv -> ∃ c, cv = .ref c /\ H c = some (.CB q)
 | .CB q => ∃ o vs t, h.get? a = some o /\ o.data = .fields vs /\ vs[1]? = some (.str q t)
 | .met f x => h.get? a = some (PySem.W.methodObj (.ref f) (.ref x))
 | .ext φ => φ h /\ (∃ o, h.get? a = some o) /\ ∀ h1 h2 : Heap, φ h1 -> (∀ o, h1.get? a = some o -> h2.get? a = some o) -> φ h2
def pS (H : Hp) (h : Heap) : Prop := ∀ a o, H a = some o -> fG P w H h a o
end
section
variable {P : Program} {w : World} {H H' : Hp} {h h' : Heap} {a : Addr} {o : HO}
theorem fG.lt (x : fG P w H h a o) : a < h.objs.size := by
 cases o with
 | lst xs => obtain ⟨_, _, _, _, e⟩ := x; exact aaE e
 | tup xs => obtain ⟨_, _, _, p⟩ := x; exact p.lt
 | dK j4 => obtain ⟨_, _, _, _, o, _, _, e, _⟩ := x; exact aaE e
 | dT j4 => obtain ⟨_, _, _, _, o, _, _, e, _⟩ := x; exact aaE e
 | set S n => obtain ⟨o, _, _, _, e, _⟩ := x; exact aaE e
 | ins C dx fs => obtain ⟨_, _, _, e, _⟩ := x; exact aaE e
 | own y => obtain ⟨_, e⟩ := x; exact aaE e
 | xd fs => obtain ⟨_, ⟨_, _, _, e, _⟩, _⟩ := x; exact aaE e
 | U8 lo hi => obtain ⟨_, _, _, e⟩ := x; exact aaE e
 | cZ ob u => obtain ⟨e, _⟩ := x; exact aaE e
 | MX ps => exact aaE (show h.get? a = some _ from x)
 | tabs q => obtain ⟨_, e, _⟩ := x; exact aaE e
 | CB q => obtain ⟨_, _, _, e, _⟩ := x; exact aaE e
 | met f y => exact aaE (show h.get? a = some _ from x)
 | ext φ => obtain ⟨_, ⟨_, e⟩, _⟩ := x; exact aaE e
theorem Paired.Rp {α β : Type} {F G : α -> β -> Prop} : ∀ {l₁ : List α} {l₂ : List β}, Paired F l₁ l₂ -> (∀ a b, F a b -> G a b) -> Paired G l₁ l₂
 | _, _, .nil, _ => .nil
 | _, _, .cons r t, f => .cons (f _ _ r) (Paired.Rp t f)
theorem fG.uH (x : fG P w H h a o) (k : ∀ b u, (b = a \/ H b = some (.own a)) -> h.get? b = some u -> h'.get? b = some u)
   (ho : ∀ b, H b = some (.own a) -> H' b = some (.own a)) (ht : ∀ b xs, H b = some (.tup xs) -> H' b = some (.tup xs)) (gI : ∀ b q, H b = some (.CB q) -> H' b = some (.CB q) := by intro _ _ q; exact q) : fG P w H' h' a o := by
 induction o with
 | lst xs => obtain ⟨z, its, n, r, e⟩ := x; exact ⟨z, its, n, r, k _ _ (.inl rfl) e⟩
 | tup xs => obtain ⟨z, its, r, ob, e, c⟩ := x; exact ⟨z, its, r, ob, k _ _ (.inl rfl) e, c⟩
 | dK j4 => obtain ⟨z, y, vs, r, ob, es, ep, e, c⟩ := x; exact ⟨z, y, vs, r, ob, es, ep, k _ _ (.inl rfl) e, c⟩
 | dT j4 =>
   obtain ⟨z, y, xs, r, ob, es, ep, e, c⟩ := x
   exact ⟨z, y, xs, Paired.Rp r fun p q z => ⟨z.1, ht _ _ z.2.1, z.2.2⟩, ob, es, ep, k _ _ (.inl rfl) e, c⟩
 | set S n => obtain ⟨ob, es, ep, t, e, c⟩ := x; exact ⟨ob, es, ep, t, k _ _ (.inl rfl) e, c⟩
 | ins C dx fs =>
   obtain ⟨d, z, ne, e, mA, ⟨od, es, ep, e2, c⟩, r⟩ := x
   exact ⟨ho _ d, z, ne, k _ _ (.inl rfl) e, mA, ⟨od, es, ep, k _ _ (.inr d) e2, c⟩, r⟩
 | own y => obtain ⟨ob, e⟩ := x; exact ⟨ob, k _ _ (.inl rfl) e⟩
 | xd fs => obtain ⟨mA, ⟨od, es, ep, e, c⟩, r⟩ := x; exact ⟨mA, ⟨od, es, ep, k _ _ (.inl rfl) e, c⟩, r⟩
 | U8 lo hi => obtain ⟨t, u, v, e⟩ := x; exact ⟨t, u, v, k _ _ (.inl rfl) e⟩
 | cZ ob u ih => obtain ⟨e, q⟩ := x; exact ⟨k _ _ (.inl rfl) e, ih q⟩
 | MX ps =>
   have e : h.get? a = some { cls := .none, data := .fields ps } := x
   show h'.get? a = some { cls := .none, data := .fields ps }
   exact k a _ (.inl rfl) e
 | met f y =>
   have e : h.get? a = some (PySem.W.methodObj (.ref f) (.ref y)) := x
   show h'.get? a = some (PySem.W.methodObj (.ref f) (.ref y))
   exact k a _ (.inl rfl) e
 | tabs q => obtain ⟨ps, e, tr, cs⟩ := x; exact ⟨ps, k _ _ (.inl rfl) e, tr, fun pos cv z => let ⟨c, e1, e2⟩ := cs pos cv z; ⟨c, e1, gI _ _ e2⟩⟩
 | CB q => obtain ⟨ob, vs, t, e, r⟩ := x; exact ⟨ob, vs, t, k _ _ (.inl rfl) e, r⟩
 | ext φ => obtain ⟨p, ⟨o, e⟩, st⟩ := x; exact ⟨st _ _ p fun o q => k _ _ (.inl rfl) q, ⟨o, k _ _ (.inl rfl) e⟩, st⟩
theorem pS.lt (x : pS P w H h) (e : H a = some o) : a < h.objs.size := (x a o e).lt
theorem pS.fresh (x : pS P w H h) (e : h.objs.size <= a) : H a = none := by
 cases q : H a with
 | none => rfl
 | some u => exact absurd (aaT (x.lt q) e) (ab4 _)
theorem pS.kept (x : pS P w H h) (k : ∀ b u, h.get? b = some u -> h'.get? b = some u) : pS P w H h' := fun a o e =>
 (x a o e).uH (fun b u _ q => k b u q) (fun _ q => q) fun _ _ q => q
theorem pS.laid (x : pS P w H h) (k : ∀ b u, h.get? b = some u -> h'.get? b = some u) (hp : h.objs.size <= a) (new : fG P w (upd H a o) h' a o) : pS P w (upd H a o) h' := fun b u e => by
 have hn := x.fresh hp
 by_cases hb : b = a
 . subst hb; rw [aL] at e; cases e; exact new
 . rw [au hb] at e
   exact (x b u e).uH (fun c v _ q => k c v q) (fun c q => by rw [au (aD q hn)]; exact q) (fun c xs q => by rw [au (aD q hn)]; exact q) fun c z q => by rw [au (aD q hn)]; exact q
end
def Rd (H : Hp) (a : Addr) (u : HO) : Prop := H a = some u \/ ∃ o, H a = some (.cZ o u)
theorem Rd.ok {P : Program} {w : World} {H : Hp} {h : Heap} {a : Addr} {u : HO} (r : Rd H a u) (x : pS P w H h) : fG P w H h a u := by
 rcases r with r | ⟨o, r⟩
 . exact x a u r
 . obtain ⟨_, q⟩ := x a _ r
   exact q
def Uw : Option HO -> Prop
 | some (.lst _) => True
 | some (.dK _) => True
 | some (.dT _) => True
 | some (.set _ _) => True
 | some (.ins _ _ _) => True
 | some (.ext _) => True
 | some (.tabs _) => True
 | _ => False
section
variable {P : Program} {w : World} {H : Hp} {h h' : Heap} {x e : Addr} {o' : HO}
theorem pS.write (ok : pS P w H h) (mu : Uw (H x)) (he : e = x \/ H e = some (.own x)) (k : ∀ b u, b ≠ e -> h.get? b = some u -> h'.get? b = some u) (QZ : ∃ u, h'.get? e = some u)
   (new : fG P w (upd H x o') h' x o') : pS P w (upd H x o') h' := fun b u q => by
 have Rq : ∀ c y, H c = some (.own y) -> c ≠ x := fun c y r z => by subst z; rw [r] at mu; exact mu
 have U9 : ∀ c xs, H c = some (.tup xs) -> c ≠ x := fun c xs r z => by subst z; rw [r] at mu; exact mu
 have Va : ∀ c q, H c = some (.CB q) -> c ≠ x := fun c q r z => by subst z; rw [r] at mu; exact mu
 by_cases hb : b = x
 . subst hb; rw [aL] at q; cases q; exact new
 . rw [au hb] at q
   by_cases MY : b = e
   . have q' : H b = some (.own x) := by
       rcases he with z | z
       . exact absurd (MY.trans z) hb
       . rw [MY]; exact z
     rw [q] at q'; cases q'
     obtain ⟨v, hv⟩ := QZ
     exact ⟨v, by rw [MY]; exact hv⟩
   . refine (ok b u q).uH (fun c v hc r => k c v ?_ r) (fun c r => by rw [au (Rq c b r)]; exact r) (fun c xs r => by rw [au (U9 c xs r)]; exact r) fun c z r => by rw [au (Va c z r)]; exact r
     rcases hc with rfl | hc
     . exact MY
     . rintro rfl
       rcases he with z | z
       . exact Rq c b hc z
       . rw [hc] at z; cases z; exact hb rfl
end
structure Un (fs ex : List Addr) (H H' : Hp) (h h' : Heap) : Prop where
 keep : ∀ b o, h.get? b = some o -> H b = none -> b ∉ fs -> b ∉ ex -> h'.get? b = some o
 slot : ∀ b o, h.get? b = some o -> H b = none -> b ∈ fs -> b ∉ ex -> ∃ sl, h'.get? b = some { o with slots := sl }
 free : ∀ b o, h.get? b = some o -> H b = none -> b ∉ ex -> H' b = none
 there : ∀ b o, h.get? b = some o -> b ∉ ex -> ∃ o', h'.get? b = some o'
 uI : ∀ b xs, H b = some (.tup xs) -> H' b = some (.tup xs)
 fV : ∀ b o u, H b = some (.cZ o u) -> H' b = some (.cZ o u)
 uJ : ∀ b ps, H b = some (.MX ps) -> ∃ more, H' b = some (.MX (ps ++ more))
section
variable {fs X5 ex ZU : List Addr} {H H1 H2 : Hp} {h h1 h2 h' : Heap} {a x e : Addr} {o : HO}
theorem Un.any (u : Un fs ex H H1 h h1) {b : Addr} {ob : Obj} (q : h.get? b = some ob) (n : H b = none) (hx : b ∉ ex) : ∃ sl, h1.get? b = some { ob with slots := sl } := by
 by_cases hb : b ∈ fs
 . exact u.slot b ob q n hb hx
 . exact ⟨ob.slots, u.keep b ob q n hb hx⟩
theorem Un.kept (k : ∀ b u, h.get? b = some u -> h'.get? b = some u) : Un fs ex H H h h' :=
 ⟨fun b ob q _ _ _ => k b ob q, fun b ob q _ _ _ => ⟨ob.slots, k b ob q⟩, fun _ _ _ n _ => n, fun b ob q _ => ⟨ob, k b ob q⟩, fun _ _ q => q, fun _ _ _ q => q, fun _ ps q => ⟨#[], by rw [q]; simp⟩⟩
theorem Un.refl : Un fs ex H H h h := Un.kept fun _ _ q => q
theorem Un.laid (k : ∀ b u, h.get? b = some u -> h'.get? b = some u) (hp : h.objs.size <= a) (hn : H a = none) : Un fs ex H (upd H a o) h h' where
 keep := fun b u q _ _ _ => k b u q
 slot := fun b u q _ _ _ => ⟨u.slots, k b u q⟩
 free := fun b u q n _ => by rw [au (aaV (aaT (aaE q) hp))]; exact n
 there := fun b u q _ => ⟨u, k b u q⟩
 uI := fun b xs q => by rw [au (aD q hn)]; exact q
 fV := fun b u xs q => by rw [au (aD q hn)]; exact q
 uJ := fun b ps q => ⟨#[], by rw [au (aD q hn), q]; simp⟩
theorem Un.write (mu : Uw (H x)) (he : e = x \/ H e = some (.own x)) (k : ∀ b u, b ≠ e -> h.get? b = some u -> h'.get? b = some u) (QZ : ∃ u, h'.get? e = some u) : Un fs ex H (upd H x o) h h' := by
 have hx : ∀ b, H b = none -> b ≠ x := fun b n z => by subst z; rw [n] at mu; exact mu
 have hb : ∀ b, H b = none -> b ≠ e := fun b n z => by
   subst z
   rcases he with r | r
   . exact hx b n r
   . rw [n] at r; cases r
 have hm : ∀ b u, H b = some u -> ¬ Uw (some u) -> b ≠ x := fun b u q nm z => by subst z; rw [q] at mu; exact nm mu
 refine ⟨fun b u q n _ _ => k b u (hb b n) q, fun b u q n _ _ => ⟨u.slots, k b u (hb b n) q⟩, fun b u q n _ => by rw [au (hx b n)]; exact n, fun b u q _ => ?_,
   fun b xs q => by rw [au (hm b _ q fun z => z)]; exact q, fun b u xs q => by rw [au (hm b _ q fun z => z)]; exact q, fun b ps q => ⟨#[], by rw [au (hm b _ q fun z => z), q]; simp⟩⟩
 by_cases MY : b = e
 . subst MY; exact QZ
 . exact ⟨u, k b u MY q⟩
end
def Ux (h : Heap) (H : Hp) : List Addr := (List.range h.objs.size).filter fun a => (H a).isSome
def tD (h : Heap) (H : Hp) : Heap := PySem.W.hideAll h (Ux h H)
theorem CD (h : Heap) (H : Hp) : (tD h H).objs.size = h.objs.size := PySem.W.hideAll_size _ _
theorem Eb {h : Heap} {H : Hp} {b : Addr} {o : Obj} (e : h.get? b = some o) (n : H b = none) : (tD h H).get? b = some o :=
 PySem.W.hideAll_get _ e fun hm => by
   have q : (H b).isSome = true := (abn.mp hm).2
   rw [n] at q; simp at q
theorem Hw {h : Heap} {H : Hp} {b : Addr} {o : Obj} (e : (tD h H).get? b = some o) : h.get? b = some o /\ H b = none := by
 have e' : h.get? b = some o := PySem.W.of_hideAll (Ux h H) e
 refine ⟨e', ?_⟩
 cases q : H b with
 | none => rfl
 | some x =>
   have hm : b ∈ Ux h H := abn.mpr ⟨abk.mpr (aaE e'), by simp [q]⟩
   have z : (tD h H).get? b = none := PySem.W.hideAll_none (Ux h H) hm
   rw [z] at e; cases e
def Hx (g h : Heap) (L : Addr) : List (Addr × Obj) := (List.range h.objs.size).filterMap fun a => if a = L \/ (g.get? a).isSome = true then none else (h.get? a).map fun o => (a, o)
def rest (g h : Heap) (L d : Addr) : List (Addr × Obj) := (Hx g h L).filter fun p => decide (p.1 ≠ d)
structure Mod (K : PySem.W.Frag) (mg : Str -> Option Value) (base : Heap) : Prop where
 Uy : K.In base
 glob : base.Ns mainGlobals mg
 blt : ∃ mb, base.Ns builtinsNs mb /\ ∀ x : Str, x ≠ "__name__" -> mb x = bootBuiltins x
 nolimit : base.NoLimit
structure Cx where
 prog : Program
 w : World
 K : PySem.W.Frag
 mg : Str -> Option Value
 base : Heap
 A : Around
 N : List Str
 s₀ : Shared
 H₀ : Hp
 env : Env
 outer : List Env
 stack : List Env
 ex : List Addr
 fn : Str -> Bool
 calm : Bool
 pn : List (Addr × Obj)
 xe : Value -> Shared -> Prop
def D3 (l : List Env) : List Addr := l.filterMap (·.frame)
abbrev Cx.fs (X : Cx) : List Addr := D3 X.outer
def MZ (sc : Scope) (x : Str) : Prop := sc.names.lookup x = some .local \/ sc.names.lookup x = some .cell \/ sc.names.lookup x = some .free
def Loc (sc : Scope) (x : Str) : Prop := sc.names.lookup x = some .local \/ sc.names.lookup x = some .cell
def Look (env : Env) (h : Heap) (m : Str -> Option Value) (x : Str) (u : Value) : Prop :=
 (env.kindOf x = some .local /\ m x = some u) \/ ((env.kindOf x = some .cell \/ env.kindOf x = some .free) /\ ∃ c, env.cells.lookup x = some c /\ h.IsCell c (some u))
structure Cx.Ok (X : Cx) : Prop where
 mod : Mod X.K X.mg X.base
 kind : X.env.scope.kind = .function
 glob : X.env.globals = mainGlobals
 blt : X.env.builtins = builtinsNs
 above : X.s₀.heap.objs.size <= X.env.locals
 inj : ∀ x y c, X.env.cells.lookup x = some c -> X.env.cells.lookup y = some c -> x = y
 has : ∀ x, (X.env.kindOf x = some .cell \/ X.env.kindOf x = some .free) -> ∃ c, X.env.cells.lookup x = some c
 Rr : ∀ x c, X.fn x = true -> X.env.cells.lookup x = some c -> X.s₀.heap.objs.size <= c
 hd : X.calm = true -> X.A.handled = none
 frames : X.A.frames = some X.stack
 Uz : X.stack = X.outer \/ (X.stack = X.env :: X.outer /\ X.env.frame = some X.env.locals)
 W5 : ∀ b ∈ X.ex, b ≠ X.env.locals /\ ∀ x c, X.env.cells.lookup x = some c -> c ≠ b
 bs : ∀ b o, X.base.get? b = some o -> X.s₀.heap.get? b = some o /\ X.H₀ b = none
 Hr : X.base.objs.size <= X.s₀.heap.objs.size
 Ec : ∀ b o, X.base.get? b = some o -> b ∉ X.ex
 Hy : ∀ b ∈ X.ex, b ∉ X.fs
 pT : X.s₀.heap.FunFrames X.base X.outer
 M0 : ∀ b ∈ X.fs, X.H₀ b = none
structure Inv (X : Cx) (pins : List (Addr × Obj)) (σ : List (Option V)) (H : Hp) (s : Shared) : Prop where
 ok : X.Ok
 os : s.os = X.s₀.os
 bare : AllBare s.gens
 base : Un X.fs X.ex X.H₀ H X.s₀.heap s.heap
 loc : ∃ m, s.heap.Ns X.env.locals m /\ ∀ (i : Nat) (x : Str) (v : V), X.N[i]? = some x -> σ[i]? = some (some v) -> MZ X.env.scope x -> ∃ u, RelV v u /\ Look X.env s.heap m x u
 cell : ∀ x c, X.env.cells.lookup x = some c -> ∃ v, s.heap.IsCell c v
 free : H X.env.locals = none
 jy : ∀ x c, X.env.cells.lookup x = some c -> H c = none
 pin : ∀ p ∈ X.pn ++ pins, s.heap.get? p.1 = some p.2 /\ H p.1 = none /\ p.1 ≠ X.env.locals /\ p.1 ∉ X.fs /\ ∀ v, p.2.data ≠ .cell v
 cU : pS X.prog X.w H s.heap
 len : σ.length = X.N.length
section
variable {X : Cx} {pins : List (Addr × Obj)} {σ : List (Option V)} {H H' : Hp} {s : Shared} {h' : Heap}
theorem Cx.Ok.Vb (ok : X.Ok) {b : Addr} {o : Obj} (e : X.base.get? b = some o) : b ∉ X.fs := fun hb => by
 have := (ok.pT.mem hb).1
 rw [e] at this; cases this
theorem Inv.bs (I : Inv X pins σ H s) : ∀ b o, X.base.get? b = some o -> s.heap.get? b = some o /\ H b = none := fun b o e =>
 ⟨I.base.keep b o (I.ok.bs b o e).1 (I.ok.bs b o e).2 (I.ok.Vb e) (I.ok.Ec b o e), I.base.free b o (I.ok.bs b o e).1 (I.ok.bs b o e).2 (I.ok.Ec b o e)⟩
theorem Inv.bk (I : Inv X pins σ H s) : ∀ b o, X.base.get? b = some o -> s.heap.get? b = some o := fun b o e => (I.bs b o e).1
theorem Inv.mod (I : Inv X pins σ H s) : Mod X.K X.mg X.base := I.ok.mod
theorem Inv.yd (I : Inv X pins σ H s) : X.K.In s.heap := I.ok.mod.Uy.keeps I.bk
theorem Inv.nolimit (I : Inv X pins σ H s) : s.heap.NoLimit := I.ok.mod.nolimit.keeps I.bk
theorem Inv.lt (I : Inv X pins σ H s) : X.env.locals < s.heap.objs.size := let ⟨_, hn, _⟩ := I.loc; hn.lt
theorem Inv.sz (I : Inv X pins σ H s) : X.s₀.heap.objs.size <= s.heap.objs.size := abb I.ok.above (abp I.lt)
theorem Inv.Vc (I : Inv X pins σ H s) {a : Addr} (h : s.heap.objs.size <= a) : a ∉ X.fs := fun hb => by
 obtain ⟨_, o, ho, _⟩ := I.ok.pT.mem hb
 exact absurd (aaT (aaE ho) (abb I.sz h)) (ab4 _)
theorem Inv.M3 (I : Inv X pins σ H s) : ∀ x c, X.env.cells.lookup x = some c -> c ≠ X.env.locals := fun x c e z => by
 obtain ⟨v, o, ho, hd⟩ := I.cell x c e
 obtain ⟨m, ⟨o', es, ep, Hz, HB, _⟩, _⟩ := I.loc
 rw [z, Hz] at ho; cases ho; rw [HB] at hd; cases hd
theorem Inv.pT (I : Inv X pins σ H s) : s.heap.FunFrames X.base X.outer := by
 have all : ∀ (l : List Env), (∀ b ∈ D3 l, b ∈ X.fs) -> X.s₀.heap.FunFrames X.base l -> s.heap.FunFrames X.base l := by
   intro l
   induction l with
   | nil => intro _ _; trivial
   | cons env r ih =>
     intro hs hl
     obtain ⟨hk, ⟨L, o, hf, hn, ho, hd⟩, hr⟩ := hl
     have hL : L ∈ X.fs := hs L (by unfold D3; rw [abl, hf]; exact aax)
     obtain ⟨sl, e⟩ := I.base.slot L o ho (I.ok.M0 L hL) hL fun z => I.ok.Hy L z hL
     exact ⟨hk, ⟨L, _, hf, hn, e, hd⟩, ih (fun b hb => hs b (by unfold D3; rw [abl, hf]; exact aay _ hb)) hr⟩
 exact all X.outer (fun _ hb => hb) I.ok.pT
theorem Inv.stack (I : Inv X pins σ H s) : s.heap.FunFrames X.base X.stack := by
 rcases I.ok.Uz with e | ⟨e, hf⟩
 . rw [e]; exact I.pT
 . rw [e]
   obtain ⟨m, hn, _⟩ := I.loc
   refine .cons (by rw [I.ok.kind]; decide) hf hn ?_ I.pT
   exact Heap.get?_none_of_le (abb I.ok.Hr I.ok.above)
theorem Inv.uK (I : Inv X pins σ H s) : ∀ b ∈ D3 X.stack, b ∈ X.env.locals :: X.fs := fun b hb => by
 rcases I.ok.Uz with e | ⟨e, hf⟩
 . rw [e] at hb; exact aay _ hb
 . rw [e] at hb
   unfold D3 at hb
   rw [abl, hf] at hb
   exact hb
theorem Inv.uL (I : Inv X pins σ H s) : ∀ b ∈ D3 X.stack, H b = none := fun b hb => by
 rcases aau.mp (I.uK b hb) with e | hb
 . rw [e]; exact I.free
 . obtain ⟨_, o, ho, _⟩ := I.ok.pT.mem hb
   exact I.base.free b o ho (I.ok.M0 b hb) fun z => I.ok.Hy b z hb
theorem Inv.step {g' : Array GenState} {t' : Nat} {d' : Drawn} {ch : List Addr} (I : Inv X pins σ H s)
   (Mg : ∀ b ∈ ch, (b ∈ X.ex \/ X.s₀.heap.objs.size <= b) /\ b ≠ X.env.locals /\ (∀ x c, X.env.cells.lookup x = some c -> c ≠ b) /\ ∀ p ∈ X.pn ++ pins, p.1 ≠ b)
   (keep : ∀ b o, b ≠ X.env.locals -> b ∉ X.fs -> b ∉ ch -> s.heap.get? b = some o -> H b = none -> h'.get? b = some o)
   (slot : ∀ b o, b ≠ X.env.locals -> b ∈ X.fs -> b ∉ ch -> s.heap.get? b = some o -> H b = none -> ∃ sl, h'.get? b = some { o with slots := sl }) (free : ∀ b o, b ∉ ch -> s.heap.get? b = some o -> H b = none -> H' b = none)
   (there : ∀ b o, b ∉ ch -> s.heap.get? b = some o -> ∃ o', h'.get? b = some o')
   (uI : ∀ b xs, H b = some (.tup xs) -> H' b = some (.tup xs)) (fV : ∀ b o u, H b = some (.cZ o u) -> H' b = some (.cZ o u)) (uJ : ∀ b ps, H b = some (.MX ps) -> ∃ more, H' b = some (.MX (ps ++ more)))
   (ns : ∀ m, s.heap.Ns X.env.locals m -> h'.Ns X.env.locals m) (cU : pS X.prog X.w H' h') (hg : AllBare g') :
   Inv X pins σ H' { s with heap := h', gens := g', drawn := d', toks := t' } := by
 have W6 : ∀ b o, X.s₀.heap.get? b = some o -> b ≠ X.env.locals := fun b o e => aaV (aaT (aaE e) I.ok.above)
 have UA : ∀ b o, X.s₀.heap.get? b = some o -> b ∉ X.ex -> b ∉ ch := fun b o e hx hb => by
   rcases (Mg b hb).1 with z | z
   . exact hx z
   . exact absurd (aaT (aaE e) z) (ab4 _)
 have cellK : ∀ x c, X.env.cells.lookup x = some c -> ∀ v, s.heap.IsCell c v -> h'.IsCell c v := fun x c e v ⟨o, ho, hd⟩ => by
   have Rt : c ∉ ch := fun z => (Mg c z).2.2.1 x c e rfl
   by_cases hc : c ∈ X.fs
   . obtain ⟨sl, q⟩ := slot c o (I.M3 x c e) hc Rt ho (I.jy x c e)
     exact ⟨_, q, hd⟩
   . exact ⟨o, keep c o (I.M3 x c e) hc Rt ho (I.jy x c e), hd⟩
 refine ⟨I.ok, I.os, hg, ⟨fun b o e n hb hx => ?_, fun b o e n hb hx => ?_, fun b o e n hx => ?_, fun b o e hx => ?_, fun b xs e => uI b xs (I.base.uI b xs e), fun b o xs e => fV b o xs (I.base.fV b o xs e), fun b ps e => ?_⟩, ?_, fun x c e => ?_, ?_, fun x c e => ?_, fun p hp => ?_, cU, I.len⟩
 . exact keep b o (W6 b o e) hb (UA b o e hx) (I.base.keep b o e n hb hx) (I.base.free b o e n hx)
 . obtain ⟨sl, e1⟩ := I.base.slot b o e n hb hx
   obtain ⟨X6, e2⟩ := slot b _ (W6 b o e) hb (UA b o e hx) e1 (I.base.free b o e n hx)
   exact ⟨X6, e2⟩
 . obtain ⟨o', e1⟩ := I.base.there b o e hx
   exact free b o' (UA b o e hx) e1 (I.base.free b o e n hx)
 . obtain ⟨o', e1⟩ := I.base.there b o e hx
   exact there b o' (UA b o e hx) e1
 . obtain ⟨m1, e1⟩ := I.base.uJ b ps e
   obtain ⟨m2, e2⟩ := uJ b _ e1
   exact ⟨m1 ++ m2, by rw [e2, Array.append_assoc]⟩
 . obtain ⟨m, hn, hl⟩ := I.loc
   refine ⟨m, ns m hn, fun i x v e1 e2 e3 => ?_⟩
   obtain ⟨u, r, l⟩ := hl i x v e1 e2 e3
   refine ⟨u, r, ?_⟩
   rcases l with l | ⟨k, c, e, z⟩
   . exact .inl l
   . exact .inr ⟨k, c, e, cellK x c e _ z⟩
 . obtain ⟨v, z⟩ := I.cell x c e
   exact ⟨v, cellK x c e v z⟩
 . obtain ⟨m, ⟨o, _, _, ho, _⟩, _⟩ := I.loc
   exact free _ o (fun z => (Mg _ z).2.1 rfl) ho I.free
 . obtain ⟨v, o, ho, hd⟩ := I.cell x c e
   exact free c o (fun z => (Mg c z).2.2.1 x c e rfl) ho (I.jy x c e)
 . obtain ⟨e, n, ne, nf, d⟩ := I.pin p hp
   have Rt : p.1 ∉ ch := fun z => (Mg p.1 z).2.2.2 p hp rfl
   exact ⟨keep p.1 p.2 ne nf Rt e n, free p.1 p.2 Rt e n, ne, nf, d⟩
theorem Inv.un {t' : Nat} (I : Inv X pins σ H s) (u : Un X.fs [] H H' s.heap h') (cU : pS X.prog X.w H' h') : Inv X pins σ H' { s with heap := h', toks := t' } := by
 obtain ⟨m, ⟨o, es, ep, ho, r⟩, _⟩ := id I.loc
 obtain ⟨sl, hL⟩ := u.any ho I.free (by simp)
 exact I.step (g' := s.gens) (d' := s.drawn) (ch := []) (fun _ z => nomatch z) (fun b o _ hb _ e n => u.keep b o e n hb (by simp)) (fun b o _ hb _ e n => u.slot b o e n hb (by simp)) (fun b o _ e n => u.free b o e n (by simp)) (fun b o _ e => u.there b o e (by simp)) u.uI u.fV u.uJ (fun m' hm => by
   obtain ⟨o', Vd, Ve, Hz, r'⟩ := hm
   rw [ho] at Hz; cases Hz
   exact ⟨_, Vd, Ve, hL, r'⟩) cU I.bare
theorem Inv.call {g' : Array GenState} {t' : Nat} {d' : Drawn} {ch : List Addr} (I : Inv X pins σ H s) (u : Un (D3 X.stack) ch H H' s.heap h') (cU : pS X.prog X.w H' h') (hg : AllBare g')
   (Mg : ∀ b ∈ ch, (b ∈ X.ex \/ X.s₀.heap.objs.size <= b) /\ b ≠ X.env.locals /\ (∀ x c, X.env.cells.lookup x = some c -> c ≠ b) /\ ∀ p ∈ X.pn ++ pins, p.1 ≠ b) :
   Inv X pins σ H' { s with heap := h', gens := g', drawn := d', toks := t' } := by
 obtain ⟨m, ⟨o, es, ep, ho, r⟩, _⟩ := id I.loc
 obtain ⟨sl, hL⟩ := u.any ho I.free fun z => (Mg _ z).2.1 rfl
 exact I.step (ch := ch) Mg (fun b o hL hb hc e n => u.keep b o e n (fun z => (aau.mp (I.uK b z)).elim hL hb) hc) (fun b o _ _ hc e n => u.any e n hc) (fun b o hc e n => u.free b o e n hc) (fun b o hc e => u.there b o e hc) u.uI u.fV u.uJ (fun m' hm => by
   obtain ⟨o', Vd, Ve, Hz, r'⟩ := hm
   rw [ho] at Hz; cases Hz
   exact ⟨_, Vd, Ve, hL, r'⟩) cU hg
theorem Inv.turned {t' : Nat} {it : Addr} (I : Inv X pins σ H s) (k : ∀ b o, b ≠ it -> s.heap.get? b = some o -> h'.get? b = some o) (hn : H it = none) (hL : it ≠ X.env.locals)
   (h1 : it ∈ X.ex \/ X.s₀.heap.objs.size <= it) (h2 : ∀ x c, X.env.cells.lookup x = some c -> c ≠ it) (h3 : ∀ p ∈ X.pn ++ pins, p.1 ≠ it) : Inv X pins σ H { s with heap := h', toks := t' } := by
 have W7 : ∀ b u, H b = some u -> b ≠ it := fun b u e z => by rw [z, hn] at e; cases e
 refine I.step (g' := s.gens) (d' := s.drawn) (ch := [it]) (fun b hb => ?_) (fun b o _ _ hc e _ => k b o (fun z => hc (by simp [z])) e) (fun b o _ _ hc e _ => ⟨o.slots, k b o (fun z => hc (by simp [z])) e⟩) (fun _ _ _ _ n => n)
   (fun b o hc e => ⟨o, k b o (fun z => hc (by simp [z])) e⟩) (fun _ _ e => e) (fun _ _ _ e => e) (fun b ps e => ⟨#[], by rw [e]; simp⟩) (fun m hm => ?_) (fun b u e => ?_) I.bare
 . have e : b = it := by simpa using hb
   subst e
   exact ⟨h1, hL, h2, h3⟩
 . obtain ⟨o, es, ep, ho, r⟩ := hm
   exact ⟨o, es, ep, k _ o (Ne.symm hL) ho, r⟩
 . refine (I.cU b u e).uH (fun c v hc q => k c v ?_ q) (fun _ q => q) fun _ _ q => q
   rcases hc with z | z
   . rw [z]; exact W7 b u e
   . exact W7 c _ z
theorem Inv.tok (I : Inv X pins σ H s) (t : Nat) : Inv X pins σ H { s with toks := t } := I.un (h' := s.heap) (t' := t) Un.refl I.cU
theorem Inv.kept {t' : Nat} (I : Inv X pins σ H s) (k : ∀ b u, s.heap.get? b = some u -> h'.get? b = some u) : Inv X pins σ H { s with heap := h', toks := t' } := I.un (Un.kept k) (I.cU.kept k)
theorem Inv.laid {a : Addr} {o : HO} {t' : Nat} (I : Inv X pins σ H s) (k : ∀ b u, s.heap.get? b = some u -> h'.get? b = some u) (hp : s.heap.objs.size <= a) (new : fG X.prog X.w (upd H a o) h' a o) :
   Inv X pins σ (upd H a o) { s with heap := h', toks := t' } := I.un (Un.laid k hp (I.cU.fresh hp)) (I.cU.laid k hp new)
theorem Inv.write {x e : Addr} {o : HO} {t' : Nat} (I : Inv X pins σ H s) (mu : Uw (H x)) (he : e = x \/ H e = some (.own x)) (k : ∀ b u, b ≠ e -> s.heap.get? b = some u -> h'.get? b = some u) (QZ : ∃ u, h'.get? e = some u)
   (new : fG X.prog X.w (upd H x o) h' x o) : Inv X pins σ (upd H x o) { s with heap := h', toks := t' } := I.un (Un.write mu he k QZ) (I.cU.write mu he k QZ new)
theorem Inv.qa {gk : List (Addr × Obj)} (I : Inv X pins σ H s) (h : ∀ p ∈ gk, s.heap.get? p.1 = some p.2 /\ H p.1 = none /\ p.1 ≠ X.env.locals /\ p.1 ∉ X.fs /\ ∀ v, p.2.data ≠ .cell v) : Inv X gk σ H s :=
 ⟨I.ok, I.os, I.bare, I.base, I.loc, I.cell, I.free, I.jy, fun p hp => (aaG.mp hp).elim (fun z => I.pin p (aaJ _ z)) (h p), I.cU, I.len⟩
theorem ye {N : List Str} (hN : N.Nodup) {i j : Nat} {x : Str} (a : N[i]? = some x) (b : N[j]? = some x) : i = j := by
 obtain ⟨h1, e1⟩ := aaP.mp a
 obtain ⟨h2, e2⟩ := aaP.mp b
 exact (List.getElem_inj hN).mp (e1.trans e2.symm)
theorem CF {M : Model} {A : Around} {E : Value -> Shared -> Prop} {i : Nat} {x : Str} {v : V} {u : Value} {Q : Unit -> Shared -> Prop} (I : Inv X pins σ H s) (hN : X.N.Nodup) (hi : X.N[i]? = some x) (hx : Loc X.env.scope x) (r : RelV v u)
   (h : ∀ s', Inv X pins (σ.set i (some v)) H s' -> (∃ a, Heap.SameBut a s.heap s'.heap /\ (a = X.env.locals \/ X.env.cells.lookup x = some a)) -> Q () s') (hf : X.fn x = true \/ X.env.scope.names.lookup x = some .local := by first | exact .inl rfl | exact .inr rfl | assumption) : wpAny M A (storeName X.env x u) Q E s := by
 obtain ⟨m, hn, hl⟩ := id I.loc
 have Vf : (X.env.scope.kind == .class || (X.env.scope.kind == .module && X.env.locals != X.env.globals)) = false := by rw [I.ok.kind]; rfl
 have Ru : i < σ.length := by rw [I.len]; exact (aaP.mp hi).1
 have M3 := I.M3
 have tracked : ∀ {a : Addr} {h' : Heap}, (∃ o, s.heap.get? a = some o /\ H a = none) -> Heap.SameBut a s.heap h' -> pS X.prog X.w H h' := fun {a h'} ha hs b ob e => by
   obtain ⟨_, _, yf⟩ := ha
   refine (I.cU b ob e).uH (fun c w' hc q => (hs.2 c ?_).trans q) (fun _ q => q) fun _ _ q => q
   rintro rfl
   rcases hc with rfl | hc
   . rw [yf] at e; cases e
   . rw [yf] at hc; cases hc
 rcases hx with hk | hk
 . refine wpAny_storeName_local hk hn (fun h' X7 hs => ?_) Vf
   obtain ⟨oL, _, _, UB, _⟩ := id hn
   refine h _ ⟨I.ok, I.os, I.bare, ⟨fun b o e n hb hx => ?_, fun b o e n hb hx => ?_, I.base.free, fun b o e hx => ?_, I.base.uI, I.base.fV, I.base.uJ⟩, ⟨_, X7, fun j y v' e1 e2 e3 => ?_⟩, fun y c e => ?_, I.free, I.jy, fun p hp => ?_, tracked ⟨oL, UB, I.free⟩ hs, by simpa using I.len⟩ ⟨_, hs, .inl rfl⟩
   . exact (hs.2 b (aaV (aaT (aaE e) I.ok.above))).trans (I.base.keep b o e n hb hx)
   . obtain ⟨sl, e1⟩ := I.base.slot b o e n hb hx
     exact ⟨sl, (hs.2 b (aaV (aaT (aaE e) I.ok.above))).trans e1⟩
   . obtain ⟨o', e1⟩ := I.base.there b o e hx
     exact ⟨o', (hs.2 b (aaV (aaT (aaE e) I.ok.above))).trans e1⟩
   . by_cases hj : j = i
     . subst hj
       rw [hi] at e1; cases e1
       rw [List.getElem?_set_self Ru] at e2
       cases e2
       exact ⟨u, r, .inl ⟨hk, by simp⟩⟩
     . rw [List.getElem?_set_ne (Ne.symm hj)] at e2
       obtain ⟨u', r', q⟩ := hl j y v' e1 e2 e3
       refine ⟨u', r', ?_⟩
       rcases q with ⟨k, e⟩ | ⟨k, c, e, z⟩
       . refine .inl ⟨k, ?_⟩
         have : y ≠ x := fun e => hj (ye hN e1 (e ▸ hi))
         simp [this, e]
       . exact .inr ⟨k, c, e, z.sameBut hs (M3 y c e)⟩
   . obtain ⟨w', z⟩ := I.cell y c e
     exact ⟨w', z.sameBut hs (M3 y c e)⟩
   . obtain ⟨e, n, ne, nf, d⟩ := I.pin p hp
     exact ⟨(hs.2 p.1 ne).trans e, n, ne, nf, d⟩
 . have Vg : X.fn x = true := by
     rcases hf with z | z
     . exact z
     . rw [z] at hk; cases hk
   obtain ⟨c, hc⟩ := I.ok.has x (.inl hk)
   obtain ⟨w', z⟩ := I.cell x c hc
   refine wpAny_storeName_cell I.ok.kind hk hc z (fun h' Ed hs => ?_)
   obtain ⟨oc, Q0, Vh⟩ := id z
   refine h { s with heap := h' } ⟨I.ok, I.os, I.bare, ⟨fun b o e n hb hx => ?_, fun b o e n hb hx => ?_, I.base.free, fun b o e hx => ?_, I.base.uI, I.base.fV, I.base.uJ⟩, ⟨m, hn.sameBut hs (Ne.symm (M3 x c hc)), fun j y v' e1 e2 e3 => ?_⟩, fun y c' e => ?_, I.free, I.jy, fun p hp => ?_, tracked ⟨oc, Q0, I.jy x c hc⟩ hs, by simpa using I.len⟩ ⟨c, hs, .inr hc⟩
   . exact (hs.2 b (aaV (aaT (aaE e) (I.ok.Rr x c Vg hc)))).trans (I.base.keep b o e n hb hx)
   . obtain ⟨sl, e1⟩ := I.base.slot b o e n hb hx
     exact ⟨sl, (hs.2 b (aaV (aaT (aaE e) (I.ok.Rr x c Vg hc)))).trans e1⟩
   . obtain ⟨o', e1⟩ := I.base.there b o e hx
     exact ⟨o', (hs.2 b (aaV (aaT (aaE e) (I.ok.Rr x c Vg hc)))).trans e1⟩
   . by_cases hj : j = i
     . subst hj
       rw [hi] at e1; cases e1
       rw [List.getElem?_set_self Ru] at e2
       cases e2
       exact ⟨u, r, .inr ⟨.inl hk, c, hc, Ed⟩⟩
     . rw [List.getElem?_set_ne (Ne.symm hj)] at e2
       obtain ⟨u', r', q⟩ := hl j y v' e1 e2 e3
       refine ⟨u', r', ?_⟩
       rcases q with q | ⟨k, c', e, z'⟩
       . exact .inl q
       . refine .inr ⟨k, c', e, z'.sameBut hs ?_⟩
         rintro rfl
         exact hj (ye hN e1 (I.ok.inj _ _ _ e hc ▸ hi))
   . by_cases W8 : c' = c
     . subst W8; exact ⟨_, Ed⟩
     . obtain ⟨w2, z2⟩ := I.cell y c' e
       exact ⟨w2, z2.sameBut hs W8⟩
   . obtain ⟨e, n, ne, nf, d⟩ := I.pin p hp
     refine ⟨(hs.2 p.1 ?_).trans e, n, ne, nf, d⟩
     intro q
     rw [q, Q0] at e
     have q' : oc = p.2 := aaH e
     exact d w' (by rw [← q']; exact Vh)
theorem yg {M : Model} {A : Around} {E : Value -> Shared -> Prop} {i : Nat} {x : Str} {v : V} {u : Value} {Q : Unit -> Shared -> Prop} (I : Inv X pins σ H s) (hN : X.N.Nodup) (hi : X.N[i]? = some x) (hx : Loc X.env.scope x) (r : RelV v u)
   (h : ∀ s', Inv X pins (σ.set i (some v)) H s' -> Q () s') (hf : X.fn x = true \/ X.env.scope.names.lookup x = some .local := by first | exact .inl rfl | exact .inr rfl | assumption) : wpAny M A (storeName X.env x u) Q E s :=
 CF I hN hi hx r (fun s' I' _ => h s' I') hf
end
abbrev XK := Value -> Option Addr -> Hp -> Prop
abbrev St := List (Option V)
abbrev VK := V -> Hp -> Prop
abbrev TE := St -> Hp -> VK -> Prop
abbrev TT := St -> Hp -> (Bool -> Hp -> Prop) -> Prop
abbrev TA := St -> Hp -> (List V -> Hp -> Prop) -> Prop
structure Ends where
 nx : St -> Hp -> Prop
 rt : VK
 bk : St -> Hp -> Prop := fun _ _ => False
 ct : St -> Hp -> Prop := fun _ _ => False
abbrev TS := Ends -> St -> Hp -> Prop
def EP (X : Cx) (pins : List (Addr × Obj)) (σ : St) (Q : VK) (u : Value) (s' : Shared) : Prop := ∃ v H', Inv X pins σ H' s' /\ RelV v u /\ Q v H'
def TP (X : Cx) (pins : List (Addr × Obj)) (σ : St) (Q : Bool -> Hp -> Prop) (b : Bool) (s' : Shared) : Prop := ∃ H', Inv X pins σ H' s' /\ Q b H'
def AP (X : Cx) (pins : List (Addr × Obj)) (σ : St) (Q : List V -> Hp -> Prop) (us : List Value) (s' : Shared) : Prop := ∃ vs H', Inv X pins σ H' s' /\ Vals vs us /\ Q vs H'
def SP (X : Cx) (pins : List (Addr × Obj)) (D : Ends) (f : Flow) (s' : Shared) : Prop :=
 match f with
 | .next => ∃ σ' H', Inv X pins σ' H' s' /\ D.nx σ' H'
 | .brk => ∃ σ' H', Inv X pins σ' H' s' /\ D.bk σ' H'
 | .cont => ∃ σ' H', Inv X pins σ' H' s' /\ D.ct σ' H'
 | .ret u => ∃ v σ' H', Inv X pins σ' H' s' /\ RelV v u /\ D.rt v H'
def PE (X : Cx) (e : Expr) (t : TE) : Prop :=
 ∀ (pins : List (Addr × Obj)) (s : Shared) (σ : St) (H : Hp) (Q : VK), Inv X pins σ H s -> t σ H Q -> wpAny (model X.prog X.w) X.A (eval e X.env) (EP X pins σ Q) X.xe s
def PT (X : Cx) (e : Expr) (t : TT) : Prop :=
 ∀ (pins : List (Addr × Obj)) (s : Shared) (σ : St) (H : Hp) (Q : Bool -> Hp -> Prop), Inv X pins σ H s -> t σ H Q -> wpAny (model X.prog X.w) X.A (isTrue e X.env (eval e X.env)) (TP X pins σ Q) X.xe s
def PW (X : Cx) (e : Expr) (t : TT) : Prop :=
 ∀ (whole : Sem Value) (pins : List (Addr × Obj)) (s : Shared) (σ : St) (H : Hp) (Q : Bool -> Hp -> Prop), Inv X pins σ H s -> t σ H Q -> wpAny (model X.prog X.w) X.A (isTrue e X.env whole) (TP X pins σ Q) X.xe s
def PA (X : Cx) (es : List Expr) (t : TA) : Prop :=
 ∀ (pos : Pos) (pins : List (Addr × Obj)) (s : Shared) (σ : St) (H : Hp) (Q : List V -> Hp -> Prop), Inv X pins σ H s -> t σ H Q -> wpAny (model X.prog X.w) X.A (spliced (backTo pos (starEach es X.env))) (AP X pins σ Q) X.xe s
def PS (X : Cx) (st : Stmt) (t : TS) : Prop :=
 ∀ (pins : List (Addr × Obj)) (s : Shared) (σ : St) (H : Hp) (D : Ends), Inv X pins σ H s -> t D σ H -> wpAny (model X.prog X.w) X.A (exec st X.env) (SP X pins D) X.xe s
def z6 (X : Cx) (st : List Stmt) (t : TS) : Prop :=
 ∀ (pins : List (Addr × Obj)) (s : Shared) (σ : St) (H : Hp) (D : Ends), Inv X pins σ H s -> t D σ H -> wpAny (model X.prog X.w) X.A (execs st X.env) (SP X pins D) X.xe s
theorem c9 {α : Type} {t : Sem α} {Q Q' : α -> Shared -> Prop} {M : Model} {A : Around} {E : Value -> Shared -> Prop} {s : Shared} (h : wpAny M A t Q E s) (hQ : ∀ a s, Q a s -> Q' a s) : wpAny M A t Q' E s := abw h hQ fun _ _ x => x
section
variable {X : Cx}
theorem bin {a b : Expr} {ta tb : TE} (ha : PE X a ta) (hb : PE X b tb) {pins : List (Addr × Obj)} {s : Shared} {σ : St} {H : Hp} {R : V -> V -> Hp -> Prop} (I : Inv X pins σ H s) (h : ta σ H fun x H1 => tb σ H1 fun y H2 => R x y H2)
   {α : Type} {Q : α -> Shared -> Prop} {f : Value -> Value -> Sem α}
   (hf : ∀ v u s2 x y H2, Inv X pins σ H2 s2 -> RelV x v -> RelV y u -> R x y H2 -> wpAny (model X.prog X.w) X.A (f v u) Q X.xe s2) :
   wpAny (model X.prog X.w) X.A (eval a X.env) (fun v s₁ => wpAny (model X.prog X.w) X.A (eval b X.env) (fun u s₂ => wpAny (model X.prog X.w) X.A (f v u) Q X.xe s₂) X.xe s₁) X.xe s := by
 refine c9 (ha pins s σ H _ I h) fun v s1 ⟨x, H1, I1, r1, q1⟩ => ?_
 refine c9 (hb pins s1 σ H1 _ I1 q1) fun u s2 ⟨y, H2, I2, r2, q2⟩ => ?_
 exact hf v u s2 x y H2 I2 r1 r2 q2
def Vi (i : Nat) : TE := fun σ H Q => ∃ v, σ[i]? = some (some v) /\ Q v H
def tC (v : V) : TE := fun _ H Q => Q v H
theorem lQ {i : Nat} {x : Str} {pos : Pos} (hN : X.N[i]? = some x) (hv : MZ X.env.scope x) (hd : (x == ("__debug__" : Str)) = false := by decide) (gI : (x == ("__classdict__" : Str)) = false := by decide) : PE X (.Name x pos) (Vi i) := by
 intro pins s σ H Q I h
 obtain ⟨v, e, h⟩ := h
 obtain ⟨m, hn, hl⟩ := I.loc
 obtain ⟨u, r, l⟩ := hl i x v hN e hv
 have fin : EP X pins σ Q u s := ⟨v, H, I, r, h⟩
 rcases l with ⟨hk, hm⟩ | ⟨hk, c, hc, pB⟩
 . exact wpAny_Name (wpAny_loadName_local I.ok.kind hk hn hm fin) hd
 . rcases hk with hk | hk
   . exact wpAny_Name (wpAny_loadName_cell I.ok.kind hk hc pB fin) hd
   . exact wpAny_Name (wpAny_loadName_free I.ok.kind hk hc pB fin gI) hd
theorem M4 {i j pos} : PE X (.Constant (.int i) j pos) (tC (.int i)) := fun _ _ _ H _ I h => wpAny_Constant_int ⟨.int i, H, I.tok _, ⟨_, rfl⟩, h⟩
theorem Rw {b j pos} : PE X (.Constant (.bool b) j pos) (tC (.bl b)) := fun _ _ _ H _ I h => Constant_bool ⟨.bl b, H, I, rfl, h⟩
theorem M5 {x j pos} : PE X (.Constant (.str x) j pos) (tC (.str x)) := fun _ _ _ H _ I h => Calls.Constant_str ⟨.str x, H, I.tok _, ⟨_, rfl⟩, h⟩
def Gl (X : Cx) (x : Str) : Prop := X.env.kindOf x = some .globalImplicit
theorem qb {E : Value -> Shared -> Prop} {pins : List (Addr × Obj)} {s : Shared} {σ : St} {H : Hp} {x : Str} {u : Value} {pos : Pos} {Q : Value -> Shared -> Prop} (I : Inv X pins σ H s) (hg : Gl X x) (hm : X.mg x = some u) (h : Q u s)
   (hd : (x == ("__debug__" : Str)) = false := by decide) : wpAny (model X.prog X.w) X.A (eval (.Name x pos) X.env) Q E s :=
 Calls.Name_function_global I.ok.kind hg (Calls.loadGlobal_global (by rw [I.ok.glob]; exact I.mod.glob.keeps I.bk) hm h) hd
theorem lR {E : Value -> Shared -> Prop} {pins : List (Addr × Obj)} {s : Shared} {σ : St} {H : Hp} {x : Str} {u : Value} {pos : Pos} {Q : Value -> Shared -> Prop} (I : Inv X pins σ H s) (hg : Gl X x) (hm : X.mg x = none) (hv : bootBuiltins x = some u) (h : Q u s)
   (hn : x ≠ "__name__" := by decide) (hd : (x == ("__debug__" : Str)) = false := by decide) : wpAny (model X.prog X.w) X.A (eval (.Name x pos) X.env) Q E s := by
 obtain ⟨mb, h1, h2⟩ := I.mod.blt
 exact Calls.Name_function_global I.ok.kind hg (Calls.loadGlobal_builtin (by rw [I.ok.glob]; exact I.mod.glob.keeps I.bk) hm (by rw [I.ok.blt]; exact h1.keeps I.bk) ((h2 x hn).trans hv) h) hd
theorem HC {x : Str} {v : V} {u : Value} {pos : Pos} (hg : Gl X x) (hm : X.mg x = some u) (r : RelV v u) (hd : (x == ("__debug__" : Str)) = false := by decide) : PE X (.Name x pos) (tC v) :=
 fun _ _ _ H _ I h => qb I hg hm ⟨v, H, I, r, h⟩ hd
theorem HD {x : Str} {v : V} {u : Value} {pos : Pos} (hg : Gl X x) (hm : X.mg x = none) (hv : bootBuiltins x = some u) (r : RelV v u) (hn : x ≠ "__name__" := by decide) (hd : (x == ("__debug__" : Str)) = false := by decide) : PE X (.Name x pos) (tC v) :=
 fun _ _ _ H _ I h => lR I hg hm hv ⟨v, H, I, r, h⟩ hn hd
variable {a b : Expr} {ta tb : TE} {pos : Pos}
def PC (X : Cx) (op : CmpOp) (a b : Expr) (t : TE) : Prop :=
 ∀ (pins : List (Addr × Obj)) (s : Shared) (σ : St) (H : Hp) (Q : VK), Inv X pins σ H s -> t σ H Q →
   wpAny (model X.prog X.w) X.A (eval a X.env) (fun v s₁ => wpAny (model X.prog X.w) X.A (eval b X.env) (fun u s₂ => wpAny (model X.prog X.w) X.A (compareOp op v u) (EP X pins σ Q) X.xe s₂) X.xe s₁) X.xe s
theorem Ef (b : Expr) {op : CmpOp} (h : op ≠ .In) (h2 : op ≠ .NotIn) : behindInMarks op b = false := by
 have e1 : (op == CmpOp.In) = false := by cases op <;> first | rfl | exact absurd rfl h
 have e2 : (op == CmpOp.NotIn) = false := by cases op <;> first | rfl | exact absurd rfl h2
 cases b <;> simp [behindInMarks, e1, e2]
def tB (t : TE) : TT := fun σ H Q => t σ H fun x H1 => ∃ c, x = .bl c /\ Q c H1
theorem Vj {op : CmpOp} {t : TE} (h : PC X op a b t) (h1 : behindInMarks op b = false := by first | exact Ef _ (by decide) (by decide) | rfl) : PT X (.Compare a [op] [b] pos) (tB t) := by
 intro pins s σ H Q I hw
 refine wpAny_isTrue_Compare1 (c9 (h pins s σ H _ I hw) fun v s1 h1 => c9 h1 fun u s2 h2 => c9 h2 fun c s3 ⟨x, H1, I1, r1, q1⟩ => ?_) h1
 obtain ⟨d, rfl, q⟩ := q1
 cases r1
 exact abV ⟨H1, I1, q⟩
theorem M6 {e : Expr} {t : TE} (h : PE X e t) (he : ∀ whole, isTrue e X.env whole = (do let v ← whole; standAt e.pos; holding [v] (truthy v)) := by intro _; rfl) : PT X e (tB t) := by
 intro pins s σ H Q I hw
 refine isTrue_plain (c9 (h pins s σ H _ I hw) fun v s1 ⟨x, H1, I1, r1, q1⟩ => ?_) (he _)
 obtain ⟨d, rfl, q⟩ := q1
 cases r1
 exact abV ⟨H1, I1, q⟩
variable {tA UC : TT} {rest : List Expr}
def Vk (t u : TT) : TT := fun σ H Q => t σ H fun c H1 => if c = true then u σ H1 Q else Q false H1
def X8 (t u : TT) : TT := fun σ H Q => t σ H fun c H1 => if c = true then Q true H1 else u σ H1 Q
def Vl (t : TT) : TT := fun σ H Q => t σ H fun c H1 => Q (!c) H1
theorem HF (ha : PT X a tA) : PW X (.BoolOp .And [a] pos) tA := by
 intro wh pins s σ H Q I h
 refine isTrue_and (c9 (ha pins s σ H Q I h) fun c s1 e => ?_)
 cases c with
 | true => exact isTrue_and_nil e
 | false => exact e
theorem M7 (ha : PT X a tA) : PW X (.BoolOp .Or [a] pos) tA := by
 intro wh pins s σ H Q I h
 refine isTrue_or (c9 (ha pins s σ H Q I h) fun c s1 e => ?_)
 cases c with
 | false => exact isTrue_or_nil e
 | true => exact e
theorem M8 (ha : PT X a tA) (hb : PW X (.BoolOp .And (b :: rest) pos) UC) : PW X (.BoolOp .And (a :: b :: rest) pos) (Vk tA UC) := by
 intro wh pins s σ H Q I h
 refine isTrue_and (c9 (ha pins s σ H _ I h) fun c s1 ⟨H1, I1, q1⟩ => ?_)
 cases c with
 | true => exact hb wh pins s1 σ H1 Q I1 q1
 | false => exact ⟨H1, I1, q1⟩
theorem Rx (ha : PT X a tA) (hb : PW X (.BoolOp .Or (b :: rest) pos) UC) : PW X (.BoolOp .Or (a :: b :: rest) pos) (X8 tA UC) := by
 intro wh pins s σ H Q I h
 refine isTrue_or (c9 (ha pins s σ H _ I h) fun c s1 ⟨H1, I1, q1⟩ => ?_)
 cases c with
 | true => exact ⟨H1, I1, q1⟩
 | false => exact hb wh pins s1 σ H1 Q I1 q1
theorem M9 (ha : PT X a tA) : PT X (.UnaryOp .Not a pos) (Vl tA) := by
 intro pins s σ H Q I h
 exact isTrue_not (ha pins s σ H (fun c H1 => Q (!c) H1) I h)
def Ry (ta tb : TE) : TE := fun σ H Q => ta σ H fun x H1 => ∃ c, x = .bl c /\ if c = true then tb σ H1 Q else Q (.bl false) H1
def Rz (ta : TE) : TE := fun σ H Q => ta σ H fun x H1 => ∃ c, x = .bl c /\ Q (.bl (!c)) H1
theorem Nb {op} {t : TE} (h : PE X a t) : PE X (.BoolOp op [a] pos) t := fun pins s σ H Q I hw => BoolOp_one (h pins s σ H Q I hw)
theorem Nf (ha : PE X a ta) (hb : PE X (.BoolOp .And (b :: rest) pos) tb) : PE X (.BoolOp .And (a :: b :: rest) pos) (Ry ta tb) := by
 intro pins s σ H Q I h
 refine BoolOp_and (c9 (ha pins s σ H _ I h) fun v s1 ⟨x, H1, I1, r1, q1⟩ => ?_)
 obtain ⟨c, rfl, q1⟩ := q1
 cases r1
 refine abV ?_
 cases c with
 | true => exact hb pins s1 σ H1 Q I1 q1
 | false => exact ⟨.bl false, H1, I1, rfl, q1⟩
theorem Ng (ha : PE X a ta) : PE X (.UnaryOp .Not a pos) (Rz ta) := by
 intro pins s σ H Q I h
 refine UnaryOp_ (c9 (ha pins s σ H _ I h) fun v s1 ⟨x, H1, I1, r1, q1⟩ => ?_)
 obtain ⟨c, rfl, q1⟩ := q1
 cases r1
 exact not_of (abV ⟨.bl (!c), H1, I1, rfl, q1⟩)
end
def j5 (K : PySem.W.Frag) (H : Hp) (a : Addr) (xs : List V) : Prop :=
 Rd H a (.lst xs) ∨
   ∃ (o : Obj) (its : Array Value) (n : Nat), K.lookup a = some o /\ o.cls = .type "list" /\ o.dict = none /\ o.data = .seq its n /\ its.size <= sizeLine /\ Vals xs its.toList
def qJ (K : PySem.W.Frag) (H : Hp) (a : Addr) (xs : List V) : Prop :=
 Rd H a (.tup xs) ∨
   ∃ (o : Obj) (its : Array Value) (n : Nat), K.lookup a = some o /\ o.cls = .type "tuple" /\ o.data = .seq its n /\ its.size <= sizeLine /\ Vals xs its.toList
def Vm : Value -> Option V
 | .none => some .non
 | .bool b => some (.bl b)
 | .int i _ => some (.int i)
 | .str x _ => some (.str x)
 | .bytes b _ => some (.D0 b)
 | .float b _ => some (.Uv b)
 | .ref a => some (.ref a)
 | .type n => some (.ty n)
 | _ => none
theorem RelV.abs {x : V} {u : Value} (r : RelV x u) : Vm u = some x := by
 cases x with
 | non => cases r; rfl
 | bl _ => cases r; rfl
 | int _ => obtain ⟨t, rfl⟩ := r; rfl
 | str _ => obtain ⟨t, rfl⟩ := r; rfl
 | D0 _ => obtain ⟨t, rfl⟩ := r; rfl
 | Uv _ => obtain ⟨t, rfl⟩ := r; rfl
 | ref _ => cases r; rfl
 | ty _ => cases r; rfl
theorem RelV.inj {x y : V} {u : Value} (r : RelV x u) (q : RelV y u) : x = y := aaH (r.abs.symm.trans q.abs)
theorem Vals.inj : ∀ {xs ys : List V} {us : List Value}, Vals xs us -> Vals ys us -> xs = ys
 | _, _, _, .nil, .nil => rfl
 | _, _, _, .cons r t, .cons r' t' => by rw [r.inj r', Vals.inj t t']
section
variable {X : Cx} {pins : List (Addr × Obj)} {σ : St} {H : Hp} {s : Shared} {a : Addr} {xs ys : List V}
theorem j5.of {K : PySem.W.Frag} (h : H a = some (.lst xs)) : j5 K H a xs := .inl (.inl h)
theorem qJ.of {K : PySem.W.Frag} (h : H a = some (.tup xs)) : qJ K H a xs := .inl (.inl h)
theorem Inv.list (I : Inv X pins σ H s) (h : j5 X.K H a xs) : ∃ its : List Value, Vals xs its /\ PlainL s.heap a its.toArray /\ xs.length <= sizeLine := by
 rcases h with h | ⟨o, its, n, hk, hc, hd, hs, hz, r⟩
 . obtain ⟨z, its, n, r, e⟩ := h.ok I.cU
   exact ⟨its, r, ⟨_, n, e, rfl, rfl, rfl⟩, z⟩
 . refine ⟨its.toList, r, ⟨o, n, I.yd a o hk, hc, hd, by simpa using hs⟩, ?_⟩
   have e := r.length
   simp only [abD] at e
   omega
theorem Inv.tuple (I : Inv X pins σ H s) (h : qJ X.K H a xs) : ∃ its : List Value, Vals xs its /\ IsTup s.heap a its.toArray /\ xs.length <= sizeLine := by
 rcases h with h | ⟨o, its, n, hk, hc, hs, hz, r⟩
 . obtain ⟨z, its, r, p⟩ := h.ok I.cU
   exact ⟨its, r, p, z⟩
 . refine ⟨its.toList, r, ⟨o, I.yd a o hk, hc, n, by simpa using hs⟩, ?_⟩
   have e := r.length
   simp only [abD] at e
   omega
theorem Inv.yh (I : Inv X pins σ H s) (h : j5 X.K H a xs) (h' : j5 X.K H a ys) : xs = ys := by
 obtain ⟨its, r, ⟨o, n, e, _, _, d⟩, _⟩ := I.list h
 obtain ⟨its', r', ⟨o', n', e', _, _, d'⟩, _⟩ := I.list h'
 rw [e] at e'; cases e'
 rw [d] at d'
 injection d' with d1 _
 have : its = its' := by simpa using congrArg Array.toList d1
 subst this
 exact r.inj r'
theorem Inv.CG (I : Inv X pins σ H s) (h : qJ X.K H a xs) (h' : qJ X.K H a ys) : xs = ys := by
 obtain ⟨its, r, ⟨o, e, _, n, d⟩, _⟩ := I.tuple h
 obtain ⟨its', r', ⟨o', e', _, n', d'⟩, _⟩ := I.tuple h'
 rw [e] at e'; cases e'
 rw [d] at d'
 injection d' with d1 _
 have : its = its' := by simpa using congrArg Array.toList d1
 subst this
 exact r.inj r'
end
abbrev Cx.wish (X : Cx) (E : Value -> Shared -> Prop) : Cx := { X with xe := E }
abbrev Cx.Hs (X : Cx) : Cx := X.wish fun _ _ => False
theorem Cx.Ok.wish {X : Cx} (ok : X.Ok) (E : Value -> Shared -> Prop) : (X.wish E).Ok :=
 ⟨ok.mod, ok.kind, ok.glob, ok.blt, ok.above, ok.inj, ok.has, ok.Rr, ok.hd, ok.frames, ok.Uz, ok.W5, ok.bs, ok.Hr, ok.Ec, ok.Hy, ok.pT, ok.M0⟩
theorem Cx.Ok.jz {X : Cx} {E : Value -> Shared -> Prop} (ok : (X.wish E).Ok) : X.Ok :=
 ⟨ok.mod, ok.kind, ok.glob, ok.blt, ok.above, ok.inj, ok.has, ok.Rr, ok.hd, ok.frames, ok.Uz, ok.W5, ok.bs, ok.Hr, ok.Ec, ok.Hy, ok.pT, ok.M0⟩
section
variable {X : Cx} {pins : List (Addr × Obj)} {σ : St} {H : Hp} {s : Shared} {E : Value -> Shared -> Prop}
theorem Inv.wish (I : Inv X pins σ H s) (E : Value -> Shared -> Prop) : Inv (X.wish E) pins σ H s := ⟨I.ok.wish E, I.os, I.bare, I.base, I.loc, I.cell, I.free, I.jy, I.pin, I.cU, I.len⟩
theorem Inv.jz (I : Inv (X.wish E) pins σ H s) : Inv X pins σ H s := ⟨I.ok.jz, I.os, I.bare, I.base, I.loc, I.cell, I.free, I.jy, I.pin, I.cU, I.len⟩
theorem SP.jz {D : Ends} {f : Flow} {s' : Shared} (h : SP (X.wish E) pins D f s') : SP X pins D f s' := by
 cases f with
 | next => obtain ⟨σ', H', I, q⟩ := h; exact ⟨σ', H', I.jz, q⟩
 | brk => obtain ⟨σ', H', I, q⟩ := h; exact ⟨σ', H', I.jz, q⟩
 | cont => obtain ⟨σ', H', I, q⟩ := h; exact ⟨σ', H', I.jz, q⟩
 | ret u => obtain ⟨v, σ', H', I, r, q⟩ := h; exact ⟨v, σ', H', I.jz, r, q⟩
theorem z6.Hs {st : List Stmt} {t : TS} (h : z6 X.Hs st t) : z6 X st t := fun pins s σ H D I hw =>
 abw (h pins s σ H D (I.wish _) hw) (fun _ _ q => q.jz) fun _ _ z => False.elim z
end
section
variable {X : Cx} {st : Stmt} {rest : List Stmt} {t u : TS} {e : Expr} {te : TE} {pos : Pos}
def RA : TS := fun D σ H => D.nx σ H
def Vo (t u : TS) : TS := fun D σ H => t { D with nx := u D } σ H
theorem HG : z6 X [] RA := fun _ _ σ H _ I h => wpAny_execs_nil ⟨σ, H, I, h⟩
theorem Eg (h1 : PS X st t) (h2 : z6 X rest u) : z6 X (st :: rest) (Vo t u) := by
 intro pins s σ H D I h
 refine wpAny_execs_cons (c9 (h1 pins s σ H { D with nx := u D } I h) fun f s1 q => ?_)
 cases f with
 | next =>
   obtain ⟨σ', H', I', q⟩ := q
   exact h2 pins s1 σ' H' D I' q
 | ret v => exact q
 | brk => exact q
 | cont => exact q
theorem Inv.quiet {pins : List (Addr × Obj)} {σ : St} {H : Hp} {s : Shared} (I : Inv X pins σ H s) : interactive X.env = false := by simp [interactive, I.ok.kind]
def RB (te : TE) : TS := fun D σ H => te σ H fun _ H1 => D.nx σ H1
theorem HJ (he : PE X e te) (hs : swapsWith e none pos.line X.env = pure false := by rfl) : PS X (.Expr e pos) (RB te) := by
 intro pins s σ H D I h
 exact wpAny_Expr_any (c9 (he pins s σ H _ I h) fun v s1 ⟨x, H1, I1, r1, q1⟩ => ⟨σ, H1, I1, q1⟩) I.quiet hs
def Vp (te : TE) : TS := fun D σ H => te σ H D.rt
theorem Nh (he : PE X e te) : PS X (.Return (some e) pos) (Vp te) := by
 intro pins s σ H D I h
 exact wpAny_Return_some (c9 (he pins s σ H _ I h) fun v s1 ⟨x, H1, I1, r1, q1⟩ => ⟨x, σ, H1, I1, r1, q1⟩)
def Vq (c : TT) (t u : TS) : TS := fun D σ H => c σ H fun b H1 => if b = true then t D σ H1 else u D σ H1
theorem RC {c : Expr} {a b : List Stmt} {tc : TT} (hc : PT X c tc) (ha : z6 X a t) (hb : z6 X b u) : PS X (.If c a b pos) (Vq tc t u) := by
 intro pins s σ H D I h
 refine wpAny_If (c9 (hc pins s σ H _ I h) fun d s1 ⟨H1, I1, q1⟩ => ?_)
 cases d with
 | true => exact ha pins s1 σ H1 D I1 q1
 | false => exact hb pins s1 σ H1 D I1 q1
end
abbrev TG := V -> St -> Hp -> (St -> Hp -> Prop) -> Prop
abbrev Ni := List V -> St -> Hp -> (St -> Hp -> Prop) -> Prop
def PG (X : Cx) (target : Expr) (t : TG) : Prop :=
 ∀ (pins : List (Addr × Obj)) (s : Shared) (σ : St) (H : Hp) (v : V) (u : Value) (Q : St -> Hp -> Prop), Inv X pins σ H s -> RelV v u -> t v σ H Q →
   wpAny (model X.prog X.w) X.A (assign target X.env u) (fun _ s' => ∃ σ' H', Inv X pins σ' H' s' /\ Q σ' H') X.xe s
def UD (X : Cx) (ts : List Expr) (t : Ni) : Prop :=
 ∀ (pins : List (Addr × Obj)) (s : Shared) (σ : St) (H : Hp) (vs : List V) (us : List Value) (Q : St -> Hp -> Prop), Inv X pins σ H s -> Vals vs us -> t vs σ H Q →
   wpAny (model X.prog X.w) X.A (assignInOrder ((assignEach ts X.env).map (·.2)) us) (fun _ s' => ∃ σ' H', Inv X pins σ' H' s' /\ Q σ' H') X.xe s
abbrev Nj := V -> V -> V -> Hp -> (Hp -> Prop) -> Prop
def RD (X : Cx) (t : Nj) : Prop :=
 ∀ (pins : List (Addr × Obj)) (s : Shared) (σ : St) (H : Hp) (o i v : V) (ov iv u : Value) (Q : Hp -> Prop), Inv X pins σ H s -> RelV o ov -> RelV i iv -> RelV v u -> t o i v H Q →
   wpAny (model X.prog X.w) X.A (setItem ov iv u) (fun _ s' => ∃ H', Inv X pins σ H' s' /\ Q H') X.xe s
section
variable {X : Cx} {pos : Pos}
def pC (i : Nat) : TG := fun v σ H Q => Q (σ.set i (some v)) H
theorem mC {i : Nat} {x : Str} (hN : X.N.Nodup) (hi : X.N[i]? = some x) (hx : Loc X.env.scope x) (hf : X.fn x = true \/ X.env.scope.names.lookup x = some .local := by first | exact .inl rfl | exact .inr rfl | assumption) : PG X (.Name x pos) (pC i) := by
 intro pins s σ H v u Q I r h
 exact wpAny_assign_Name (yg I hN hi hx r (fun s' I' => ⟨_, H, I', h⟩) hf)
def Nk : Ni := fun vs σ H Q => vs = [] /\ Q σ H
def yi (t : TG) (u : Ni) : Ni := fun vs σ H Q => ∃ v r, vs = v :: r /\ t v σ H fun σ' H' => u r σ' H' Q
theorem HK : UD X [] Nk := by
 intro pins s σ H vs us Q I r h
 obtain ⟨e, h⟩ := h
 subst e
 cases r
 exact assignInOrder_nil ⟨σ, H, I, h⟩
theorem yj {e : Expr} {es : List Expr} {t : TG} {u : Ni} (h1 : PG X e t) (h2 : UD X es u)
   (hs : (assignEach (e :: es) X.env).map (·.2) = assign e X.env :: (assignEach es X.env).map (·.2) := by rfl) : UD X (e :: es) (yi t u) := by
 intro pins s σ H vs us Q I r h
 obtain ⟨v, vr, e1, h⟩ := h
 subst e1
 cases r with
 | cons r rr =>
   rw [hs]
   refine assignInOrder_cons (c9 (h1 pins s σ H _ _ _ I r h) fun _ s1 ⟨σ1, H1, I1, q1⟩ => ?_)
   exact h2 pins s1 σ1 H1 _ _ Q I1 rr q1
def Nm (K : PySem.W.Frag) (n : Nat) (t : Ni) : TG := fun v σ H Q => ∃ a xs, v = .ref a /\ qJ K H a xs /\ xs.length = n /\ t xs σ H Q
theorem Nn {es : List Expr} {k : Nat} {t : Ni} {n : Nat} (hc : X.calm = true) (h : UD X es t)
   (hn : (assignEach es X.env).length = n := by rfl) (Eh : (assignEach es X.env).findIdx? (·.1) = none := by rfl) : PG X (.Tuple es k pos) (Nm X.K n t) := by
 intro pins s σ H v u Q I r hw
 obtain ⟨a, xs, e1, hq, hl, hw⟩ := hw
 subst e1
 cases r
 obtain ⟨its, rv, ht, hz⟩ := I.tuple hq
 refine assign_Tuple_tuple (I.ok.hd hc) ht (by simp [hn, ← hl, rv.length]) Eh fun h' hx => ?_
 have I1 : Inv X pins σ H { s with heap := h' } := I.kept (t' := s.toks) fun b o e => hx b o (aaV (aaE e)) e
 exact h pins _ σ H xs _ Q I1 (by simpa using rv) hw
def Vr (to ti : TE) (t : Nj) : TG := fun v σ H Q => to σ H fun o H1 => ti σ H1 fun i H2 => t o i v H2 fun H3 => Q σ H3
theorem Np {o i : Expr} {to ti : TE} {t : Nj} (ho : PE X o to) (hi : PE X i ti) (hs : RD X t)
   (ha : ∀ v, assign (.Subscript o i pos) X.env v = (do
     let ov ← holding [v] (eval o X.env)
     let iv ← holding [v, ov] (eval i X.env)
     standAt pos
     holding [v, ov, iv] (setItem ov iv v)
     release [v, ov, iv] []) := by intro _; rfl) : PG X (.Subscript o i pos) (Vr to ti t) := by
 intro pins s σ H v u Q I r h
 rw [ha]
 refine aaC (acg (c9 (ho pins s σ H _ I h) fun ov s1 ⟨x, H1, I1, r1, q1⟩ => ?_))
 refine aaC (acg (c9 (hi pins s1 σ H1 _ I1 q1) fun iv s2 ⟨y, H2, I2, r2, q2⟩ => ?_))
 refine aaC (wpAny_standAt (aaC (acg (c9 (hs pins s2 σ H2 x y v ov iv u _ I2 r1 r2 r q2) fun _ s3 ⟨H3, I3, q3⟩ => ?_))))
 exact wpAny_release ⟨σ, H3, I3, q3⟩
def RG (te : TE) (g : TG) : TS := fun D σ H => te σ H fun x H1 => g x σ H1 D.nx
theorem Nq {tg e : Expr} {te : TE} {g : TG} (he : PE X e te) (hg : PG X tg g) (hs : swapsWithSole [tg] e pos.line X.env = pure false := by rfl) (hw : swappedStores [tg] e X.env = pure none := by rfl)
   (h1 : (assignEach [tg] X.env).map (·.2) = [assign tg X.env] := by rfl) : PS X (.Assign [tg] e pos) (RG te g) := by
 intro pins s σ H D I h
 refine wpAny_Assign_stores (c9 (he pins s σ H _ I h) fun v s1 ⟨x, H1, I1, r1, q1⟩ => ?_) hs hw
 rw [h1]
 exact c9 (hg pins s1 σ H1 x v _ I1 r1 q1) fun _ s2 q => q
theorem Nr {i : Nat} {x : Str} {e : Expr} {te : TE} {pos' : Pos} (hN : X.N.Nodup) (hi : X.N[i]? = some x) (hx : Loc X.env.scope x) (he : PE X e te) (hs : swapsWith e (some (.Name x pos')) pos.line X.env = pure false := by rfl) (hf : X.fn x = true \/ X.env.scope.names.lookup x = some .local := by first | exact .inl rfl | exact .inr rfl | assumption) :
   PS X (.Assign [.Name x pos'] e pos) (RG te (pC i)) := by
 intro pins s σ H D I h
 refine wpAny_Assign_Name (c9 (he pins s σ H _ I h) fun v s1 ⟨y, H1, I1, r1, q1⟩ => ?_) hs
 exact yg I1 hN hi hx r1 (fun s2 I2 => ⟨_, H1, I2, q1⟩) hf
end
section
variable {X : Cx} {pos : Pos}
def Nt (c : TT) (tb : TS) : TS := fun D σ H => ∃ W : Nat -> St -> Hp -> Prop, (∃ m, W m σ H) /\ ∀ m σ H, W m σ H →
 c σ H fun b H1 => if b = true then ∃ N : St -> Hp -> Prop, (∀ σ' H', N σ' H' -> ∃ m', m' < m /\ W m' σ' H') /\ tb { D with nx := N, ct := N, bk := D.nx } σ H1 else D.nx σ H1
theorem Ei {c : Expr} {body : List Stmt} {tc : TT} {tb : TS} (hp : PassesOwn (model X.prog X.w) X.A X.env X.xe) (hc : PT X c tc) (hb : z6 X body tb) : PS X (.While c body [] pos) (Nt tc tb) := by
 intro pins s σ H D I h
 obtain ⟨W, ⟨m0, w0⟩, turn⟩ := h
 refine wpAny_While (codeAny_whileLoop (fun n s' => ∃ σ' H', Inv X pins σ' H' s' /\ W n σ' H') ?_ m0 ⟨σ, H, I, w0⟩)
 rintro n s1 ⟨σ1, H1, I1, w1⟩
 refine abK hp (c9 (hc pins s1 σ1 H1 _ I1 (turn n σ1 H1 w1)) fun b s2 ⟨H2, I2, q2⟩ => ?_)
 cases b with
 | true =>
   obtain ⟨N, hN, q2⟩ := q2
   rw [aar rfl]
   refine abK hp (c9 (hb pins s2 σ1 H2 _ I2 q2) fun f s3 q3 => ?_)
   cases f with
   | next =>
     obtain ⟨σ3, H3, I3, n3⟩ := q3
     obtain ⟨m', hm, w3⟩ := hN σ3 H3 n3
     exact ⟨m', hm, σ3, H3, I3, w3⟩
   | cont =>
     obtain ⟨σ3, H3, I3, n3⟩ := q3
     obtain ⟨m', hm, w3⟩ := hN σ3 H3 n3
     exact ⟨m', hm, σ3, H3, I3, w3⟩
   | brk => exact q3
   | ret v => exact q3
 | false =>
   rw [aap aaB]
   exact wpAny_execs_nil ⟨σ1, H2, I2, q2⟩
end
structure It where
 go : Nat -> Hp -> Prop
 Mh : Nat -> Hp -> V -> Hp -> Prop
 stop : Nat -> Hp -> Prop
def fW (X : Cx) (pins : List (Addr × Obj)) (H : Hp) (b : Addr) : Prop :=
 H b = none /\ b ≠ X.env.locals /\ b ∉ X.fs /\ (b ∈ X.ex \/ X.s₀.heap.objs.size <= b) /\ (∀ x c, X.env.cells.lookup x = some c -> c ≠ b) /\ ∀ p ∈ X.pn ++ pins, p.1 ≠ b
theorem Inv.uM {X : Cx} {pins : List (Addr × Obj)} {σ : St} {H H' : Hp} {s : Shared} {b : Addr} (I : Inv X pins σ H s) (hb : s.heap.objs.size <= b) (hn : H' b = none) : fW X pins H' b := by
 refine ⟨hn, Nat.ne_of_gt (aaT I.lt hb), I.Vc hb, .inr (abb I.sz hb), fun x c e z => ?_, fun p hp z => ?_⟩
 . obtain ⟨v, q⟩ := I.cell x c e
   exact absurd (aaT q.lt (by rw [z]; exact hb)) (ab4 _)
 . exact absurd (aaT (aaE (I.pin p hp).1) (by rw [z]; exact hb)) (ab4 _)
structure Turn (P : Program) (w : World) (K : PySem.W.Frag) (tg : Expr) (J : It) (fp : List Addr) (it : Addr) (tn : Nat -> Heap -> Prop) : Prop where
 mem : it ∈ fp
 obj : ∀ i h, tn i h -> ∀ b ∈ fp, ∃ o, h.get? b = some o /\ ∀ v, o.data ≠ .cell v
 keep : ∀ i h h', tn i h -> (∀ b ∈ fp, ∀ o, h.get? b = some o -> h'.get? b = some o) -> tn i h'
 item : ∀ (X : Cx), X.prog = P -> X.w = w -> X.K = K -> X.calm = true -> ∀ (i : Nat) (pins : List (Addr × Obj)) (s : Shared) (σ : St) (H : Hp) (E : Value -> Shared -> Prop), Inv X pins σ H s -> (∀ b ∈ fp, fW X pins H b) -> tn i s.heap -> J.go i H →
   wpAny (model P w) X.A (pyNext (.ref it)) (fun r s1 => ∃ u, r = some u ∧
     wpAny (model P w) X.A (letOwnedTupleGo tg (.ref it) u) (fun _ s2 => ∃ x H', Inv X pins σ H' s2 /\ RelV x u /\ J.Mh i H x H' /\ tn (i + 1) s2.heap /\ ∀ b ∈ fp, H' b = none) E s1) E s
 done : ∀ (X : Cx), X.prog = P -> X.w = w -> X.K = K -> X.calm = true -> ∀ (i : Nat) (pins : List (Addr × Obj)) (s : Shared) (σ : St) (H : Hp) (E : Value -> Shared -> Prop), Inv X pins σ H s -> (∀ b ∈ fp, fW X pins H b) -> tn i s.heap -> J.stop i H →
   wpAny (model P w) X.A (pyNext (.ref it)) (fun r s1 => r = none /\ Inv X pins σ H s1) E s
 self : ∀ (A : Around) (i : Nat) (s : Shared) (Q : Value -> Shared -> Prop) (E : Value -> Shared -> Prop), tn i s.heap -> Q (.ref it) s -> wpAny (model P w) A (pyIter (.ref it)) Q E s
abbrev TI := St -> Hp -> (It -> Hp -> Prop) -> Prop
def W9 (X : Cx) (pins : List (Addr × Obj)) (σ : St) (tg : Expr) (R : It -> Hp -> Prop) (UE : Value) (s2 : Shared) : Prop :=
 ∃ (it : Addr) (fp : List Addr) (tn : Nat -> Heap -> Prop) (J : It) (H' : Hp), UE = .ref it /\ Inv X pins σ H' s2 /\ Turn X.prog X.w X.K tg J fp it tn /\ tn 0 s2.heap /\ (∀ b ∈ fp, fW X pins H' b) /\ R J H'
def PI (X : Cx) (tg iter : Expr) (wi : TI) : Prop :=
 ∀ (pins : List (Addr × Obj)) (s : Shared) (σ : St) (H : Hp) (R : It -> Hp -> Prop), Inv X pins σ H s -> wi σ H R →
   wpAny (model X.prog X.w) X.A (eval iter X.env) (fun v s1 => wpAny (model X.prog X.w) X.A (pyIter v) (W9 X pins σ tg R) X.xe s1) X.xe s
theorem Ej {M : Model} {A : Around} {E : Value -> Shared -> Prop} {s : Shared} {tg : Expr} {it : Addr} {u : Value} {o : Obj} {n : String} {vs : Array Value} {Q : Unit -> Shared -> Prop} (ho : s.heap.get? it = some o) (hc : o.cls = .type n) (hd : o.data = .fields vs)
   (hn : ["enumerate", "zip", "dict_itemiterator", "dict_reverseitemiterator", "odict_iterator", "itertools.zip_longest", "itertools.pairwise"].contains n = false) (hQ : Q () s) : wpAny M A (letOwnedTupleGo tg (.ref it) u) Q E s := by
 unfold letOwnedTupleGo
 cases tg <;> first
   | exact aa4 hQ
   | (cases u <;> first
       | exact aa4 hQ
       | (refine aaC (wpAny_load ho ?_)
          rw [hc, hd]
          show wpAny M A (if (["enumerate", "zip", "dict_itemiterator", "dict_reverseitemiterator", "odict_iterator", "itertools.zip_longest", "itertools.pairwise"].contains n && vs[0]? == some (rawInt _)) = true then _ else _) Q E s
          rw [aap (by intro h; rw [hn, Bool.false_and] at h; cases h)]
          exact aa4 hQ))
def Xa (K : PySem.W.Frag) (a : Addr) : It :=
 ⟨fun i H => ∃ xs x, j5 K H a xs /\ xs[i]? = some x, fun i H x H' => H' = H /\ ∀ xs, j5 K H a xs -> xs[i]? = some x, fun i H => ∃ xs, j5 K H a xs /\ xs.length <= i⟩
def Xb (K : PySem.W.Frag) (a : Addr) : It :=
 ⟨fun i H => ∃ xs x, qJ K H a xs /\ xs[i]? = some x, fun i H x H' => H' = H /\ ∀ xs, qJ K H a xs -> xs[i]? = some x, fun i H => ∃ xs, qJ K H a xs /\ xs.length <= i⟩
def UG (lo : Int) (n : Nat) : It := ⟨fun i _ => i < n, fun i H x H' => H' = H /\ x = .int (lo + i), fun i _ => n <= i⟩
theorem CH {P : Program} {w : World} {K : PySem.W.Frag} {tg : Expr} (a it : Addr) : Turn P w K tg (Xa K a) [it] it (fun i h => h.IsListIter it a i) where
 mem := by simp
 obj := fun i h st b hb => by
   have e : b = it := by simpa using hb
   subst e
   obtain ⟨o, e, c, d⟩ := st
   exact ⟨o, e, fun v z => by rw [d] at z; cases z⟩
 keep := fun i h h' st k => st.at fun o e => k it (by simp) o e
 item := by
   intro X hP hw hK hc i pins s σ H E I hf st hg
   subst hP hw hK
   obtain ⟨xs, x, hq, hx⟩ := hg
   obtain ⟨its, rv, p, hz⟩ := I.list hq
   obtain ⟨u, hu, ru⟩ := rv.get hx
   obtain ⟨f0, f1, f2, f3, f4, f5⟩ := hf it (by simp)
   refine wpAny_pyNext_list_item st p.isList (x := u) (by simpa using hu) fun h' z7 sb => ?_
   have I1 : Inv X pins σ H { s with heap := h' } := I.turned (t' := s.toks) (fun b o hb e => (sb.2 b hb).trans e) f0 f1 f3 f4 f5
   obtain ⟨o, e, c, d⟩ := id z7
   exact ⟨u, rfl, Ej (s := { s with heap := h' }) e c d (by decide) ⟨x, H, I1, ru, ⟨rfl, fun ys hy => by rw [I.yh hy hq]; exact hx⟩, z7, fun b hb => (hf b hb).1⟩⟩
 done := by
   intro X hP hw hK hc i pins s σ H E I hf st hg
   subst hP hw hK
   obtain ⟨xs, hq, hx⟩ := hg
   obtain ⟨its, rv, p, hz⟩ := I.list hq
   obtain ⟨f0, f1, f2, f3, f4, f5⟩ := hf it (by simp)
   have hl := rv.length
   exact wpAny_pyNext_list_end (I.ok.hd hc) st p.isList (by simp; omega) fun h' eb => ⟨rfl, I.turned (t' := s.toks) (fun b o hb e => eb b o hb e) f0 f1 f3 f4 f5⟩
 self := fun _ _ _ _ _ st h => wpAny_pyIter_listiter st h
theorem z8 {P : Program} {w : World} {K : PySem.W.Frag} {tg : Expr} (a it : Addr) : Turn P w K tg (Xb K a) [it] it (fun i h => h.IsTupleIter it a i) where
 mem := by simp
 obj := fun i h st b hb => by
   have e : b = it := by simpa using hb
   subst e
   obtain ⟨o, e, c, d⟩ := st
   exact ⟨o, e, fun v z => by rw [d] at z; cases z⟩
 keep := fun i h h' st k => st.at fun o e => k it (by simp) o e
 item := by
   intro X hP hw hK hc i pins s σ H E I hf st hg
   subst hP hw hK
   obtain ⟨xs, x, hq, hx⟩ := hg
   obtain ⟨its, rv, p, hz⟩ := I.tuple hq
   obtain ⟨u, hu, ru⟩ := rv.get hx
   obtain ⟨f0, f1, f2, f3, f4, f5⟩ := hf it (by simp)
   refine wpAny_pyNext_tuple_item st (show s.heap.IsTuple a its.toArray from p) (x := u) (by simpa using hu) fun h' z7 sb => ?_
   have I1 : Inv X pins σ H { s with heap := h' } := I.turned (t' := s.toks) (fun b o hb e => (sb.2 b hb).trans e) f0 f1 f3 f4 f5
   obtain ⟨o, e, c, d⟩ := id z7
   exact ⟨u, rfl, Ej (s := { s with heap := h' }) e c d (by decide) ⟨x, H, I1, ru, ⟨rfl, fun ys hy => by rw [I.CG hy hq]; exact hx⟩, z7, fun b hb => (hf b hb).1⟩⟩
 done := by
   intro X hP hw hK hc i pins s σ H E I hf st hg
   subst hP hw hK
   obtain ⟨xs, hq, hx⟩ := hg
   obtain ⟨its, rv, p, hz⟩ := I.tuple hq
   obtain ⟨f0, f1, f2, f3, f4, f5⟩ := hf it (by simp)
   have hl := rv.length
   exact wpAny_pyNext_tuple_end (I.ok.hd hc) st (show s.heap.IsTuple a its.toArray from p) (by simp; omega) fun h' eb => ⟨rfl, I.turned (t' := s.toks) (fun b o hb e => eb b o hb e) f0 f1 f3 f4 f5⟩
 self := fun _ _ _ _ _ st h => wpAny_pyIter_tupleiter st h
theorem z9 {P : Program} {w : World} {K : PySem.W.Frag} {tg : Expr} (it : Addr) (lo : Int) (n : Nat) : Turn P w K tg (UG lo n) [it] it (fun i h => IsRangeIter h it (lo + (i : Nat) * 1) ((n : Int) - (i : Nat)) 1) where
 mem := by simp
 obj := fun i h st b hb => by
   have e : b = it := by simpa using hb
   subst e
   exact ⟨_, st, fun v z => by
     have z' : Data.fields _ = Data.cell v := z
     cases z'⟩
 keep := fun i h h' st k => k it (by simp) _ st
 item := by
   intro X hP hw hK hc i pins s σ H E I hf st hg
   subst hP hw hK
   obtain ⟨f0, f1, f2, f3, f4, f5⟩ := hf it (by simp)
   have W := Walks.range (prog := X.prog) (w := X.w) (I.ok.hd hc) it lo 1 n
   refine W.item i s _ _ hg st fun v h' tk hv z7 kk => ?_
   obtain ⟨t, rfl⟩ := hv
   have I1 : Inv X pins σ H { s with heap := h', toks := tk } := I.turned (fun b o hb e => kk b o (by simpa using hb) e) f0 f1 f3 f4 f5
   refine ⟨_, rfl, Ej (s := { s with heap := h', toks := tk }) (n := "range_iterator") z7 rfl rfl (by decide) ⟨.int (lo + i), H, I1, ⟨t, ?_⟩, ⟨rfl, rfl⟩, z7, fun b hb => (hf b hb).1⟩⟩
   rw [Int.mul_one]
 done := by
   intro X hP hw hK hc i pins s σ H E I hf st hg
   subst hP hw hK
   obtain ⟨f0, f1, f2, f3, f4, f5⟩ := hf it (by simp)
   exact wpAny_pyNext_range_end (I.ok.hd hc) st (by have : n <= i := hg; omega) fun h' eb => ⟨rfl, I.turned (t' := s.toks) (fun b o hb e => eb b o hb e) f0 f1 f3 f4 f5⟩
 self := fun _ _ _ _ _ st h => wpAny_pyIter_rangeiter st h
section
variable {X : Cx} {tg : Expr}
def RH (K : PySem.W.Frag) (tl : TE) : TI := fun σ H R => tl σ H fun x H1 => ∃ a, x = .ref a /\ (∃ xs, j5 K H1 a xs) /\ R (Xa K a) H1
def Vs (K : PySem.W.Frag) (tl : TE) : TI := fun σ H R => tl σ H fun x H1 => ∃ a, x = .ref a /\ (∃ xs, qJ K H1 a xs) /\ R (Xb K a) H1
theorem HL {l : Expr} {tl : TE} (hl : PE X l tl) : PI X tg l (RH X.K tl) := by
 intro pins s σ H R I h
 refine c9 (hl pins s σ H _ I h) fun v s1 ⟨x, H1, I1, r1, q1⟩ => ?_
 obtain ⟨a, e, ⟨xs, hq⟩, q⟩ := q1
 subst e
 cases r1
 obtain ⟨its, rv, p, hz⟩ := I1.list hq
 refine wpAny_pyIter_list p.isList ?_
 refine ⟨s1.heap.objs.size, [s1.heap.objs.size], _, _, H1, rfl, I1.kept (t' := s1.toks) fun b o e => aaA _ e, CH a _, ⟨_, aaR _ rfl, rfl, rfl⟩, fun b hb => ?_, q⟩
 have e : b = s1.heap.objs.size := by simpa using hb
 subst e
 exact I1.uM (aas _) (I1.cU.fresh (aas _))
theorem Nu {l : Expr} {tl : TE} (hl : PE X l tl) : PI X tg l (Vs X.K tl) := by
 intro pins s σ H R I h
 refine c9 (hl pins s σ H _ I h) fun v s1 ⟨x, H1, I1, r1, q1⟩ => ?_
 obtain ⟨a, e, ⟨xs, hq⟩, q⟩ := q1
 subst e
 cases r1
 obtain ⟨its, rv, p, hz⟩ := I1.tuple hq
 refine wpAny_pyIter_tuple (show s1.heap.IsTuple a its.toArray from p) ?_
 refine ⟨s1.heap.objs.size, [s1.heap.objs.size], _, _, H1, rfl, I1.kept (t' := s1.toks) fun b o e => aaA _ e, z8 a _, ⟨_, aaR _ rfl, rfl, rfl⟩, fun b hb => ?_, q⟩
 have e : b = s1.heap.objs.size := by simpa using hb
 subst e
 exact I1.uM (aas _) (I1.cU.fresh (aas _))
theorem yk {pins : List (Addr × Obj)} {σ : St} {H : Hp} {s : Shared} {R : It -> Hp -> Prop} {E : Value -> Shared -> Prop} {lo hi : Int} {t u v : Tok} {tk : Nat} (I : Inv X pins σ H s) (h1 : -(2 ^ 62) <= lo) (h2 : lo < 2 ^ 62) (h3 : -(2 ^ 62) <= hi) (h4 : hi < 2 ^ 62)
   (q : R (UG lo (hi - lo).toNat) H) : wpAny (model X.prog X.w) X.A (pyIter (.ref s.heap.objs.size)) (W9 X pins σ tg R) E { s with heap := s.heap.push { cls := .type "range", data := .fields #[.int lo t, .int hi u, .int 1 v] }, toks := tk } := by
 refine wpAny_pyIter_range (IsRange.new ..) (small_one h1 h2 h3 h4) ?_
 have I1 : Inv X pins σ H { s with heap := s.heap.push { cls := .type "range", data := .fields #[.int lo t, .int hi u, .int 1 v] }, toks := tk } := I.kept fun b o e => aaA _ e
 refine ⟨(s.heap.push { cls := .type "range", data := .fields #[.int lo t, .int hi u, .int 1 v] }).objs.size, [(s.heap.push { cls := .type "range", data := .fields #[.int lo t, .int hi u, .int 1 v] }).objs.size], _, _, H, rfl,
   I1.kept (t' := tk) fun b o e => aaA _ e, z9 _ lo (hi - lo).toNat, ?_, fun b hb => ?_, q⟩
 . have e1 : lo + ((0 : Nat) : Int) * 1 = lo := by simp
   have e2 : (((hi - lo).toNat : Nat) : Int) - ((0 : Nat) : Int) = Builtin.Range.rangeSize lo hi 1 := by rw [rangeSize_one]; split <;> omega
   show IsRangeIter _ _ (lo + ((0 : Nat) : Int) * 1) ((((hi - lo).toNat : Nat) : Int) - ((0 : Nat) : Int)) 1
   rw [e1, e2]
   exact aaR _ rfl
 . have e : b = (s.heap.push { cls := .type "range", data := .fields #[.int lo t, .int hi u, .int 1 v] }).objs.size := by simpa using hb
   subst e
   exact I1.uM (aas _) (I1.cU.fresh (aas _))
def RJ (ta : TA) : TI := fun σ H R => ta σ H fun vs H1 => ∃ j : Int, vs = [.int j] /\ -(2 ^ 62) <= j /\ j < 2 ^ 62 /\ R (UG 0 j.toNat) H1
def RK (ta : TA) : TI := fun σ H R => ta σ H fun vs H1 => ∃ i j : Int, vs = [.int i, .int j] /\ (-(2 ^ 62) <= i /\ i < 2 ^ 62 /\ -(2 ^ 62) <= j /\ j < 2 ^ 62) /\ R (UG i (j - i).toNat) H1
theorem CJ {a : Expr} {ta : TA} {p pos : Pos} (hg : Gl X "range") (hm : X.mg "range" = none) (ha : PA X [a] ta) (hs : starEach [a] X.env = [(false, eval a X.env)] := by rfl) : PI X tg (.Call (.Name "range" p) [a] [] pos) (RJ ta) := by
 intro pins s σ H R I h
 refine Call_ (lR I hg hm boot_range (abI (c9 (ha pos pins s σ H _ I h) fun us s1 ⟨vs, H1, I1, r1, q1⟩ => ?_) hs rfl))
 obtain ⟨j, e, q1, q2, q⟩ := q1
 subst e
 cases r1 with
 | cons r rr =>
   cases rr
   obtain ⟨t, rfl⟩ := r
   exact call_range_1 (yk I1 (by omega) (by omega) q1 q2 (by simpa using q))
theorem CK {a b : Expr} {ta : TA} {p pos : Pos} (hg : Gl X "range") (hm : X.mg "range" = none) (ha : PA X [a, b] ta) (hs : starEach [a, b] X.env = [(false, eval a X.env), (false, eval b X.env)] := by rfl) (CM : starEach [b] X.env = [(false, eval b X.env)] := by rfl) :
   PI X tg (.Call (.Name "range" p) [a, b] [] pos) (RK ta) := by
 intro pins s σ H R I h
 refine Call_ (lR I hg hm boot_range (abI (c9 (ha pos pins s σ H _ I h) fun us s1 ⟨vs, H1, I1, r1, q1⟩ => ?_) (by rw [hs, CM]) (by rw [CM]; rfl)))
 obtain ⟨i, j, e, ⟨q1, q2, q3, q4⟩, q⟩ := q1
 subst e
 cases r1 with
 | cons r rr =>
   cases rr with
   | cons r' rr =>
     cases rr
     obtain ⟨t, rfl⟩ := r
     obtain ⟨t', rfl⟩ := r'
     exact call_range_2 (yk I1 q1 q2 q3 q4 q)
def Vt (wi : TI) (g : TG) (tb : TS) : TS := fun D σ H => wi σ H fun J H1 => ∃ W : Nat -> Nat -> St -> Hp -> Prop, (∃ m, W 0 m σ H1) /\ ∀ i m σ H, W i m σ H →
 (J.stop i H /\ D.nx σ H) \/ (J.go i H /\ ∃ N : St -> Hp -> Prop, (∀ σ' H', N σ' H' -> ∃ m', m' < m /\ W (i + 1) m' σ' H') /\ ∀ x H', J.Mh i H x H' -> g x σ H' fun σ2 H2 => tb { D with nx := N, ct := N, bk := D.nx } σ2 H2)
def qK (fp : List Addr) (h : Heap) : List (Addr × Obj) := fp.filterMap fun b => (h.get? b).map fun o => (b, o)
theorem fu {fp : List Addr} {h : Heap} {b : Addr} {o : Obj} (hb : b ∈ fp) (e : h.get? b = some o) : (b, o) ∈ qK fp h := List.mem_filterMap.mpr ⟨b, hb, by rw [e]; rfl⟩
theorem CN {fp : List Addr} {h : Heap} {p : Addr × Obj} (hp : p ∈ qK fp h) : p.1 ∈ fp /\ h.get? p.1 = some p.2 := by
 obtain ⟨b, hb, e⟩ := List.mem_filterMap.mp hp
 cases q : h.get? b with
 | none => rw [q] at e; cases e
 | some o =>
   rw [q] at e
   have e' : (b, o) = p := aaH e
   subst e'
   exact ⟨hb, q⟩
theorem Inv.pinned {pins : List (Addr × Obj)} {σ : St} {H : Hp} {s : Shared} {fp : List Addr} (I : Inv X pins σ H s) (hf : ∀ b ∈ fp, fW X pins H b) (ho : ∀ b ∈ fp, ∃ o, s.heap.get? b = some o /\ ∀ v, o.data ≠ .cell v) : Inv X (pins ++ qK fp s.heap) σ H s :=
 I.qa fun p hp => (aaG.mp hp).elim (fun z => I.pin p (aao _ z)) fun z => by
   obtain ⟨hb, e⟩ := CN z
   obtain ⟨f0, f1, f2, _⟩ := hf p.1 hb
   obtain ⟨o, e', d⟩ := ho p.1 hb
   rw [e] at e'; cases e'
   exact ⟨e, f0, f1, f2, d⟩
theorem Inv.jA {pins pl : List (Addr × Obj)} {σ : St} {H : Hp} {s : Shared} (I : Inv X (pins ++ pl) σ H s) : Inv X pins σ H s := I.qa fun p hp => I.pin p (aao _ (aaJ _ hp))
theorem Ek {iter : Expr} {body : List Stmt} {wi : TI} {g : TG} {tb : TS} {pos : Pos} (hp : PassesOwn (model X.prog X.w) X.A X.env X.xe) (hc : X.calm = true) (hi : PI X tg iter wi) (hg : PG X tg g) (hb : z6 X body tb)
   (hs : ∀ x, foldedSetIterable iter X.env x = pure x := by intro _; rfl) : PS X (.For tg iter body [] pos) (Vt wi g tb) := by
 intro pins s σ H D I h
 refine wpAny_For (c9 (hi pins s σ H _ I h) fun v s1 h1 => c9 h1 fun UE s2 h2 => ?_) hs
 obtain ⟨it, fp, tn, J, H2, e, I2, T, X9, f2, W, ⟨m0, w0⟩, turn⟩ := h2
 subst e
 have stat : ∀ {H' : Hp}, (∀ b ∈ fp, H' b = none) -> ∀ b ∈ fp, fW X pins H' b := fun hn b hb => ⟨hn b hb, (f2 b hb).2⟩
 refine codeAny_forLoop_any (fun n s' => ∃ i σ' H', Inv X pins σ' H' s' /\ tn i s'.heap /\ (∀ b ∈ fp, H' b = none) /\ W i n σ' H') ?_ m0 ⟨0, σ, H2, I2, X9, fun b hb => (f2 b hb).1, w0⟩
 rintro n s3 ⟨i, σ3, H3, I3, RL, Xc, w3⟩
 rcases turn i n σ3 H3 w3 with ⟨stop, qn⟩ | ⟨go, N, hN, step⟩
 . refine abK hp (c9 (T.done X rfl rfl rfl hc i pins s3 σ3 H3 X.xe I3 (stat Xc) RL stop) fun r s4 ⟨hr, I4⟩ => ?_)
   subst hr
   exact wpAny_execs_nil ⟨σ3, H3, I4, qn⟩
 . refine abK hp (c9 (T.item X rfl rfl rfl hc i pins s3 σ3 H3 X.xe I3 (stat Xc) RL go) fun r s4 ⟨u, hr, h4⟩ => ?_)
   subst hr
   refine abK hp (c9 h4 fun _ s5 ⟨x, H5, I5, r5, y5, Q5, UH⟩ => ?_)
   have Yb := I5.pinned (stat UH) (T.obj _ _ Q5)
   refine abK hp (c9 (hg _ s5 σ3 H5 x u _ Yb r5 (step x H5 y5)) fun _ s6 ⟨σ6, H6, I6, q6⟩ => ?_)
   refine abK hp (c9 (hb _ s6 σ6 H6 _ I6 q6) fun f s7 q7 => ?_)
   have again : ∀ {σ7 : St} {H7 : Hp}, Inv X (pins ++ qK fp s5.heap) σ7 H7 s7 -> N σ7 H7 -> ∃ m, m < n /\ ∃ i σ' H', Inv X pins σ' H' s7 /\ tn i s7.heap /\ (∀ b ∈ fp, H' b = none) /\ W i m σ' H' := fun {σ7 H7} I7 n7 => by
     obtain ⟨m', hm, w7⟩ := hN σ7 H7 n7
     refine ⟨m', hm, i + 1, σ7, H7, I7.jA, T.keep _ _ _ Q5 fun b hb o e => (I7.pin (b, o) (aao _ (aao _ (fu hb e)))).1, fun b hb => ?_, w7⟩
     obtain ⟨o, e, d⟩ := T.obj _ _ Q5 b hb
     exact (I7.pin (b, o) (aao _ (aao _ (fu hb e)))).2.1
   cases f with
   | next => obtain ⟨σ7, H7, I7, n7⟩ := q7; exact again I7 n7
   | cont => obtain ⟨σ7, H7, I7, n7⟩ := q7; exact again I7 n7
   | brk => obtain ⟨σ7, H7, I7, q7⟩ := q7; exact ⟨σ7, H7, I7.jA, q7⟩
   | ret v => obtain ⟨x7, σ7, H7, I7, r7, q7⟩ := q7; exact ⟨x7, σ7, H7, I7.jA, r7, q7⟩
end
abbrev R2 := V -> V -> Hp -> VK -> Prop
def n8 (X : Cx) (f : Value -> Value -> Sem Value) (r : R2) : Prop :=
 ∀ (pins : List (Addr × Obj)) (s : Shared) (σ : St) (H : Hp) (x y : V) (v u : Value) (Q : VK), Inv X pins σ H s -> RelV x v -> RelV y u -> r x y H Q →
   wpAny (model X.prog X.w) X.A (f v u) (EP X pins σ Q) X.xe s
def Vu (X : Cx) (f : Value -> Sem Value) (r : V -> Hp -> VK -> Prop) : Prop :=
 ∀ (pins : List (Addr × Obj)) (s : Shared) (σ : St) (H : Hp) (x : V) (v : Value) (Q : VK), Inv X pins σ H s -> RelV x v -> r x H Q →
   wpAny (model X.prog X.w) X.A (f v) (EP X pins σ Q) X.xe s
def pD (X : Cx) (f : Value) (r : List V -> Hp -> VK -> Prop) : Prop :=
 ∀ (pins : List (Addr × Obj)) (s : Shared) (σ : St) (H : Hp) (xs : List V) (us : List Value) (Q : VK), Inv X pins σ H s -> Vals xs us -> r xs H Q →
   wpAny (model X.prog X.w) X.A (call f us) (EP X pins σ Q) X.xe s
def UI (r : R2) (ta tb : TE) : TE := fun σ H Q => ta σ H fun x H1 => tb σ H1 fun y H2 => r x y H2 Q
def Yc (r : V -> Hp -> VK -> Prop) (ta : TE) : TE := fun σ H Q => ta σ H fun x H1 => r x H1 Q
def rI (C : Int -> Int -> Prop) (g : Int -> Int -> V) : R2 := fun x y H Q => ∃ i j, x = .int i /\ y = .int j /\ C i j /\ Q (g i j) H
def Nv (g : Int -> Int -> V) : R2 := fun x y H Q => ∃ i j, x = .int i /\ y = .int j /\ Q (g i j) H
def rU (g : Int -> V) : V -> Hp -> VK -> Prop := fun x H Q => ∃ i, x = .int i /\ Q (g i) H
section
variable {X : Cx} {a b c : Expr} {ta tb tc : TE} {pos : Pos}
theorem Nx (ha : PE X a ta) (hb : PE X b tb) {pins : List (Addr × Obj)} {s : Shared} {σ : St} {H : Hp} {R : V -> V -> Hp -> Prop} (I : Inv X pins σ H s)
   (h : ta σ H fun x H1 => tb σ H1 fun y H2 => R x y H2) {Q : Value -> Shared -> Prop} {f : Value -> Value -> Sem Value}
   (hf : ∀ v u s2 x y H2, Inv X pins σ H2 s2 -> RelV x v -> RelV y u -> R x y H2 -> wpAny (model X.prog X.w) X.A (f v u) Q X.xe s2) :
   wpAny (model X.prog X.w) X.A (eval a X.env) (fun v s₁ => wpAny (model X.prog X.w) X.A (eval b X.env) (fun u s₂ => wpAny (model X.prog X.w) X.A (f v u) Q X.xe s₂) X.xe s₁) X.xe s := by
 refine c9 (ha pins s σ H _ I h) fun v s1 ⟨x, H1, I1, r1, q1⟩ => ?_
 refine c9 (hb pins s1 σ H1 _ I1 q1) fun u s2 ⟨y, H2, I2, r2, q2⟩ => ?_
 exact hf v u s2 x y H2 I2 r1 r2 q2
theorem El {op : Operator} {r : R2} (ho : n8 X (binaryOp op) r) (ha : PE X a ta) (hb : PE X b tb) : PE X (.BinOp a op b pos) (UI r ta tb) := by
 intro pins s σ H Q I h
 exact wpAny_BinOp (Nx ha hb I h fun v u s2 x y H2 I2 rx ry q => ho pins s2 σ H2 x y v u Q I2 rx ry q)
theorem RM {op : UnaryOp} {r : V -> Hp -> VK -> Prop} (ho : Vu X (unaryOp op) r) (ha : PE X a ta) : PE X (.UnaryOp op a pos) (Yc r ta) := by
 intro pins s σ H Q I h
 exact UnaryOp_ (c9 (ha pins s σ H _ I h) fun v s1 ⟨x, H1, I1, r1, q1⟩ => ho pins s1 σ H1 x v Q I1 r1 q1)
theorem UJ {f : Value -> Value -> Sem Value} {C : Int -> Int -> Prop} {g : Int -> Int -> Int}
   (rule : ∀ (i j : Int) (t u : Tok) (s : Shared) (Q : Value -> Shared -> Prop) (E : Value -> Shared -> Prop), C i j -> Q (.int (g i j) s.toks) { s with toks := s.toks + 1 } -> wpAny (model X.prog X.w) X.A (f (.int i t) (.int j u)) Q E s) :
   n8 X f (rI C fun i j => .int (g i j)) := by
 intro pins s σ H x y v u Q I rx ry h
 obtain ⟨i, j, rfl, rfl, hc, q⟩ := h
 obtain ⟨t, rfl⟩ := rx
 obtain ⟨t', rfl⟩ := ry
 exact rule i j t t' s _ _ hc ⟨.int (g i j), H, I.tok _, ⟨_, rfl⟩, q⟩
theorem RN {f : Value -> Value -> Sem Value} {g : Int -> Int -> Int}
   (rule : ∀ (i j : Int) (t u : Tok) (s : Shared) (Q : Value -> Shared -> Prop) (E : Value -> Shared -> Prop), Q (.int (g i j) s.toks) { s with toks := s.toks + 1 } -> wpAny (model X.prog X.w) X.A (f (.int i t) (.int j u)) Q E s) :
   n8 X f (Nv fun i j => .int (g i j)) := by
 intro pins s σ H x y v u Q I rx ry h
 obtain ⟨i, j, rfl, rfl, q⟩ := h
 obtain ⟨t, rfl⟩ := rx
 obtain ⟨t', rfl⟩ := ry
 exact rule i j t t' s _ _ ⟨.int (g i j), H, I.tok _, ⟨_, rfl⟩, q⟩
theorem Ny {f : Value -> Value -> Sem Value} {g : Int -> Int -> Bool}
   (rule : ∀ (i j : Int) (t u : Tok) (s : Shared) (Q : Value -> Shared -> Prop) (E : Value -> Shared -> Prop), Q (.bool (g i j)) s -> wpAny (model X.prog X.w) X.A (f (.int i t) (.int j u)) Q E s) :
   n8 X f (Nv fun i j => .bl (g i j)) := by
 intro pins s σ H x y v u Q I rx ry h
 obtain ⟨i, j, rfl, rfl, q⟩ := h
 obtain ⟨t, rfl⟩ := rx
 obtain ⟨t', rfl⟩ := ry
 exact rule i j t t' s _ _ ⟨.bl (g i j), H, I, rfl, q⟩
def RP (i j : Int) : Prop := 0 < j /\ j < 1073741824
def RQ (i j : Int) : Prop := 0 <= j /\ j <= 1000000 /\ i.natAbs < 2 ^ 64
def HM (i j : Int) : Prop := (-(2 ^ 64) < i /\ i < 2 ^ 64) \/ (-(2 ^ 64) < j /\ j < 2 ^ 64)
theorem HM.ok {i j : Int} (h : HM i j) : IntMulOk i j := by
 rcases h with ⟨h1, h2⟩ | ⟨h1, h2⟩
 . exact .of_left (intBits_le_64 h1 h2)
 . exact .of_right (intBits_le_64 h1 h2)
theorem Nz : n8 X (binaryOp .Add) (Nv fun i j => .int (i + j)) := RN fun _ _ _ _ _ _ _ q => add_int q
theorem NB : n8 X (binaryOp .Sub) (Nv fun i j => .int (i - j)) := RN fun _ _ _ _ _ _ _ q => sub_int q
theorem NC : n8 X (binaryOp .Mult) (rI HM fun i j => .int (i * j)) := UJ fun _ _ _ _ _ _ _ hc q => mul_int q hc.ok
theorem HN : n8 X (binaryOp .FloorDiv) (rI RP fun i j => .int (i / j)) := UJ fun i j _ _ _ _ _ hc q => by
 have h1 : (0 : Int) < j := hc.1
 have h2 : j < 1073741824 := hc.2
 exact floordiv_int (by omega) (by rw [Int.fdiv_eq_ediv_of_nonneg i (by omega)]; exact q) (.inl (PyProof.noPylong_small (by omega)))
theorem NF : n8 X (binaryOp .Mod) (rI (fun _ j => 0 < j) fun i j => .int (i % j)) := UJ fun i j _ _ _ _ _ hc q => by
 have h1 : (0 : Int) < j := hc
 exact mod_int' (by omega) (by rw [Int.fmod_eq_emod_of_nonneg i (by omega)]; exact q)
theorem NK : n8 X (binaryOp .Pow) (rI RQ fun i j => .int (i ^ j.toNat)) := UJ fun _ _ _ _ _ _ _ hc q => pow_int_small hc.1 hc.2.1 hc.2.2 q
theorem Yd {f : Value -> Sem Value} {g : Int -> Int}
   (rule : ∀ (i : Int) (t : Tok) (s : Shared) (Q : Value -> Shared -> Prop) (E : Value -> Shared -> Prop), Q (.int (g i) s.toks) { s with toks := s.toks + 1 } -> wpAny (model X.prog X.w) X.A (f (.int i t)) Q E s) :
   Vu X f (rU fun i => .int (g i)) := by
 intro pins s σ H x v Q I rx h
 obtain ⟨i, rfl, q⟩ := h
 obtain ⟨t, rfl⟩ := rx
 exact rule i t s _ _ ⟨.int (g i), H, I.tok _, ⟨_, rfl⟩, q⟩
theorem NP : Vu X (unaryOp .USub) (rU fun i => .int (-i)) := Yd fun _ _ _ _ _ q => neg_int q
end
def RT : V -> V -> Bool
 | .non, .non => true | .non, .int _ => true | .int _, .non => true | .non, .bl _ => true | .bl _, .non => true | .non, .str _ => true | .str _, .non => true
 | .int _, .int _ => true | .bl _, .bl _ => true | .str _, .str _ => true | .D0 _, .D0 _ => true
 | .int _, .str _ => true | .str _, .int _ => true | .bl _, .str _ => true | .str _, .bl _ => true
 | _, _ => false
def Ye : R2 := fun x y H Q => RT x y = true /\ Q (.bl (decide (x = y))) H
def Yg : R2 := fun x y H Q => RT x y = true /\ Q (.bl (!decide (x = y))) H
theorem Bt {i j : Int} : decide (V.int i = V.int j) = (i == j) := by
 rw [Bool.eq_iff_iff]
 simp
theorem Em {i j : Bool} : decide (V.bl i = V.bl j) = (i == j) := by
 rw [Bool.eq_iff_iff]
 simp
theorem Bu {i j : Str} : decide (V.str i = V.str j) = (i == j) := by
 rw [Bool.eq_iff_iff]
 simp
theorem Bv {i j : Array UInt8} : decide (V.D0 i = V.D0 j) = (i.toList == j.toList) := by
 rw [Bool.eq_iff_iff]
 cases i
 cases j
 simp
section
variable {X : Cx} {a b c : Expr} {ta tb tc : TE} {pos : Pos}
theorem bI {pins : List (Addr × Obj)} {σ : St} {H : Hp} {s : Shared} {Q : VK} {k k' : Bool} (I : Inv X pins σ H s) (q : Q (.bl k) H) (e : k = k') : EP X pins σ Q (.bool k') s := by
 subst e
 exact ⟨.bl k, H, I, rfl, q⟩
theorem En : n8 X (compareOp .Eq) Ye := by
 intro pins s σ H x y v u Q I rx ry h
 obtain ⟨hs, q⟩ := h
 cases x with
 | non =>
   cases rx
   cases y with
   | non => cases ry; exact PySem.EqNone.eq_none_none (bI I q (by simp))
   | bl j => cases ry; exact PySem.EqNone.eq_none_bool (bI I q (by simp))
   | int j => obtain ⟨t', rfl⟩ := ry; exact PySem.EqNone.eq_none_int (bI I q (by simp))
   | str j => obtain ⟨t', rfl⟩ := ry; exact PySem.EqNone.eq_none_str (bI I q (by simp))
   | _ => exact absurd (show false = true from hs) aaB
 | bl i =>
   cases rx
   cases y with
   | non => cases ry; exact PySem.EqNone.eq_bool_none (bI I q (by simp))
   | bl j => cases ry; exact eq_bool (bI I q Em)
   | str j => obtain ⟨t', rfl⟩ := ry; exact PySem.EqMixed.eq_bool_str (bI I q (by simp))
   | _ => exact absurd (show false = true from hs) aaB
 | int i =>
   obtain ⟨t, rfl⟩ := rx
   cases y with
   | non => cases ry; exact PySem.EqNone.eq_int_none (bI I q (by simp))
   | int j => obtain ⟨t', rfl⟩ := ry; exact eq_int (bI I q Bt)
   | str j => obtain ⟨t', rfl⟩ := ry; exact PySem.EqMixed.eq_int_str (bI I q (by simp))
   | _ => exact absurd (show false = true from hs) aaB
 | str i =>
   obtain ⟨t, rfl⟩ := rx
   cases y with
   | non => cases ry; exact PySem.EqNone.eq_str_none (bI I q (by simp))
   | bl j => cases ry; exact PySem.EqMixed.eq_str_bool (bI I q (by simp))
   | int j => obtain ⟨t', rfl⟩ := ry; exact PySem.EqMixed.eq_str_int (bI I q (by simp))
   | str j => obtain ⟨t', rfl⟩ := ry; exact eq_str (bI I q Bu)
   | _ => exact absurd (show false = true from hs) aaB
 | D0 i =>
   obtain ⟨t, rfl⟩ := rx
   cases y with
   | D0 j => obtain ⟨t', rfl⟩ := ry; exact PySem.W.eq_bytes (bI I q Bv)
   | _ => exact absurd (show false = true from hs) aaB
 | _ => cases y <;> exact absurd (show false = true from hs) aaB
theorem RV : n8 X (compareOp .NotEq) Yg := by
 intro pins s σ H x y v u Q I rx ry h
 obtain ⟨hs, q⟩ := h
 cases x with
 | non =>
   cases rx
   cases y with
   | non => cases ry; exact PySem.EqNone.ne_none_none (bI I q (by simp))
   | bl j => cases ry; exact PySem.EqNone.ne_none_bool (bI I q (by simp))
   | int j => obtain ⟨t', rfl⟩ := ry; exact PySem.EqNone.ne_none_int (bI I q (by simp))
   | str j => obtain ⟨t', rfl⟩ := ry; exact PySem.EqNone.ne_none_str (bI I q (by simp))
   | _ => exact absurd (show false = true from hs) aaB
 | bl i =>
   cases rx
   cases y with
   | non => cases ry; exact PySem.EqNone.ne_bool_none (bI I q (by simp))
   | bl j => cases ry; exact ne_bool (bI I q (congrArg not Em))
   | str j => obtain ⟨t', rfl⟩ := ry; exact PySem.EqMixed.ne_bool_str (bI I q (by simp))
   | _ => exact absurd (show false = true from hs) aaB
 | int i =>
   obtain ⟨t, rfl⟩ := rx
   cases y with
   | non => cases ry; exact PySem.EqNone.ne_int_none (bI I q (by simp))
   | int j => obtain ⟨t', rfl⟩ := ry; exact ne_int (bI I q (congrArg not Bt))
   | str j => obtain ⟨t', rfl⟩ := ry; exact PySem.EqMixed.ne_int_str (bI I q (by simp))
   | _ => exact absurd (show false = true from hs) aaB
 | str i =>
   obtain ⟨t, rfl⟩ := rx
   cases y with
   | non => cases ry; exact PySem.EqNone.ne_str_none (bI I q (by simp))
   | bl j => cases ry; exact PySem.EqMixed.ne_str_bool (bI I q (by simp))
   | int j => obtain ⟨t', rfl⟩ := ry; exact PySem.EqMixed.ne_str_int (bI I q (by simp))
   | str j => obtain ⟨t', rfl⟩ := ry; exact ne_str (bI I q (congrArg not Bu))
   | _ => exact absurd (show false = true from hs) aaB
 | D0 i =>
   obtain ⟨t, rfl⟩ := rx
   cases y with
   | D0 j => obtain ⟨t', rfl⟩ := ry; exact PySem.W.ne_bytes (bI I q (congrArg not Bv))
   | _ => exact absurd (show false = true from hs) aaB
 | _ => cases y <;> exact absurd (show false = true from hs) aaB
theorem RW : n8 X (compareOp .Lt) (Nv fun i j => .bl (decide (i < j))) := Ny fun _ _ _ _ _ _ _ q => lt_int q
theorem RX : n8 X (compareOp .LtE) (Nv fun i j => .bl (decide (i <= j))) := Ny fun _ _ _ _ _ _ _ q => le_int q
theorem RZ : n8 X (compareOp .Gt) (Nv fun i j => .bl (decide (j < i))) := Ny fun _ _ _ _ _ _ _ q => gt_int q
theorem iO (b : Expr) {op : CmpOp} (h : op ≠ .In := by decide) (h2 : op ≠ .NotIn := by decide) : behindInMarks op b = false := by
 have e1 : (op == CmpOp.In) = false := by cases op <;> first | rfl | exact absurd rfl h
 have e2 : (op == CmpOp.NotIn) = false := by cases op <;> first | rfl | exact absurd rfl h2
 cases b <;> simp [behindInMarks, e1, e2]
theorem mD {op : CmpOp} {r : R2} (ho : n8 X (compareOp op) r) (ha : PE X a ta) (hb : PE X b tb) (hm : behindInMarks op b = false) : PE X (.Compare a [op] [b] pos) (UI r ta tb) := by
 intro pins s σ H Q I h
 exact wpAny_Compare1 (Nx ha hb I h fun v u s2 x y H2 I2 rx ry q => ho pins s2 σ H2 x y v u Q I2 rx ry q) hm
def R0 (t : TE) : TT := fun σ H Q => t σ H fun x H' => ∃ k, x = .bl k /\ Q k H'
theorem mE {op : CmpOp} {r : R2} (ho : n8 X (compareOp op) r) (ha : PE X a ta) (hb : PE X b tb) (hm : behindInMarks op b = false) : PT X (.Compare a [op] [b] pos) (R0 (UI r ta tb)) := by
 intro pins s σ H Q I h
 refine wpAny_isTrue_Compare1 (c9 (ha pins s σ H _ I h) fun v s1 ⟨x, H1, I1, r1, q1⟩ => c9 (hb pins s1 σ H1 _ I1 q1) fun u s2 ⟨y, H2, I2, r2, q2⟩ =>
   c9 (ho pins s2 σ H2 x y v u _ I2 r1 r2 q2) fun c s3 ⟨z, H3, I3, r3, k, e, q3⟩ => ?_) hm
 subst e
 cases r3
 exact abV ⟨H3, I3, q3⟩
theorem qL : (sizeLine : Nat) < 2 ^ 63 := by rw [aaX]; decide
theorem Aa : n8 X (binaryOp .Add) (fun x y H Q => ∃ i j, x = .str i /\ y = .str j /\ i.length + j.length <= sizeLine /\ Q (.str (i ++ j)) H) := by
 intro pins s σ H x y v u Q I rx ry h
 obtain ⟨i, j, rfl, rfl, hz, q⟩ := h
 obtain ⟨t, rfl⟩ := rx
 obtain ⟨t', rfl⟩ := ry
 exact add_str (fun t' tk => ⟨.str (i ++ j), H, I.tok _, ⟨_, rfl⟩, q⟩) hz
theorem vals1 {x : V} {us : List Value} (r : Vals [x] us) : ∃ u, us = [u] /\ RelV x u := by
 cases r with
 | cons r1 r2 => cases r2; exact ⟨_, rfl, r1⟩
theorem CP : pD X (.type "int") (fun xs H Q => (∃ i, xs = [.int i] /\ Q (.int i) H) \/ ∃ k, xs = [.bl k] /\ Q (.int (if k then 1 else 0)) H) := by
 intro pins s σ H xs us Q I r h
 rcases h with ⟨i, rfl, q⟩ | ⟨k, rfl, q⟩
 . obtain ⟨u, rfl, t, rfl⟩ := vals1 r
   exact call_int_int ⟨.int i, H, I, ⟨_, rfl⟩, q⟩
 . obtain ⟨u, rfl, r1⟩ := vals1 r
   cases r1
   exact call_int_bool ⟨.int (if k then 1 else 0), H, I.tok _, ⟨_, rfl⟩, q⟩
theorem uN : pD X (.type "str") (fun xs H Q => ∃ i, xs = [.int i] /\ i.natAbs.log2 < 1920 /\ Q (.str (toString i)) H) := by
 intro pins s σ H xs us Q I r h
 obtain ⟨i, rfl, hz, q⟩ := h
 obtain ⟨u, rfl, t, rfl⟩ := vals1 r
 exact PySem.P.str_of_int hz ⟨.str _, H, I.tok _, ⟨_, rfl⟩, q⟩
end
structure CQ (h : Heap) (x dx C : Addr) (mA : Str -> Option Value) : Prop where
 obj : h.get? x = some (PySem.W.instObj C dx)
 ns : h.Ns1 dx mA
 ne : dx ≠ x
theorem CT {h : Heap} {dx : Addr} {mA : Str -> Option Value} (n : h.Ns1 dx mA) : ∃ od, h.get? dx = some od /\ ∀ name, PySem.W.lookIn name od = some (mA name) := by
 obtain ⟨o, es, ep, ho, hd, hk, _, hm⟩ := n
 refine ⟨o, ho, fun name => ?_⟩
 have e := hm name
 unfold nsFind findBy at e
 rw [← Array.find?_toList] at e
 unfold PySem.W.lookIn
 rw [hd]
 dsimp only
 split
 . rename_i y q
   rw [q] at e
   exact congrArg some e
 . rename_i q
   rw [q] at e
   have a : es.toList.any (·.refKey) = false := by
     rw [List.any_eq_false]
     intro y hy
     obtain ⟨z, t, Vv⟩ := hk y (Array.mem_toList_iff.mp hy)
     simp [DictEntry.refKey, Vv]
   have a' : ¬ es.toList.any (·.refKey) = true := by rw [a]; exact aaB
   rw [aap a']
   exact congrArg some e
theorem CQ.look {h : Heap} {x dx C : Addr} {mA : Str -> Option Value} (I : CQ h x dx C mA) : ∃ od, PySem.W.InstAt h x (PySem.W.instObj C dx) C (some od) /\ ∀ name, PySem.W.lookIn name od = some (mA name) :=
 let ⟨od, ho, hl⟩ := CT I.ns
 ⟨od, ⟨I.obj, rfl, rfl, ho⟩, hl⟩
section
variable {prog : Program} {w : World} {A : Around} {E : Value -> Shared -> Prop} {s : Shared} {K : PySem.W.Frag} {x dx C f : Addr} {mA : Str -> Option Value} {name : Str} {v : Value}
theorem get_map {expr : Bool} {Q : Value -> Shared -> Prop} (X : K.In s.heap) (I : CQ s.heap x dx C mA) (hg : PySem.W.plainGet K C name = true) (hh : PySem.W.hasDictIn K C = true)
   (ha : PySem.W.findIn K (.ref C) name = some none) (hv : mA name = some v) (Yh : PySem.W.handedIn v = true) (h : Q v { s with toks := s.toks + 1 }) :
   wpAny (model prog w) A (getAttr (.ref x) name expr) Q E s := by
 obtain ⟨od, J, hl⟩ := I.look
 exact PySem.W.get_value X J (PySem.W.plainGet_of hg).1 (PySem.W.findObj_own hh ha rfl (by rw [hl, hv])) Yh h
theorem HP {ns : List Str} {Q : Unit -> Shared -> Prop} (X : K.In s.heap) (I : CQ s.heap x dx C mA)
   (hs : PySem.W.findIn K (.ref C) "__setattr__" = some (some (.builtin "object.__setattr__"))) (hp : PySem.W.plainOver K C = true) (ht : PySem.W.takerIn K C name = some none) (hh : PySem.W.hasDictIn K C = true)
   (hw : PySem.Within mA ns) (Ab : ns.length <= sizeLine)
   (h : ∀ h', CQ h' x dx C (fun y => if y = name then some v else mA y) -> Heap.SameBut dx s.heap h' -> Q () { s with heap := h', toks := s.toks + 2 }) :
   wpAny (model prog w) A (setAttr (.ref x) name v) Q E s := by
 obtain ⟨od, J, hl⟩ := I.look
 refine PySem.W.set_plain X J hs (PySem.W.osa_open (s := { s with toks := s.toks + 1 }) (r := none) X J hp ht fun b => ?_)
 obtain ⟨cd, hc, HB⟩ := PySem.W.any_some hh
 have hx : s.heap.get? x = some ⟨.ref C, some dx, .plain, #[]⟩ := I.obj
 refine aaC (aa4 (aaC (aaC (wpAny_loadPart hx (aaC (PySem.W.Looks.here (s := { s with toks := s.toks + 1 }) (PySem.W.looks_clsIn X hc) ?_))))))
 rw [HB]
 refine aa4 (a := some dx) (aaC (aa4 (aaC ?_)))
 refine wpAny_nsSet1 (s := { s with toks := s.toks + 1 }) I.ns fun h' UK CM => ?_
 obtain ⟨oD, ZV, ZW, Yi, Yj, Yk⟩ := UK.count (PySem.Within.cons name v hw)
 refine aaC (wpAny_lookBehind Yi (by rw [Yj]; exact pastItsLine_dict (abb Yk (by rw [aaL]; omega))) ?_)
 exact aa4 (h _ ⟨(CM.2 _ (Ne.symm I.ne)).trans I.obj, UK, I.ne⟩ CM)
theorem Eo {R : Result -> Shared -> Prop} {vs : List Value} {kw : List (Str × Value)} (X : K.In s.heap) (hm : PySem.W.makesIn K C = true)
   (hi : PySem.W.findIn K (.ref C) "__init__" = some (some (.ref f))) (hf : PySem.W.typeIn K (.ref f) = some (.type "function"))
   (h : codeAny (model prog w) (A.under (.builtin "type.__call__" ⟨.ref C :: vs, kw⟩)) (.call (.ref f) ⟨.ref (s.heap.objs.size + 1) :: vs, kw⟩) (PySem.W.InitBack (s.heap.objs.size + 1) R)
     { s with heap := (s.heap.push PySem.W.emptyDict).push (PySem.W.instObj C s.heap.objs.size) }) :
   codeAny (model prog w) A (.call (.ref C) ⟨vs, kw⟩) R s := by
 obtain ⟨hh, g, d, t, os⟩ := s
 exact PySem.W.make_core (PySem.W.makes_of X hm) (PySem.W.looks_findIn X hi) (fun self => PySem.W.bind_fn X self hf) (.inl rfl) h
end
def gn (f : Str) (v : V) : List (Str × V) -> List (Str × V)
 | [] => [(f, v)]
 | (g, x) :: r => if g = f then (g, v) :: r else (g, x) :: gn f v r
theorem pF (f g : Str) (v : V) : ∀ fs : List (Str × V), (gn f v fs).lookup g = if g = f then some v else fs.lookup g
 | [] => by
   show List.lookup g [(f, v)] = _
   by_cases h : g = f
   . have hb : (g == f) = true := beq_iff_eq.mpr h
     simp only [List.lookup, hb, aar h]
   . have hb : (g == f) = false := abQ.mpr h
     simp only [List.lookup, hb, aap h]
 | (k, x) :: r => by
   have ih := pF f g v r
   rw [show gn f v ((k, x) :: r) = (if k = f then (k, v) :: r else (k, x) :: gn f v r) from rfl]
   by_cases hk : k = f
   . rw [aar hk]
     by_cases h : g = k
     . have hb : (g == k) = true := beq_iff_eq.mpr h
       simp only [List.lookup, hb, aar (h.trans hk)]
     . have hb : (g == k) = false := abQ.mpr h
       simp only [List.lookup, hb, aap (fun e : g = f => h (e.trans hk.symm))]
   . rw [aap hk]
     by_cases h : g = k
     . have hb : (g == k) = true := beq_iff_eq.mpr h
       simp only [List.lookup, hb, aap (fun e : g = f => hk (h.symm.trans e))]
     . have hb : (g == k) = false := abQ.mpr h
       simp only [List.lookup, hb]
       exact ih
theorem n9 (f : Str) (v : V) : ∀ fs : List (Str × V), f ∈ (gn f v fs).map (·.1) /\ ∀ g, g ∈ fs.map (·.1) -> g ∈ (gn f v fs).map (·.1)
 | [] => ⟨by simp [gn], fun g h => by simp at h⟩
 | (k, x) :: r => by
   obtain ⟨i1, i2⟩ := n9 f v r
   rw [show gn f v ((k, x) :: r) = (if k = f then (k, v) :: r else (k, x) :: gn f v r) from rfl]
   by_cases hk : k = f
   . rw [aar hk]
     subst hk
     exact ⟨by simp, fun g h => by simpa using h⟩
   . rw [aap hk]
     refine ⟨?_, fun g h => ?_⟩
     . rw [aa3]
       exact aay _ i1
     . rw [aa3] at h ⊢
       rcases aau.mp h with e | e
       . exact aau.mpr (.inl e)
       . exact aay _ (i2 g e)
theorem pG (f : Str) (v : V) : ∀ fs : List (Str × V), (gn f v fs).length <= fs.length + 1
 | [] => by simp [gn]
 | (k, x) :: r => by
   have ih := pG f v r
   rw [show gn f v ((k, x) :: r) = (if k = f then (k, v) :: r else (k, x) :: gn f v r) from rfl]
   by_cases hk : k = f
   . rw [aar hk, aaL, aaL]; omega
   . rw [aap hk, aaL, aaL]; omega
theorem z0.some_of {v : V} {o : Option Value} (r : z0 (some v) o) : ∃ u, o = some u /\ RelV v u := by
 cases o with
 | none => exact (show False from r).elim
 | some u => exact ⟨u, rfl, r⟩
theorem CV {v : V} {u : Value} (r : RelV v u) : PySem.W.handedIn u = true := by
 cases v with
 | non => cases (show u = Value.none from r); rfl
 | bl b => cases (show u = Value.bool b from r); rfl
 | int i => obtain ⟨t, e⟩ := (show ∃ t, u = Value.int i t from r); cases e; rfl
 | str x => obtain ⟨t, e⟩ := (show ∃ t, u = Value.str x t from r); cases e; rfl
 | D0 b => obtain ⟨t, e⟩ := (show ∃ t, u = Value.bytes b t from r); cases e; rfl
 | Uv b => obtain ⟨t, e⟩ := (show ∃ t, u = Value.float b t from r); cases e; rfl
 | ref a => cases (show u = Value.ref a from r); rfl
 | ty n => cases (show u = Value.type n from r); rfl
section
variable {P : Program} {w : World} {H H' : Hp} {h h' : Heap} {a C dx : Addr} {fs X5 : List (Str × V)}
theorem Bw (cU : pS P w H h) (e : H a = some (.ins C dx fs)) : ∃ mA, CQ h a dx C mA /\ (∀ f, z0 (fs.lookup f) (mA f)) /\ PySem.Within mA (fs.map (·.1)) /\ fs.length <= 1000 /\ H dx = some (.own a) := by
 obtain ⟨d, z, ne, ob, mA, n, r, q⟩ := (show fG P w H h a (.ins C dx fs) from cU a _ e)
 exact ⟨mA, ⟨ob, n, ne⟩, r, q, z, d⟩
end
structure uO (K : PySem.W.Frag) (C : Addr) : Prop where
 pg : PySem.W.plainGet K C Str.empty = true
 hd : PySem.W.hasDictIn K C = true
 po : PySem.W.plainOver K C = true
 sa : PySem.W.findIn K (.ref C) "__setattr__" = some (some (.builtin "object.__setattr__"))
theorem uO.get {K : PySem.W.Frag} {C : Addr} (c : uO K C) (f : Str) : PySem.W.plainGet K C f = true := c.pg
def aX (K : PySem.W.Frag) (C : Addr) (f : Str) : Prop := PySem.W.findIn K (.ref C) f = some none
theorem aX.R1 {K : PySem.W.Frag} {C : Addr} {f : Str} (n : aX K C f) : PySem.W.takerIn K C f = some none := by
 unfold PySem.W.takerIn
 rw [show PySem.W.findIn K (.ref C) f = some none from n]
 rfl
section
variable {X : Cx} {pins : List (Addr × Obj)} {σ : St} {H : Hp} {s : Shared} {a C dx : Addr} {fs : List (Str × V)} {f : Str} {v : V} {A : Around} {E : Value -> Shared -> Prop}
theorem Ac {b : Bool} {Q : Value -> Shared -> Prop} (I : Inv X pins σ H s) (e : H a = some (.ins C dx fs)) (c : uO X.K C) (n : aX X.K C f) (l : fs.lookup f = some v)
   (h : ∀ u s', Inv X pins σ H s' -> RelV v u -> Q u s') : wpAny (model X.prog X.w) A (getAttr (.ref a) f b) Q E s := by
 obtain ⟨mA, O, r, _, _, _⟩ := Bw I.cU e
 obtain ⟨u, hu, ru⟩ := z0.some_of (v := v) (o := mA f) (by rw [← l]; exact r f)
 exact get_map I.yd O (c.get f) c.hd n hu (CV ru) (h u _ (I.tok _) ru)
theorem Ad {y : V} {u : Value} {Q : Unit -> Shared -> Prop} (I : Inv X pins σ H s) (e : H a = some (.ins C dx fs)) (c : uO X.K C) (n : aX X.K C f) (hl : fs.length < 1000) (ry : RelV y u)
   (h : ∀ s', Inv X pins σ (upd H a (.ins C dx (gn f y fs))) s' -> Q () s') : wpAny (model X.prog X.w) A (setAttr (.ref a) f u) Q E s := by
 obtain ⟨mA, O, r, wi, _, ho⟩ := Bw I.cU e
 have hz : (fs.map (·.1)).length <= sizeLine := by rw [aaz, aaX]; omega
 refine HP I.yd O c.sa c.po n.R1 c.hd wi hz fun h' O' sb => h _ ?_
 have hd : ∃ o, h'.get? dx = some o := let ⟨o, _, _, e', _⟩ := O'.ns; ⟨o, e'⟩
 refine I.write (x := a) (e := dx) (by rw [e]; exact True.intro) (.inr ho) (fun b q hb z => (sb.2 b hb).trans z) hd ?_
 refine ⟨by rw [au O.ne]; exact ho, ?_, O.ne, O'.obj, _, O'.ns, fun g => ?_, fun g hg => ?_⟩
 . have := pG f y fs; omega
 . show z0 ((gn f y fs).lookup g) (if g = f then some u else mA g)
   rw [pF]
   by_cases q : g = f
   . rw [aar q, aar q]; exact ry
   . rw [aap q, aap q]; exact r g
 . by_cases q : g = f
   . rw [q]; exact (n9 f y fs).1
   . refine (n9 f y fs).2 g (wi g fun z => hg ?_)
     show (if g = f then some u else mA g) = none
     rw [aap q]; exact z
theorem Inv.made (I : Inv X pins σ H s) : Inv X pins σ (upd (upd H s.heap.objs.size (.own (s.heap.objs.size + 1))) (s.heap.objs.size + 1) (.ins C s.heap.objs.size []))
   { s with heap := (s.heap.push PySem.W.emptyDict).push (PySem.W.instObj C s.heap.objs.size) } := by
 have e1 : (s.heap.push PySem.W.emptyDict).get? s.heap.objs.size = some PySem.W.emptyDict := aaR s.heap rfl
 have e2 : ((s.heap.push PySem.W.emptyDict).push (PySem.W.instObj C s.heap.objs.size)).get? (s.heap.objs.size + 1) = some (PySem.W.instObj C s.heap.objs.size) := by
   have := aaR (s.heap.push PySem.W.emptyDict) (o := PySem.W.instObj C s.heap.objs.size) rfl
   rwa [Heap.size_push] at this
 have e3 : (s.heap.push PySem.W.emptyDict).Ns s.heap.objs.size (fun _ => none) := ⟨PySem.W.emptyDict, #[], _, e1, rfl, (fun e he => absurd he (by simp)), fun _ => rfl⟩
 have I1 := I.laid (a := s.heap.objs.size) (o := .own (s.heap.objs.size + 1)) (h' := s.heap.push PySem.W.emptyDict) (t' := s.toks) (fun b u q => aaA _ q) (aas _) ⟨_, e1⟩
 refine I1.laid (a := s.heap.objs.size + 1) (o := .ins C s.heap.objs.size []) (t' := s.toks) (fun b u q => aaA _ q) (Nat.le_of_eq (Heap.size_push _ _)) ?_
 have ne : s.heap.objs.size ≠ s.heap.objs.size + 1 := aaV (Nat.lt_succ_self _)
 refine ⟨by rw [au ne, aL], aaY _, ne, e2, fun _ => none, (Heap.Ns1.of_empty e3).at fun o q => aaA _ q, fun _ => True.intro, fun y hy => absurd rfl hy⟩
theorem HQ {prog : Program} {w : World} {env : Env} {e : Expr} {f : Str} {pos : Pos} {s : Shared} {Q : Value -> Shared -> Prop} (hb : attributeBase e f env (eval e env) = eval e env)
   (h : wpAny (model prog w) A (eval e env) (fun o s₁ => wpAny (model prog w) A (getAttr o f true) Q E s₁) E s) : wpAny (model prog w) A (eval (.Attribute e f pos) env) Q E s :=
 Attribute_any_ h (by rw [arm_eval_Attribute, hb])
end
def Vw (K : PySem.W.Frag) (ta : TE) (f : Str) : TE := fun σ H Q => ta σ H fun x H1 => ∃ a C dx fs v, x = .ref a /\ H1 a = some (.ins C dx fs) /\ uO K C /\ aX K C f /\ fs.lookup f = some v /\ Q v H1
def Vx (K : PySem.W.Frag) (ta tv : TE) (f : Str) : TS := fun D σ H => tv σ H fun y H1 => ta σ H1 fun x H2 => ∃ a C dx fs, x = .ref a /\ H2 a = some (.ins C dx fs) /\ uO K C /\ aX K C f /\ fs.length < 1000 ∧
 D.nx σ (upd H2 a (.ins C dx (gn f y fs)))
section
variable {X : Cx} {o e value : Expr} {f : Str} {pos pos' Vy : Pos} {ta tv : TE}
theorem Ep (he : PE X e ta) (hb : attributeBase e f X.env (eval e X.env) = eval e X.env) : PE X (.Attribute e f pos) (Vw X.K ta f) := by
 intro pins s σ H Q I h
 refine HQ hb (c9 (he pins s σ H _ I h) fun u s1 ⟨x, H1, I1, rx, a, C, dx, fs, v, ex, ea, c, n, l, q⟩ => ?_)
 subst ex
 obtain rfl : u = Value.ref a := rx
 exact Ac I1 ea c n l fun u' s2 I2 ru => ⟨v, H1, I2, ru, q⟩
theorem NQ (ha : PE X o ta) (hv : PE X value tv) (hs : swapsWith value (some (.Attribute o f pos')) pos.line X.env = pure false) : PS X (.Assign [.Attribute o f pos'] value pos) (Vx X.K ta tv f) := by
 intro pins s σ H D I h
 refine plainObj_wpAny_Assign_Attribute (c9 (hv pins s σ H _ I h) fun u s1 ⟨y, H1, I1, ry, q⟩ => c9 (ha pins s1 σ H1 _ I1 q) fun ov s2 ⟨x, H2, I2, rx, a, C, dx, fs, ex, ea, c, n, l, q2⟩ => ?_) hs
 subst ex
 obtain rfl : ov = Value.ref a := rx
 exact Ad I2 ea c n l ry fun s3 I3 => ⟨σ, _, I3, q2⟩
end
section
variable {X : Cx} {pins : List (Addr × Obj)} {σ : St} {H : Hp} {s : Shared} {A : Around} {E : Value -> Shared -> Prop} {Q : Value -> Shared -> Prop} {c : Value} {b : Bool}
end
structure dF (k : Nat) (A : Around) : Prop where
 hd : A.handled = none
 dp : A.depth + 3 * k + 5 < recursionLimit
 un : A.units + 16 * k + 200 < cLine
theorem dF.mono {j k : Nat} {A : Around} (r : dF k A) (h : j <= k) : dF j A := ⟨r.hd, by have := r.dp; omega, by have := r.un; omega⟩
theorem dF.deeper {k : Nat} {A : Around} (r : dF (k + 1) A) (env : Env) : dF k (A.deeper env) :=
 ⟨r.hd, by have := r.dp; show A.depth + 1 + 3 * k + 5 < _; omega, by have := r.un; show A.units + 3 + 16 * k + 200 < _; omega⟩
theorem Ae {A : Around} {C : Addr} {us : List Value} {kw : List (Str × Value)} : (A.under (.builtin "type.__call__" ⟨.ref C :: us, kw⟩)).depth = A.depth + 1 := by
 first | rfl | simp [Around.under, Code.weight, Code.isCreation, Code.isGuard, Code.isCaller, Code.frames, Code.isFrame, guardIds]
theorem Af {A : Around} {C : Addr} {us : List Value} {kw : List (Str × Value)} : (A.under (.builtin "type.__call__" ⟨.ref C :: us, kw⟩)).units = A.units + 1 := by
 first | rfl | simp [Around.under, Code.cUnits, Code.frames, Code.isFrame]
theorem dF.make {k : Nat} {A : Around} (r : dF (k + 1) A) (C : Addr) (us : List Value) (kw : List (Str × Value)) : dF k (A.under (.builtin "type.__call__" ⟨.ref C :: us, kw⟩)) :=
 ⟨r.hd, by have := r.dp; rw [Ae]; omega, by have := r.un; rw [Af]; omega⟩
theorem dF.depth {k : Nat} {A : Around} (r : dF k A) : A.depth < recursionLimit := by have := r.dp; omega
theorem dF.units {k : Nat} {A : Around} (r : dF k A) : A.units + 64 < cLine := by have := r.un; omega
def Er : TA := fun _ H Q => Q [] H
def By (ta : TE) (tr : TA) : TA := fun σ H Q => ta σ H fun x H1 => tr σ H1 fun xs H2 => Q (x :: xs) H2
section
variable {X : Cx} {e : Expr} {es : List Expr} {te : TE} {t : TA} {pos : Pos}
theorem eU : PA X [] Er := fun _ _ _ _ H Q I h => Calls.spliced_nil ⟨[], H, I, .nil, h⟩
theorem cz (ha : PE X e te) (hr : PA X es t) (hs : starEach (e :: es) X.env = (false, eval e X.env) :: starEach es X.env := by rfl) : PA X (e :: es) (By te t) := by
 intro pos pins s σ H Q I h
 rw [hs]
 show wpAny _ _ (spliced ((false, eval e X.env) :: backTo pos (starEach es X.env))) _ _ s
 refine Calls.spliced_cons (c9 (ha pins s σ H _ I h) fun u s1 ⟨x, H1, I1, r1, q1⟩ => ?_)
 exact c9 (hr pos pins s1 σ H1 _ I1 q1) fun us s2 ⟨xs, H2, I2, r2, q2⟩ => ⟨x :: xs, H2, I2, .cons r1 r2, q2⟩
def Vz (t : TA) : TE := fun σ H Q => t σ H fun xs H1 => xs.length <= sizeLine /\ ∀ p, H1 p = none -> Q (.ref p) (upd H1 p (.tup xs))
def VA (t : TA) : TE := fun σ H Q => t σ H fun xs H1 => xs.length <= sizeLine /\ ∀ p, H1 p = none -> Q (.ref p) (upd H1 p (.lst xs))
theorem NR {x1} (h : PA X es t) : PE X (.Tuple es x1 pos) (Vz t) := by
 intro pins s σ H Q I hq
 refine wpAny_Tuple_spliced (c9 (h pos pins s σ H _ I hq) fun us s1 ⟨xs, H1, I1, r, z, q⟩ => ⟨by rw [← r.length]; exact z, ?_⟩)
 have hf : H1 s1.heap.objs.size = none := I1.cU.fresh (aas _)
 refine ⟨.ref s1.heap.objs.size, upd H1 s1.heap.objs.size (.tup xs), I1.laid (t' := s1.toks) (fun b u e => aaA _ e) (aas _) ?_, rfl, q _ hf⟩
 exact ⟨z, us, r, ⟨_, aaR _ rfl, rfl, _, rfl⟩⟩
theorem NS (h : PA X es t) : PE X (.List es pos) (VA t) := by
 intro pins s σ H Q I hq
 refine wpAny_List_spliced (c9 (h pos pins s σ H _ I hq) fun us s1 ⟨xs, H1, I1, r, z, q⟩ => ⟨by rw [← r.length]; exact z, ?_⟩)
 have hf : H1 s1.heap.objs.size = none := I1.cU.fresh (aas _)
 refine ⟨.ref s1.heap.objs.size, upd H1 s1.heap.objs.size (.lst xs), I1.laid (t' := s1.toks) (fun b u e => aaA _ e) (aas _) ?_, rfl, q _ hf⟩
 exact ⟨z, us, 0, r, aaR _ rfl⟩
end
abbrev Sp := List V -> Hp -> VK -> XK -> Prop
abbrev Es := List Env -> Hp -> Shared -> XK -> Value -> Shared -> Prop
structure Ag (P : Program) (w : World) (K : PySem.W.Frag) (mg : Str -> Option Value) (base : Heap) (A : Around) (outer : List Env) (s : Shared) (H : Hp) : Prop where
 frames : A.frames = some outer
 mod : Mod K mg base
 bs : ∀ b o, base.get? b = some o -> s.heap.get? b = some o /\ H b = none
 Hr : base.objs.size <= s.heap.objs.size
 pT : s.heap.FunFrames base outer
 M0 : ∀ b ∈ D3 outer, H b = none
 cU : pS P w H s.heap
 bare : AllBare s.gens
def CE (outer : List Env) (P : Program) (w : World) (H : Hp) (s : Shared) (Q : VK) (u : Value) (s' : Shared) : Prop :=
 ∃ v H', s'.os = s.os /\ AllBare s'.gens /\ Un (D3 outer) [] H H' s.heap s'.heap /\ pS P w H' s'.heap /\ RelV v u /\ Q v H'
def CR (CX : Es) (outer : List Env) (P : Program) (w : World) (H : Hp) (s : Shared) (Q : VK) (E : XK) (r : Result) (s' : Shared) : Prop :=
 match r with
 | .ok (.ret u) => CE outer P w H s Q u s'
 | .ok _ => False
 | .error e => CX outer H s E e s'
structure bR (P : Program) (w : World) (K : PySem.W.Frag) (mg : Str -> Option Value) (base : Heap) (CX : Es) (k : Nat) (f : Addr) (fd : FuncData) (ps : List Str) (sp : Sp) : Prop where
 len : ∀ vs H Q E, sp vs H Q E -> vs.length = ps.length
 run : ∀ (A : Around) (outer : List Env) (s : Shared) (H : Hp) (args : Args) (us : List Value) (vs : List V) (Q : VK) (E : XK), dF k A -> Ag P w K mg base A outer s H -> BindsTo s fd args (ps.zip us) -> Vals vs us -> sp vs H Q E →
   codeAny (model P w) A (.call (.ref f) args) (CR CX outer P w H s Q E) s
theorem bR.imp {P : Program} {w : World} {K : PySem.W.Frag} {mg : Str -> Option Value} {base : Heap} {CX : Es} {k : Nat} {f : Addr} {fd : FuncData} {ps : List Str} {sp Xd : Sp} (F : bR P w K mg base CX k f fd ps sp)
   (h : ∀ vs H Q E, Xd vs H Q E -> sp vs H Q E) : bR P w K mg base CX k f fd ps Xd :=
 ⟨fun vs H Q E q => F.len vs H Q E (h _ _ _ _ q), fun A outer s H args us vs Q E hr he hb hv hs => F.run A outer s H args us vs Q E hr he hb hv (h _ _ _ _ hs)⟩
theorem Ag.make {P : Program} {w : World} {K : PySem.W.Frag} {mg : Str -> Option Value} {base : Heap} {A : Around} {outer : List Env} {s : Shared} {H : Hp} (e : Ag P w K mg base A outer s H) (C : Addr) (us : List Value) (kw : List (Str × Value)) :
   Ag P w K mg base (A.under (.builtin "type.__call__" ⟨.ref C :: us, kw⟩)) outer s H := ⟨by first | exact e.frames | (simpa [Around.under, Code.envs, Code.isFrame, pushEnvs] using e.frames), e.mod, e.bs, e.Hr, e.pT, e.M0, e.cU, e.bare⟩
section
variable {X : Cx} {pins : List (Addr × Obj)} {σ : St} {H : Hp} {s s' : Shared}
theorem Inv.R3 (I : Inv X pins σ H s) : Ag X.prog X.w X.K X.mg X.base X.A X.stack s H :=
 ⟨I.ok.frames, I.ok.mod, I.bs, abb I.ok.Hr I.sz, I.stack, I.uL, I.cU, I.bare⟩
theorem Inv.after {Q : VK} {u : Value} (I : Inv X pins σ H s) (h : CE X.stack X.prog X.w H s Q u s') : EP X pins σ Q u s' := by
 obtain ⟨v, H', os, bare, un, cU, r, q⟩ := h
 obtain ⟨hh, g, d, t, Q6⟩ := s'
 obtain rfl : Q6 = s.os := os
 exact ⟨v, H', I.call (h' := hh) (g' := g) (d' := d) (t' := t) (ch := []) un cU bare (fun b z => absurd z (by simp)), r, q⟩
end
def Mi (sp : Sp) (ym : List V) (E : XK) (t : TA) : TE := fun σ H Q => t σ H fun vs H1 => sp (vs ++ ym) H1 Q E
def R4 (C : Addr) (sp : Sp) (ym : List V) (E : XK) (t : TA) : TE := fun σ H Q => t σ H fun vs H1 => ∀ x dx, H1 x = none -> H1 dx = none -> dx ≠ x →
 sp (.ref x :: (vs ++ ym)) (upd (upd H1 dx (.own x)) x (.ins C dx [])) (fun v H2 => v = .non /\ Q (.ref x) H2) E
def Binds (K : PySem.W.Frag) (fd : FuncData) (ps : List Str) (ds : List Value) : Prop :=
 ∀ (s : Shared) (us : List Value), K.In s.heap -> (us ++ ds).length = ps.length -> BindsTo s fd ⟨us, []⟩ (ps.zip (us ++ ds))
theorem Binds.all {K : PySem.W.Frag} {fd : FuncData} {ps : List Str} (h : ∀ us : List Value, us.length = ps.length -> bindArgs fd ⟨us, []⟩ = pure (ps.zip us)) : Binds K fd ps [] := fun s us _ hl => by
 rw [aa1] at hl ⊢
 exact .of_eq (h us hl)
def Passes (CX : Es) (X : Cx) (E : XK) : Prop := ∀ (pins : List (Addr × Obj)) (σ : St) (H : Hp) (s : Shared) (e : Value) (s' : Shared), Inv X pins σ H s -> CX X.stack H s E e s' -> X.xe e s'
section
variable {X : Cx} {CX : Es} {k : Nat} {f C : Addr} {fd : FuncData} {ps : List Str} {sp : Sp} {ym : List V} {ds : List Value} {E : XK} {x m : Str} {p pos apos : Pos} {e o : Expr} {es : List Expr} {ta : TE} {t : TA}
theorem Et {pins : List (Addr × Obj)} {σ : St} {H : Hp} {s : Shared} {Q : VK} {us : List Value} {vs : List V} (F : bR X.prog X.w X.K X.mg X.base CX k f fd ps sp) (hr : dF k X.A) (hb : Binds X.K fd ps ds) (hd : Vals ym ds) (hx : Passes CX X E)
   (I : Inv X pins σ H s) (r : Vals vs us) (h : sp (vs ++ ym) H Q E) : wpAny (model X.prog X.w) X.A (call (.ref f) us) (EP X pins σ Q) X.xe s := by
 have r2 : Vals (vs ++ ym) (us ++ ds) := r.append hd
 have hl : (us ++ ds).length = ps.length := by rw [← r2.length]; exact F.len _ _ _ _ h
 refine wpAny_call (codeAny_mono (F.run X.A X.stack s H ⟨us, []⟩ (us ++ ds) (vs ++ ym) Q E hr I.R3 (hb s us I.yd hl) r2 h) fun r s' hq => ?_)
 cases r with
 | error e => exact hx pins σ H s e s' I hq
 | ok fl =>
   cases fl with
   | ret u => exact I.after hq
   | next => exact False.elim hq
   | brk => exact False.elim hq
   | cont => exact False.elim hq
theorem HR (F : bR X.prog X.w X.K X.mg X.base CX k f fd ps sp) (hr : dF k X.A) (hg : Gl X x) (hm : X.mg x = some (.ref f)) (hk : PySem.W.keepIn X.K (.ref f) = true) (hb : Binds X.K fd ps ds) (hd : Vals ym ds) (hx : Passes CX X E)
   (ha : PA X (e :: es) t) (tE : (x == ("__debug__" : Str)) = false := by decide) (he : starEach (e :: es) X.env = (false, eval e X.env) :: starEach es X.env := by rfl) (tF : (backTo pos (starEach es X.env)).any (·.1) = false := by rfl) :
   PE X (.Call (.Name x p) (e :: es) [] pos) (Mi sp ym E t) := by
 intro pins s σ H Q I h
 refine abJ (qb I hg hm ?_ tE)
 refine PySem.W.callWith_K (h₀ := X.base) I.ok.mod.Uy hk (c9 (ha pos pins s σ H _ I h) fun us s1 ⟨vs, H1, I1, r, q⟩ => ⟨I1.yd, ?_⟩) he tF
 exact Et F hr hb hd hx I1 r q
theorem Eu (F : bR X.prog X.w X.K X.mg X.base CX k f fd ps sp) (hr : dF k X.A) (hg : Gl X x) (hm : X.mg x = some (.ref f)) (hk : PySem.W.keepIn X.K (.ref f) = true) (hb : Binds X.K fd ps ds) (hd : Vals ym ds) (hx : Passes CX X E)
   (tE : (x == ("__debug__" : Str)) = false := by decide) : PE X (.Call (.Name x p) [] [] pos) (Mi sp ym E Er) := by
 intro pins s σ H Q I h
 refine abJ (qb I hg hm ?_ tE)
 exact PySem.W.callWith_K0 I.yd hk (Et (us := []) F hr hb hd hx I .nil h)
structure Mk (K : PySem.W.Frag) (C f : Addr) : Prop where
 makes : PySem.W.makesIn K C = true
 init : PySem.W.findIn K (.ref C) "__init__" = some (some (.ref f))
 fn : PySem.W.isFn K (.ref f) = true
 kp : PySem.W.keepIn K (.ref C) = true
theorem Ew {pins : List (Addr × Obj)} {σ : St} {H : Hp} {s : Shared} {Q : VK} {us : List Value} {vs : List V} (M : Mk X.K C f) (F : bR X.prog X.w X.K X.mg X.base CX k f fd ps sp) (hr : dF (k + 1) X.A) (hb : Binds X.K fd ps ds) (hd : Vals ym ds)
   (hx : Passes CX X E) (I : Inv X pins σ H s) (r : Vals vs us)
   (h : ∀ x dx, H x = none -> H dx = none -> dx ≠ x -> sp (.ref x :: (vs ++ ym)) (upd (upd H dx (.own x)) x (.ins C dx [])) (fun v H2 => v = .non /\ Q (.ref x) H2) E) :
   wpAny (model X.prog X.w) X.A (call (.ref C) us) (EP X pins σ Q) X.xe s := by
 have hq := h (s.heap.objs.size + 1) s.heap.objs.size (I.cU.fresh (ab5 _)) (I.cU.fresh (aas _)) (aaV (Nat.lt_succ_self _))
 have I2 := Inv.made (C := C) I
 have r2 : Vals (V.ref (s.heap.objs.size + 1) :: (vs ++ ym)) (Value.ref (s.heap.objs.size + 1) :: (us ++ ds)) := .cons rfl (r.append hd)
 have hl : (Value.ref (s.heap.objs.size + 1) :: us ++ ds).length = ps.length := by
   have e := r2.length
   rw [F.len _ _ _ _ hq] at e
   exact e.symm
 refine wpAny_call (Eo (f := f) I.yd M.makes M.init (beq_iff_eq.mp M.fn) (codeAny_mono (F.run _ X.stack _ _ ⟨Value.ref (s.heap.objs.size + 1) :: us, []⟩ (Value.ref (s.heap.objs.size + 1) :: (us ++ ds)) _ _ E (hr.make C us [])
   (I2.R3.make C us []) (hb _ (Value.ref (s.heap.objs.size + 1) :: us) I2.yd hl) r2 hq) fun r s' R5 => ?_))
 cases r with
 | error e => exact hx pins σ _ _ e s' I2 R5
 | ok fl =>
   cases fl with
   | ret u =>
     obtain ⟨v, H', I3, rv, ev, q3⟩ := I2.after R5
     subst ev
     exact ⟨rv, ⟨V.ref (s.heap.objs.size + 1), H', I3, rfl, q3⟩⟩
   | next => exact False.elim R5
   | brk => exact False.elim R5
   | cont => exact False.elim R5
theorem BD (M : Mk X.K C f) (F : bR X.prog X.w X.K X.mg X.base CX k f fd ps sp) (hr : dF (k + 1) X.A) (hg : Gl X x) (hm : X.mg x = some (.ref C)) (hb : Binds X.K fd ps ds) (hd : Vals ym ds) (hx : Passes CX X E)
   (ha : PA X (e :: es) t) (tE : (x == ("__debug__" : Str)) = false := by decide) (he : starEach (e :: es) X.env = (false, eval e X.env) :: starEach es X.env := by rfl) (tF : (backTo pos (starEach es X.env)).any (·.1) = false := by rfl) :
   PE X (.Call (.Name x p) (e :: es) [] pos) (R4 C sp ym E t) := by
 intro pins s σ H Q I h
 refine abJ (qb I hg hm ?_ tE)
 refine PySem.W.callWith_K (h₀ := X.base) I.ok.mod.Uy M.kp (c9 (ha pos pins s σ H _ I h) fun us s1 ⟨vs, H1, I1, r, q⟩ => ⟨I1.yd, ?_⟩) he tF
 exact Ew M F hr hb hd hx I1 r q
end
def PK (X : Cx) (kws : List Keyword) (t : TA) : Prop :=
 ∀ (pos : Pos) (pins : List (Addr × Obj)) (s : Shared) (σ : St) (H : Hp) (Q : List V -> Hp -> Prop), Inv X pins σ H s -> t σ H Q -> wpAny (model X.prog X.w) X.A (evalAll ((backToKw pos (keywordEach kws X.env)).map (·.2))) (AP X pins σ Q) X.xe s
section
variable {X : Cx} {CX : Es} {k : Nat} {f C : Addr} {fd : FuncData} {ps ks : List Str} {sp : Sp} {E : XK} {x m : Str} {p pos apos VB : Pos} {e o : Expr} {es : List Expr} {kws : List Keyword} {te ta : TE} {t tk : TA} {nm : Option Str}
theorem NT : PK X [] Er := fun _ _ _ _ H Q I h => wpAny_evalAll_nil ⟨[], H, I, .nil, h⟩
theorem HS (ha : PE X e te) (hr : PK X kws t) : PK X (⟨nm, e, VB⟩ :: kws) (By te t) := by
 intro pos pins s σ H Q I h
 show wpAny _ _ (evalAll ((do let v ← eval e X.env; standAt pos; pure v) :: (backToKw pos (keywordEach kws X.env)).map (·.2))) _ _ s
 refine wpAny_evalAll_cons (aaC (c9 (ha pins s σ H _ I h) fun u s1 ⟨x, H1, I1, r1, q1⟩ => aaC (wpAny_standAt (aa4 ?_))))
 exact c9 (hr pos pins s1 σ H1 _ I1 q1) fun us s2 ⟨xs, H2, I2, r2, q2⟩ => ⟨x :: xs, H2, I2, .cons r1 r2, q2⟩
variable {g : List Value -> List Value -> List Value} {gV : List V -> List V -> List V}
end
structure aP (N P : List Str) (sc : Scope) : Prop where
 kind : sc.kind = .function
 co : sc.isCoroutine = false
 gen : sc.isGenerator = false
 nd : N.Nodup
 pre : N.take P.length = P
 par : ∀ x ∈ P, sc.names.lookup x = some .local \/ sc.names.lookup x = some .cell
 NV : ∀ y ∈ sc.names, y.2 ≠ .free
theorem tV {kindOf : Str -> Option NameKind} {x : Str} : ∀ {binds : List (Str × Value)} {m : Str -> Option Value}, (∀ v, (x, v) ∉ binds) -> bindL kindOf binds m x = m x
 | [], _, _ => rfl
 | (n, v) :: r, m, h => by
   unfold bindL
   rw [tV fun w hw => h w (aay _ hw)]
   split
   . have : x ≠ n := by rintro rfl; exact h v aax
     simp [this]
   . rfl
theorem tW {kindOf : Str -> Option NameKind} {x : Str} : ∀ {binds : List (Str × Value)} {m : Str -> Option Value}, (∀ v, (x, v) ∉ binds) -> bindC kindOf binds m x = m x
 | [], _, _ => rfl
 | (n, v) :: r, m, h => by
   unfold bindC
   rw [tW fun w hw => h w (aay _ hw)]
   split
   . rfl
   . have : x ≠ n := by rintro rfl; exact h v aax
     simp [this]
theorem tX {kindOf : Str -> Option NameKind} {x : Str} {v : Value} : ∀ {P : List Str} {vs : List Value} {i : Nat} {m : Str -> Option Value}, P.Nodup -> P[i]? = some x -> vs[i]? = some v -> kindOf x = some .local →
   bindL kindOf (P.zip vs) m x = some v
 | [], _, _, _, _, h, _, _ => by simp at h
 | _ :: _, [], _, _, _, _, h, _ => by simp at h
 | p :: P, w :: vs, 0, m, nd, h1, h2, hk => by
   simp at h1 h2; subst h1; subst h2
   show bindL kindOf ((p, w) :: P.zip vs) m p = _
   unfold bindL
   rw [tV fun v hv => (abA.mp nd).1 (List.of_mem_zip hv).1, aar hk]
   simp
 | p :: P, w :: vs, i + 1, m, nd, h1, h2, hk => by
   show bindL kindOf ((p, w) :: P.zip vs) m x = _
   unfold bindL
   exact tX (i := i) (List.nodup_cons.mp nd).2 (by simpa using h1) (by simpa using h2) hk
theorem tY {kindOf : Str -> Option NameKind} {x : Str} {v : Value} : ∀ {P : List Str} {vs : List Value} {i : Nat} {m : Str -> Option Value}, P.Nodup -> P[i]? = some x -> vs[i]? = some v -> kindOf x ≠ some .local →
   bindC kindOf (P.zip vs) m x = some v
 | [], _, _, _, _, h, _, _ => by simp at h
 | _ :: _, [], _, _, _, _, h, _ => by simp at h
 | p :: P, w :: vs, 0, m, nd, h1, h2, hk => by
   simp at h1 h2; subst h1; subst h2
   show bindC kindOf ((p, w) :: P.zip vs) m p = _
   unfold bindC
   rw [tW fun v hv => (abA.mp nd).1 (List.of_mem_zip hv).1, aap hk]
   simp
 | p :: P, w :: vs, i + 1, m, nd, h1, h2, hk => by
   show bindC kindOf ((p, w) :: P.zip vs) m x = _
   unfold bindC
   exact tY (i := i) (List.nodup_cons.mp nd).2 (by simpa using h1) (by simpa using h2) hk
def start (N : List Str) (vs : List V) : St := vs.map some ++ List.replicate (N.length - vs.length) none
def qM (CX : Es) (P : Program) (w : World) (K : PySem.W.Frag) (mg : Str -> Option Value) (base : Heap) (N : List Str) (qual : Str) (scope : Scope) (f : Addr) (cd : Value) (A : Around) (outer : List Env) (s : Shared) (H : Hp) (E : XK) : Cx where
 prog := P
 w := w
 K := K
 mg := mg
 base := base
 A := A.deeper (envOfC qual scope s.heap.objs.size f cd)
 N := N
 s₀ := s
 H₀ := H
 env := envOfC qual scope s.heap.objs.size f cd
 outer := outer
 stack := envOfC qual scope s.heap.objs.size f cd :: outer
 ex := []
 calm := true
 fn := fun _ => true
 pn := []
 xe := fun e s' => wpAny (model P w) (A.deeper (envOfC qual scope s.heap.objs.size f cd)) (leaving (envOfC qual scope s.heap.objs.size f cd) e) (fun _ Q7 => CX outer H s E e Q7) (fun e' Q7 => CX outer H s E e' Q7) s'
theorem yo {sc : Scope} {n : Nat} {x : Str} (h : sc.names.lookup x = some .cell) : ∃ c, (cellsFrom n sc.names []).lookup x = some c := by
 have q := PySem.W.cellsFrom_some sc.names n [] (.inl h)
 exact Option.isSome_iff_exists.mp q
theorem CW {CX : Es} {P : Program} {w : World} {K : PySem.W.Frag} {mg : Str -> Option Value} {base : Heap} {N ps : List Str} {qual : Str} {scope : Scope} {f : Addr} {cd : Value} {A : Around} {outer : List Env} {s s1 : Shared} {H : Hp} {E : XK} {us : List Value} {vs : List V}
   (S : aP N ps scope) (hd : A.handled = none) (e0 : Ag P w K mg base A outer s H) (hl : vs.length = ps.length) (r : Vals vs us)
   (x : InCallC s s.heap.objs.size (bindL (envOfC qual scope s.heap.objs.size f cd).kindOf (ps.zip us) fun _ => none) (cellsFrom (s.heap.objs.size + 1) scope.names []) (bindC (envOfC qual scope s.heap.objs.size f cd).kindOf (ps.zip us) fun _ => none) s1) :
   Inv (qM CX P w K mg base N qual scope f cd A outer s H E) [] (start N vs) H s1 := by
 have tF : ps.length <= N.length := by have := congrArg List.length S.pre; rw [List.length_take] at this; omega
 obtain ⟨h1, tk, rfl, hk⟩ := x.done
 have Q8 : ∀ b : Addr, b ∉ (qM CX P w K mg base N qual scope f cd A outer s H E).ex := fun b z => absurd (show b ∈ ([] : List Addr) from z) (by simp)
 refine ⟨⟨e0.mod, S.kind, rfl, rfl, aas _, fun y z c h1 h2 => ?_, fun y hy => ?_, fun y c _ h => ?_, fun _ => hd, Around.frames_deeper e0.frames, .inr ⟨rfl, rfl⟩, fun b z => absurd z (Q8 b), e0.bs, e0.Hr, fun b _ _ => Q8 b, fun b z => absurd z (Q8 b), e0.pT, e0.M0⟩,
   rfl, e0.bare, Un.kept hk, ⟨_, x.toInCall.ns, fun i y v h1 h2 h3 => ?_⟩, fun y c h => ⟨_, x.cell y c h⟩, e0.cU.fresh (aas _), fun y c h => ?_, fun p hp => absurd (show p ∈ ([] : List (Addr × Obj)) from hp) (by simp), e0.cU.kept hk, ?_⟩
 . exact name_of_addr x.apart (abj h1) (abj h2)
 . have hy : scope.names.lookup y = some .cell \/ scope.names.lookup y = some .free := hy
   rcases hy with hy | hy
   . exact yo hy
   . exact absurd rfl (S.NV _ (abj hy))
 . exact abp (x.above y c (abj h))
 . have hi : i < vs.length := by
     unfold start at h2
     by_cases hi : i < vs.length
     . exact hi
     . rw [List.getElem?_append_right (by simpa using hi)] at h2
       rw [List.getElem?_replicate] at h2
       split at h2 <;> cases h2
   have ha : vs[i]? = some v := by
     unfold start at h2
     rw [List.getElem?_append_left (by simpa using hi), List.getElem?_map] at h2
     cases e : vs[i]? with
     | none => rw [e] at h2; cases h2
     | some a => rw [e] at h2; cases h2; rfl
   obtain ⟨u, hu, rv⟩ := r.get ha
   have hp : ps[i]? = some y := by
     rw [← S.pre, List.getElem?_take_of_lt (by omega)]; exact h1
   have Xe : ps.Nodup := by rw [← S.pre]; exact S.nd.sublist (List.take_sublist _ _)
   refine ⟨u, rv, ?_⟩
   rcases S.par y (aa5 hp) with k | k
   . exact .inl ⟨k, tX Xe hp hu k⟩
   . obtain ⟨c, e⟩ := yo (n := s.heap.objs.size + 1) k
     refine .inr ⟨.inl k, c, e, ?_⟩
     have q := x.cell y c e
     rw [tY Xe hp hu (by show scope.names.lookup y ≠ _; rw [k]; decide)] at q
     exact q
 . exact e0.cU.fresh (abp (x.above y c (abj h)))
 . unfold start
   show _ = N.length
   rw [aaM, aaz, aby]
   omega
theorem Mj {CX : Es} {P : Program} {w : World} {K : PySem.W.Frag} {mg : Str -> Option Value} {base : Heap} {k : Nat} {f : Addr} {name qual : Str} {params : Arguments} {body : List Stmt} {scope : Scope} {dV kV doc pm c6 ct oc : Value} {an od : Option Addr}
   {D4 : Array (Option Value)} {N ps : List Str} {sp : Sp} (lk : K.lookup f = some ⟨oc, od, .func (PySem.W.fnOf name qual params body scope dV kV doc pm an c6 ct), D4⟩) (gI : PySem.W.codeIn K c6 qual = true) (S : aP N ps scope)
   (len : ∀ vs H Q E, sp vs H Q E -> vs.length = ps.length)
   (yp : ∀ (A : Around) (outer : List Env) (s : Shared) (H : Hp) (vs : List V) (Q : VK) (E : XK), dF k (A.deeper (envOfC qual scope s.heap.objs.size f c6)) -> sp vs H Q E →
     ∃ t, z6 (qM CX P w K mg base N qual scope f c6 A outer s H E) body t /\ t { nx := fun _ H' => Q .non H', rt := Q } (start N vs) H) :
   bR P w K mg base CX (k + 1) f (PySem.W.fnOf name qual params body scope dV kV doc pm an c6 ct) ps sp := by
 refine ⟨len, fun A outer s H args us vs Q E hr e0 hb r Ht => ?_⟩
 have hl := len _ _ _ _ Ht
 have KX : K.In s.heap := e0.mod.Uy.keeps fun b o e => (e0.bs b o e).1
 have lim : s.heap.NoLimit := e0.mod.nolimit.keeps fun b o e => (e0.bs b o e).1
 have qN : ∀ y ∈ ps.zip us, scope.names.lookup y.1 = some .local \/ (scope.names.lookup y.1 = some .cell /\ ((cellsFrom (s.heap.objs.size + 1) scope.names []).lookup y.1).isSome = true) := fun ⟨n, v⟩ hy => by
   rcases S.par n (List.of_mem_zip hy).1 with q | q
   . exact .inl q
   . exact .inr ⟨q, PySem.W.cellsFrom_some _ _ _ (.inl q)⟩
 refine codeAny_call_function hr.depth (KX _ _ lk) rfl S.co S.gen rfl (PySem.W.codeRec_of KX gI) (hb _ _ _ _ ?_)
 refine wpAny_newFunctionEnv_cells S.kind qN fun env he s1 x => ?_
 subst he
 refine ⟨lim.keeps x.toInCall.keep, codeAny_func ?_⟩
 obtain ⟨t, ht, hq⟩ := yp A outer s H vs Q E (hr.deeper _) Ht
 have I : Inv (qM CX P w K mg base N qual scope f c6 A outer s H E) [] (start N vs) H s1 := CW S hr.hd e0 hl r x
 refine abw (ht [] s1 (start N vs) H _ I hq) (fun fl s' hs => ?_) fun e s' hs => hs
 have fin : ∀ {σ' : St} {H' : Hp} {v : V} {u : Value}, Inv (qM CX P w K mg base N qual scope f c6 A outer s H E) [] σ' H' s' -> RelV v u -> Q v H' -> CE outer P w H s Q u s' :=
   fun {σ' H' v u} J rv q => ⟨v, H', J.os, J.bare, J.base, J.cU, rv, q⟩
 cases fl with
 | ret u =>
   obtain ⟨v, σ', H', J, rv, q⟩ := hs
   exact fin J rv q
 | next =>
   obtain ⟨σ', H', J, q⟩ := hs
   exact fin (v := V.non) (u := Value.none) J rfl q
 | brk =>
   obtain ⟨_, _, _, q⟩ := hs
   exact False.elim q
 | cont =>
   obtain ⟨_, _, _, q⟩ := hs
   exact False.elim q
section
variable {X : Cx} {x : Str} {p pos : Pos} {e : Expr} {es : List Expr} {t : TA} {id T : String} {r : List V -> Hp -> VK -> Prop}
def Xf (r : List V -> Hp -> VK -> Prop) (t : TA) : TE := fun σ H Q => t σ H fun vs H1 => r vs H1 Q
theorem yq (hc : pD X (.builtin id) r) (hg : Gl X x) (hm : X.mg x = none) (hv : bootBuiltins x = some (.builtin id)) (ha : PA X (e :: es) t) (hn : x ≠ "__name__" := by decide) (tE : (x == ("__debug__" : Str)) = false := by decide)
   (he : starEach (e :: es) X.env = (false, eval e X.env) :: starEach es X.env := by rfl) (tF : (backTo pos (starEach es X.env)).any (·.1) = false := by rfl) : PE X (.Call (.Name x p) (e :: es) [] pos) (Xf r t) := by
 intro pins s σ H Q I h
 refine abJ (lR I hg hm hv ?_ hn tE)
 exact PyProof.Rows.callWith_builtin1 (c9 (ha pos pins s σ H _ I h) fun us s1 ⟨vs, H1, I1, r1, q1⟩ => hc pins s1 σ H1 vs us Q I1 r1 q1) he tF
theorem j6 (hc : pD X (.type T) r) (hg : Gl X x) (hm : X.mg x = none) (hv : bootBuiltins x = some (.type T)) (ha : PA X (e :: es) t) (hn : x ≠ "__name__" := by decide) (tE : (x == ("__debug__" : Str)) = false := by decide)
   (he : starEach (e :: es) X.env = (false, eval e X.env) :: starEach es X.env := by rfl) (tF : (backTo pos (starEach es X.env)).any (·.1) = false := by rfl) : PE X (.Call (.Name x p) (e :: es) [] pos) (Xf r t) := by
 intro pins s σ H Q I h
 refine abJ (lR I hg hm hv ?_ hn tE)
 exact abI (c9 (ha pos pins s σ H _ I h) fun us s1 ⟨vs, H1, I1, r1, q1⟩ => hc pins s1 σ H1 vs us Q I1 r1 q1) he tF
end
end L2
namespace HT
open PySem PyProof.Rows
section
open PySem.SeqAt
open PySem.AutoSeq1 (wpAny_loadPart')
open PySem.MeetsSeq PySem.MeetsSeq2 PySem.MeetsSeq3
end
section
variable {prog : Program} {w : World} {A : Around} {E : Value -> Shared -> Prop} {s : Shared}
def pU (n d : Nat) : Option Int -> Nat
 | none => d
 | some v => if v < 0 then (v + (n : Int)).toNat else min v.toNat n
end
end HT
namespace L2
open PySem PySem.Spec PyProof.Rows
abbrev TO := St -> Hp -> (Option Int -> Hp -> Prop) -> Prop
def PO (X : Cx) (e : Option Expr) (t : TO) : Prop :=
 ∀ (pins : List (Addr × Obj)) (s : Shared) (σ : St) (H : Hp) (Q : Option Int -> Hp -> Prop), Inv X pins σ H s -> t σ H Q →
   wpAny (model X.prog X.w) X.A (evalPart e X.env) (fun u s' => ∃ o H', Inv X pins σ H' s' /\ IsPart u o /\ Q o H') X.xe s
def HV : TO := fun _ H Q => Q none H
def R6 (t : TE) : TO := fun σ H Q => t σ H fun x H1 => ∃ i, x = .int i /\ Q (some i) H1
theorem intsAre_of {ns : List Int} : ∀ {us : List Value}, Vals (ns.map V.int) us -> IntsAre us ns := by
 induction ns with
 | nil => intro us r; rw [List.map_nil] at r; cases r; exact .nil
 | cons n ns ih =>
   intro us r
   rw [aa3] at r
   cases r with
   | cons r1 r2 =>
     obtain ⟨t, e⟩ := r1
     subst e
     exact .cons n t (ih r2)
section
variable {X : Cx} {e : Expr} {te : TE} {lo hi : Option Expr} {tl th : TO} {pos p2 : Pos}
theorem HW : PO X none HV := by
 intro pins s σ H Q I h
 rw [evalPart_none]
 exact aa4 ⟨none, H, I, .none, h⟩
theorem HX (h : PE X e te) : PO X (some e) (R6 te) := by
 intro pins s σ H Q I hw
 rw [evalPart_some]
 refine c9 (h pins s σ H _ I hw) fun u s1 ⟨x, H1, I1, r1, q1⟩ => ?_
 obtain ⟨i, rfl, q⟩ := q1
 obtain ⟨t, rfl⟩ := r1
 exact ⟨some i, H1, I1, .int i t, q⟩
def VC (X : Cx) (r : V -> Option Int -> Option Int -> Hp -> VK -> Prop) : Prop :=
 ∀ (pins : List (Addr × Obj)) (s : Shared) (σ : St) (H : Hp) (x : V) (v vl vu : Value) (lo hi : Option Int) (sl : Addr) (Q : VK), Inv X pins σ H s -> RelV x v -> s.heap.IsSliceOf sl vl vu .none -> IsPart vl lo -> IsPart vu hi -> r x lo hi H Q →
   ∃ T id, typeLookup (.type T) "__getitem__" = pure (some (.builtin id)) /\ s.TypeIs v T /\ wpAny (model X.prog X.w) X.A (getItem v (.ref sl)) (EP X pins σ Q) X.xe s
def Yl (r : V -> Option Int -> Option Int -> Hp -> VK -> Prop) (te : TE) (tl th : TO) : TE := fun σ H Q => te σ H fun x H1 => tl σ H1 fun l H2 => th σ H2 fun u H3 => r x l u H3 Q
theorem yr {r : V -> Option Int -> Option Int -> Hp -> VK -> Prop} (hr : VC X r) (he : PE X e te) (hl : PO X lo tl) (hu : PO X hi th) : PE X (.Subscript e (.Slice lo hi none p2) pos) (Yl r te tl th) := by
 intro pins s σ H Q I h
 refine Subscript_ (c9 (he pins s σ H _ I h) fun v s1 ⟨x, H1, I1, r1, q1⟩ => ?_)
 refine wpAny_Slice (c9 (hl pins s1 σ H1 _ I1 q1) fun vl s2 ⟨l, H2, I2, pl, q2⟩ => c9 (hu pins s2 σ H2 _ I2 q2) fun vu s3 ⟨u, H3, I3, pu, q3⟩ => ?_)
 rw [evalPart_none]
 refine aa4 ?_
 have I4 : Inv X pins σ H3 { s3 with heap := s3.heap.push { cls := .type "slice", data := .fields #[vl, vu, .none] } } := I3.kept (t' := s3.toks) fun b ob q => aaA _ q
 obtain ⟨T, id, hT, ht, hg⟩ := hr pins { s3 with heap := s3.heap.push { cls := .type "slice", data := .fields #[vl, vu, .none] } } σ H3 x v vl vu l u s3.heap.objs.size Q I4 r1 (Heap.IsSliceOf.new ..) pl pu q3
 show wpAny (model X.prog X.w) X.A (subscriptTail e (.Slice lo hi none p2) v (.ref s3.heap.objs.size)) (EP X pins σ Q) X.xe { s3 with heap := s3.heap.push { cls := .type "slice", data := .fields #[vl, vu, .none] } }
 exact tail_any (ops := [.ref s3.heap.objs.size, v]) ht hT hg (by with_unfolding_all rfl)
def CY (xs : List V) (lo hi : Option Int) : List V := (xs.drop (HT.pU xs.length 0 lo)).take (HT.pU xs.length xs.length hi - HT.pU xs.length 0 lo)
theorem yt (xs : List V) (lo hi : Option Int) : (CY xs lo hi).length <= xs.length := by
 unfold CY
 rw [List.length_take, List.length_drop]
 omega
end
def CZ (n : Nat) (i : Int) : Option Nat := if 0 <= i then (if i < n then some i.toNat else none) else if -(n : Int) <= i then some (i + n).toNat else none
def sZ {α : Type} (xs : List α) (i : Int) : Option α := (CZ xs.length i).bind fun j => xs[j]?
theorem uP {n : Nat} {i : Int} {j : Nat} (h : CZ n i = some j) : seqIndex? i n = some j /\ j < n /\ -(n : Int) <= i /\ i < n := by
 unfold CZ at h
 by_cases h0 : 0 <= i
 . rw [aar h0] at h
   by_cases h1 : i < n
   . rw [aar h1] at h
     have e : i.toNat = j := aaH h
     exact ⟨by rw [seqIndex_of h0 h1, e], by omega, by omega, h1⟩
   . rw [aap h1] at h; cases h
 . rw [aap h0] at h
   by_cases h1 : -(n : Int) <= i
   . rw [aar h1] at h
     have e : (i + n).toNat = j := aaH h
     exact ⟨by rw [seqIndex_neg (by omega) h1, e], by omega, h1, by omega⟩
   . rw [aap h1] at h; cases h
theorem uQ {α : Type} {xs : List α} {i : Int} {v : α} (h : sZ xs i = some v) : ∃ j, seqIndex? i xs.length = some j /\ xs[j]? = some v /\ j < xs.length /\ -(xs.length : Int) <= i /\ i < xs.length := by
 unfold sZ at h
 cases e : CZ xs.length i with
 | none => rw [e] at h; cases h
 | some j =>
   rw [e] at h
   obtain ⟨h1, h2, h3, h4⟩ := uP e
   exact ⟨j, h1, h, h2, h3, h4⟩
theorem fC {α : Type} {xs : List α} {j : Nat} {v : α} (h : xs[j]? = some v) : sZ xs (j : Int) = some v := by
 have hj : j < xs.length := (aaP.mp h).1
 have e : CZ xs.length (j : Int) = some j := by
   unfold CZ
   rw [aar (by omega), aar (by omega)]; simp
 unfold sZ; rw [e]; exact h
def qc (b : Expr) : Prop := ∀ o i, subscripted b false o i = operate [o, i] (getItem o i)
def UL (X : Cx) (r : R2) : Prop :=
 ∀ (value slice : Expr) (pins : List (Addr × Obj)) (s : Shared) (σ : St) (H : Hp) (x y : V) (v u : Value) (Q : VK), Inv X pins σ H s -> RelV x v -> RelV y u -> r x y H Q →
   subscripted slice false v u = operate [v, u] (getItem v u) -> wpAny (model X.prog X.w) X.A (subscriptTail value slice v u) (EP X pins σ Q) X.xe s
def Xg (X : Cx) (id : String) (r : V -> List V -> Hp -> VK -> Prop) : Prop :=
 ∀ (pins : List (Addr × Obj)) (s : Shared) (σ : St) (H : Hp) (x : V) (xs : List V) (v : Value) (us : List Value) (Q : VK), Inv X pins σ H s -> RelV x v -> Vals xs us -> r x xs H Q →
   wpAny (model X.prog X.w) X.A (call (.builtin id) (v :: us)) (EP X pins σ Q) X.xe s
section
variable {X : Cx} {a b : Expr} {ta tb : TE} {pos : Pos}
theorem Ex {r : R2} (hr : UL X r) (ha : PE X a ta) (hb : PE X b tb) (hs : qc b) : PE X (.Subscript a b pos) (UI r ta tb) := by
 intro pins s σ H Q I h
 exact Subscript_ (Nx ha hb I h fun v u s2 x y H2 I2 rx ry q => hr a b pins s2 σ H2 x y v u Q I2 rx ry q (hs _ _))
def VD (K : PySem.W.Frag) : R2 := fun x y H Q => ∃ p xs i v, x = .ref p /\ y = .int i /\ j5 K H p xs /\ sZ xs i = some v /\ Q v H
def VF (K : PySem.W.Frag) : R2 := fun x y H Q => ∃ p xs i v, x = .ref p /\ y = .int i /\ qJ K H p xs /\ sZ xs i = some v /\ Q v H
def VG : R2 := fun x y H Q => ∃ z i c, x = .str z /\ y = .int i /\ z.length <= sizeLine /\ sZ z.cps.toList i = some c /\ Q (.str ⟨#[c]⟩) H
theorem HY : UL X (VD X.K) := by
 intro value slice pins s σ H x y v u Q I rx ry h hs
 obtain ⟨p, xs, i, z, rfl, rfl, hq, he, q⟩ := h
 cases rx
 obtain ⟨t, rfl⟩ := ry
 obtain ⟨its, r, pl, hz⟩ := I.list hq
 obtain ⟨j, h1, h2, h3, h4, h5⟩ := uQ he
 obtain ⟨w, ew, NW⟩ := r.get h2
 have hl := r.length
 have hn := qL
 have fin : EP X pins σ Q w s := ⟨z, H, I, NW, q⟩
 by_cases h0 : 0 <= i
 . have hj : i.toNat = j := by
     rw [seqIndex_of h0 h5] at h1
     exact aaH h1
   exact item_listR pl.isList h0 (by omega) (by rw [hj]; simpa using ew) fin hs
 . have hj : (i + (its.toArray.size : Int)).toNat = j := by
     rw [seqIndex_neg (by omega) h4] at h1
     rw [aaO, ← hl]
     exact aaH h1
   exact subscriptTail_builtinR (x := w) pl.isList.typeIs slot_list_getitem.lookup
     (wpAny_getItem_list_neg (Q := fun r s' => r = w /\ EP X pins σ Q r s') pl.isList (by omega) (by rw [List.size_toArray] <;> omega) (by omega) (by rw [hj]; simpa using ew) ⟨rfl, fin⟩) hs
theorem NX : UL X (VF X.K) := by
 intro value slice pins s σ H x y v u Q I rx ry h hs
 obtain ⟨p, xs, i, z, rfl, rfl, hq, he, q⟩ := h
 cases rx
 obtain ⟨t, rfl⟩ := ry
 obtain ⟨its, r, pl, hz⟩ := I.tuple hq
 obtain ⟨j, h1, h2, h3, h4, h5⟩ := uQ he
 obtain ⟨w, ew, NW⟩ := r.get h2
 have hl := r.length
 have hn := qL
 have fin : EP X pins σ Q w s := ⟨z, H, I, NW, q⟩
 exact subscriptTail_builtinR (x := w) pl.typeIs slot_tuple_getitem.lookup
   (getItem_tuple (j := j) (Q := fun r s' => r = w /\ EP X pins σ Q r s') pl (by omega) (by omega) (by rw [List.size_toArray, ← hl]; exact h1) (by simpa using ew) ⟨rfl, fin⟩) hs
theorem NZ : UL X VG := by
 intro value slice pins s σ H x y v u Q I rx ry h hs
 obtain ⟨z, i, c, rfl, rfl, hz, he, q⟩ := h
 obtain ⟨t, rfl⟩ := rx
 obtain ⟨t', rfl⟩ := ry
 obtain ⟨j, h1, h2, h3, h4, h5⟩ := uQ he
 have hl : z.cps.toList.length = z.length := by simp [Str.length]
 rw [hl] at h1 h4 h5
 have hn := qL
 exact tail_any (typeIs_str s z t) slot_str_getitem.lookup (getItem_str (c := c) (by
   have e1 : decide (i < -(2 ^ 63 : Int)) = false := abe (by omega)
   have e2 : decide (i ≥ 2 ^ 63) = false := abe (by omega)
   rw [e1, e2, Bool.or_false]) (by rw [h1]; simpa using h2) ⟨.str ⟨#[c]⟩, H, I.tok _, ⟨_, rfl⟩, q⟩) hs
theorem Ah (its : List Value) (n j : Nat) (u : Value) : Obj.mapSeq (·.setIfInBounds j u) { cls := .type "list", data := .seq its.toArray n } = { cls := .type "list", data := .seq (its.set j u).toArray n } := by
 simp [Obj.mapSeq]
theorem Inv.lst {pins : List (Addr × Obj)} {σ : St} {H : Hp} {s : Shared} {p : Addr} {xs : List V} (I : Inv X pins σ H s) (h : H p = some (.lst xs)) :
   ∃ (its : List Value) (n : Nat), Vals xs its /\ s.heap.get? p = some { cls := .type "list", data := .seq its.toArray n } /\ xs.length <= sizeLine := by
 obtain ⟨z, its, n, r, e⟩ := I.cU p _ h
 exact ⟨its, n, r, e, z⟩
theorem Inv.N1 {pins : List (Addr × Obj)} {σ : St} {H : Hp} {s : Shared} {p : Addr} {xs ys : List V} {its its' : List Value} {n n' : Nat} {f : Obj -> Obj} (I : Inv X pins σ H s) (h : H p = some (.lst xs))
   (ho : s.heap.get? p = some { cls := .type "list", data := .seq its.toArray n }) (hf : f { cls := .type "list", data := .seq its.toArray n } = { cls := .type "list", data := .seq its'.toArray n' }) (r : Vals ys its') (hz : ys.length <= sizeLine) (t : Nat) :
   Inv X pins σ (upd H p (.lst ys)) { s with heap := s.heap.update p f, toks := t } := by
 have e : (s.heap.update p f).get? p = some { cls := .type "list", data := .seq its'.toArray n' } := by
   rw [Heap.get?_update_self f ho (by rw [hf] <;> rfl), hf]
 refine I.write (x := p) (e := p) (by rw [h]; trivial) (.inl rfl) (fun b u hb q => (Heap.get?_update_other _ _ (Ne.symm hb)).trans q) ⟨_, e⟩ ?_
 exact ⟨hz, its', n', r, e⟩
def R7 : V -> V -> V -> Hp -> (Hp -> Prop) -> Prop := fun o i v H Q => ∃ p xs k j, o = .ref p /\ i = .int k /\ H p = some (.lst xs) /\ CZ xs.length k = some j /\ Q (upd H p (.lst (xs.set j v)))
theorem set_list : RD X R7 := by
 intro pins s σ H o i v ov iv u Q I ro ri rv h
 obtain ⟨p, xs, k, j, rfl, rfl, hp, hj, q⟩ := h
 cases ro
 obtain ⟨t, rfl⟩ := ri
 obtain ⟨its, n, r, ho, hz⟩ := I.lst hp
 obtain ⟨h1, h2, h3, h4⟩ := uP hj
 have hl := r.length
 have hn := qL
 have I' : Inv X pins σ (upd H p (.lst (xs.set j v))) { s with heap := s.heap.update p (Obj.mapSeq (·.setIfInBounds j u)) } :=
   I.N1 hp ho (Ah its n j u) (r.set rv j) (by rw [List.length_set]; exact hz) s.toks
 by_cases h0 : 0 <= k
 . have hk : k.toNat = j := by
     rw [seqIndex_of h0 h4] at h1
     exact aaH h1
   exact PySem.W.ki_setAt ho h0 (by omega) (by rw [aaO, ← hl]; exact h4) (by rw [hk]; exact ⟨_, I', q⟩)
 . have hk : (k + (its.toArray.size : Int)).toNat = j := by
     rw [seqIndex_neg (by omega) h3] at h1
     rw [aaO, ← hl]
     exact aaH h1
   exact PySem.W.ki_setBack ho (by omega) (by rw [aaO, ← hl]; exact h3) (by omega) (by rw [hk]; exact ⟨_, I', q⟩)
theorem uR (lo hi : Option Int) (n : Nat) : (sliceBounds lo hi none n).1 = ((HT.pU n 0 lo : Nat) : Int) /\ (sliceBounds lo hi none n).2.1 = ((HT.pU n n hi : Nat) : Int) /\ (sliceBounds lo hi none n).2.2 = 1 := by
 refine ⟨?_, ?_, rfl⟩
 . cases lo with
   | none => simp [sliceBounds, HT.pU]
   | some i =>
     simp only [sliceBounds, HT.pU, Option.getD_none, show (1 : Int) > 0 by decide, abZ]
     by_cases h : i < 0
     . simp only [h, abZ] <;> omega
     . simp only [h, abL] <;> omega
 . cases hi with
   | none => simp [sliceBounds, HT.pU]
   | some i =>
     simp only [sliceBounds, HT.pU, Option.getD_none, show (1 : Int) > 0 by decide, abZ]
     by_cases h : i < 0
     . simp only [h, abZ] <;> omega
     . simp only [h, abL] <;> omega
theorem tG (its : List Value) (lo hi : Option Int) : slicePick its.toArray lo hi none = ((its.drop (HT.pU its.length 0 lo)).take (HT.pU its.length its.length hi - HT.pU its.length 0 lo)).toArray := by
 obtain ⟨h1, h2, h3⟩ := uR lo hi its.toArray.size
 unfold slicePick
 rw [h1, h2, h3]
 simp only [sliceRange_one, pick_run, aaO] <;> rfl
def VH (K : PySem.W.Frag) : V -> Option Int -> Option Int -> Hp -> VK -> Prop := fun x lo hi H Q => ∃ a xs, x = .ref a /\ j5 K H a xs /\ ∀ p, H p = none -> Q (.ref p) (upd H p (.lst (CY xs lo hi)))
theorem HZ : VC X (VH X.K) := by
 intro pins s σ H x v vl vu lo hi sl Q I rx hs pl pu h
 obtain ⟨a, xs, rfl, hx, q⟩ := h
 cases rx
 obtain ⟨its, r, ht, hz⟩ := I.list hx
 have hlen := r.length
 refine ⟨"list", _, slot_list_getitem.lookup, ht.isList.typeIs, ?_⟩
 refine wpAny_getItem_list_slice ht.isList hs pl pu .none (by simp) ?_ (by rw [aaO] <;> omega)
 rw [tG, ← hlen]
 refine ⟨.ref s.heap.objs.size, _, I.laid (t' := s.toks) (o := .lst (CY xs lo hi)) (fun b ob q => aaA _ q) (aas _) ?_, rfl, q _ (I.cU.fresh (aas _))⟩
 exact ⟨abb (yt xs lo hi) hz, _, 0, (r.drop (HT.pU xs.length 0 lo)).take (HT.pU xs.length xs.length hi - HT.pU xs.length 0 lo), aaR _ rfl⟩
def lE : V -> Bool
 | .non => true
 | .bl _ => true
 | .int _ => true
 | .str _ => true
 | _ => false
def D5 : V -> V -> Bool
 | .non, .non => true
 | .bl a, .bl b => a == b
 | .bl a, .int b => (if a then 1 else 0) == b
 | .int a, .bl b => a == (if b then 1 else 0)
 | .int a, .int b => a == b
 | .str a, .str b => a == b
 | _, _ => false
theorem N2 {A : Around} {s : Shared} {y x : V} {u v : Value} (ry : RelV y u) (rx : RelV x v) (fy : lE y = true) (fx : lE x = true) : SeqAt.EqAt A s u v (D5 y x) := by
 cases y with
 | non =>
   cases ry
   cases x with
   | non => cases rx; exact SeqAt.EqAt.same _
   | bl b => cases rx; exact SeqAt.EqAt.none_bool b
   | int b => obtain ⟨t, rfl⟩ := rx; exact SeqAt.EqAt.none_int b t
   | str b => obtain ⟨t, rfl⟩ := rx; exact SeqAt.EqAt.none_str b t
   | _ => exact absurd (show false = true from fx) aaB
 | bl a =>
   cases ry
   cases x with
   | non => cases rx; exact SeqAt.EqAt.bool_none a
   | bl b => cases rx; exact SeqAt.EqAt.bool_bool a b
   | int b => obtain ⟨t, rfl⟩ := rx; exact SeqAt.EqAt.bool_int a b t
   | str b => obtain ⟨t, rfl⟩ := rx; exact SeqAt.EqAt.bool_str a b t
   | _ => exact absurd (show false = true from fx) aaB
 | int a =>
   obtain ⟨t', rfl⟩ := ry
   cases x with
   | non => cases rx; exact SeqAt.EqAt.int_none a t'
   | bl b => cases rx; exact SeqAt.EqAt.int_bool a t' b
   | int b => obtain ⟨t, rfl⟩ := rx; exact SeqAt.EqAt.int_int a t' b t
   | str b => obtain ⟨t, rfl⟩ := rx; exact SeqAt.EqAt.int_str a t' b t
   | _ => exact absurd (show false = true from fx) aaB
 | str a =>
   obtain ⟨t', rfl⟩ := ry
   cases x with
   | non => cases rx; exact SeqAt.EqAt.str_none a t'
   | bl b => cases rx; exact SeqAt.EqAt.str_bool a t' b
   | int b => obtain ⟨t, rfl⟩ := rx; exact SeqAt.EqAt.str_int a t' b t
   | str b => obtain ⟨t, rfl⟩ := rx; exact SeqAt.EqAt.str_str a t' b t
   | _ => exact absurd (show false = true from fx) aaB
 | _ => exact absurd (show false = true from fy) aaB
def Ai (x : V) (u : Value) : Bool := match u with
 | .none => D5 .non x
 | .bool b => D5 (.bl b) x
 | .int i _ => D5 (.int i) x
 | .str z _ => D5 (.str z) x
 | _ => false
theorem Ey {x y : V} {u : Value} (r : RelV y u) (f : lE y = true) : Ai x u = D5 y x := by
 cases y with
 | non => cases r; rfl
 | bl b => cases r; rfl
 | int i => obtain ⟨t, rfl⟩ := r; rfl
 | str z => obtain ⟨t, rfl⟩ := r; rfl
 | _ => exact absurd (show false = true from f) aaB
theorem mF {x : V} : ∀ {xs : List V} {us : List Value}, Vals xs us -> xs.all lE = true -> us.any (Ai x) = xs.any fun y => D5 y x
 | _, _, .nil, _ => rfl
 | y :: xs, u :: us, .cons r t, f => by
   rw [List.all_cons, aa8] at f
   rw [List.any_cons, List.any_cons, Ey r f.1, mF t f.2]
theorem jB {A : Around} {s : Shared} {x : V} {v : Value} (rx : RelV x v) (fx : lE x = true) : ∀ {xs : List V} {us : List Value}, Vals xs us -> xs.all lE = true -> ∀ u ∈ us, SeqAt.EqAt A s u v (Ai x u)
 | _, _, .nil, _ => fun u hu => by cases hu
 | y :: xs, u :: us, .cons r t, f => fun u' hu => by
   rw [List.all_cons, aa8] at f
   rcases aau.mp hu with rfl | hu
   . rw [Ey r f.1]; exact N2 r rx f.1 fx
   . exact jB rx fx t f.2 u' hu
def Ml (x : V) (xs : List V) : Bool := xs.any fun y => D5 y x
def Xh (K : PySem.W.Frag) (neg : Bool) : R2 := fun x y H Q => ∃ p xs, y = .ref p /\ (j5 K H p xs \/ qJ K H p xs) /\ lE x = true /\ xs.all lE = true /\ Q (.bl (if neg then !Ml x xs else Ml x xs)) H
theorem j7 : n8 X (compareOp .In) (Xh X.K false) := by
 intro pins s σ H x y v u Q I rx ry h
 obtain ⟨p, xs, rfl, hq, fx, fs, q⟩ := h
 cases ry
 rcases hq with hq | hq
 . obtain ⟨its, r, pl, hz⟩ := I.list hq
   refine SeqAt.in_listAt (Ai x) pl.isList (fun w hw => jB rx fx r fs w (by simpa using hw)) ⟨.bl _, H, I, rfl, ?_⟩
   rw [show its.toArray.any (Ai x) = its.any (Ai x) by simp, mF r fs]
   exact q
 . obtain ⟨its, r, pl, hz⟩ := I.tuple hq
   refine SeqAt.in_tupleAt (Ai x) pl (fun w hw => jB rx fx r fs w (by simpa using hw)) ⟨.bl _, H, I, rfl, ?_⟩
   rw [show its.toArray.any (Ai x) = its.any (Ai x) by simp, mF r fs]
   exact q
theorem mG : n8 X (compareOp .NotIn) (Xh X.K true) := by
 intro pins s σ H x y v u Q I rx ry h
 obtain ⟨p, xs, rfl, hq, fx, fs, q⟩ := h
 cases ry
 rcases hq with hq | hq
 . obtain ⟨its, r, pl, hz⟩ := I.list hq
   refine SeqAt.notIn_listAt (Ai x) pl.isList (fun w hw => jB rx fx r fs w (by simpa using hw)) ⟨.bl _, H, I, rfl, ?_⟩
   rw [show its.toArray.any (Ai x) = its.any (Ai x) by simp, mF r fs]
   exact q
 . obtain ⟨its, r, pl, hz⟩ := I.tuple hq
   refine SeqAt.notIn_tupleAt (Ai x) pl (fun w hw => jB rx fx r fs w (by simpa using hw)) ⟨.bl _, H, I, rfl, ?_⟩
   rw [show its.toArray.any (Ai x) = its.any (Ai x) by simp, mF r fs]
   exact q
theorem uS : pD X (.builtin "len") (fun xs H Q => ∃ p ys, xs = [.ref p] /\ (j5 X.K H p ys \/ qJ X.K H p ys) /\ Q (.int ys.length) H) := by
 intro pins s σ H xs us Q I r h
 obtain ⟨p, ys, rfl, hq, q⟩ := h
 obtain ⟨u, rfl, rx⟩ := vals1 r
 cases rx
 have hn := qL
 rcases hq with hq | hq
 . obtain ⟨its, r', pl, hz⟩ := I.list hq
   have hlen := r'.length
   exact Calls.call_len_list pl.isList (by simp only [aaO] <;> omega) ⟨.int ys.length, H, I.tok _, ⟨s.toks + 1, by rw [aaO, hlen]⟩, q⟩
 . obtain ⟨its, r', pl, hz⟩ := I.tuple hq
   have hlen := r'.length
   exact len_tuple pl (by simp only [aaO] <;> omega) ⟨.int ys.length, H, I.tok _, ⟨s.toks + 1, by rw [aaO, hlen]⟩, q⟩
theorem uT : pD X (.type "list") (fun xs H Q => ∃ p ys, xs = [.ref p] /\ (j5 X.K H p ys \/ qJ X.K H p ys) /\ ∀ l, H l = none -> Q (.ref l) (upd H l (.lst ys))) := by
 intro pins s σ H xs us Q I r h
 obtain ⟨p, ys, rfl, hq, q⟩ := h
 obtain ⟨u, rfl, rx⟩ := vals1 r
 cases rx
 have fin : ∀ (its : List Value), Vals ys its -> ys.length <= sizeLine -> ∀ (h' : Heap) (c' : Nat), (∀ b o', s.heap.get? b = some o' -> h'.get? b = some o') →
     h'.get? s.heap.objs.size = some { cls := .type "list", dict := none, data := .seq its.toArray c', slots := #[] } -> EP X pins σ Q (.ref s.heap.objs.size) { s with heap := h' } := fun its r' hz h' c' kp e =>
   ⟨.ref s.heap.objs.size, _, I.laid (t' := s.toks) kp (aas _) (show fG X.prog X.w _ h' _ (.lst ys) from ⟨hz, its, c', r', e⟩), rfl, q _ (I.cU.fresh (aas _))⟩
 rcases hq with hq | hq
 . obtain ⟨its, r', pl, hz⟩ := I.list hq
   have hlen := r'.length
   obtain ⟨o, ho, hc, n, hd⟩ := pl.isList
   exact call_list_seq p (.inl rfl) ho hc hd (fun h' c' kp e => fin its r' hz h' c' kp e) (by simp only [aaO] <;> omega)
 . obtain ⟨its, r', pl, hz⟩ := I.tuple hq
   have hlen := r'.length
   obtain ⟨o, ho, hc, n, hd⟩ := pl
   exact call_list_seq p (.inr rfl) ho hc hd (fun h' c' kp e => fin its r' hz h' c' kp e) (by simp only [aaO] <;> omega)
theorem tH : pD X (.type "tuple") (fun xs H Q => ∃ p ys, xs = [.ref p] /\ ((j5 X.K H p ys /\ ∀ l, H l = none -> Q (.ref l) (upd H l (.tup ys))) \/ (qJ X.K H p ys /\ Q (.ref p) H))) := by
 intro pins s σ H xs us Q I r h
 obtain ⟨p, ys, rfl, h⟩ := h
 obtain ⟨u, rfl, rx⟩ := vals1 r
 cases rx
 rcases h with ⟨hq, q⟩ | ⟨hq, q⟩
 . obtain ⟨its, r', pl, hz⟩ := I.list hq
   have hlen := r'.length
   refine call_tuple_list pl.isList (fun h' kp => ?_) (by simp only [aaO] <;> omega)
   have I1 : Inv X pins σ H { s with heap := h' } := I.kept (t' := s.toks) kp
   have I2 : Inv X pins σ (upd H h'.objs.size (.tup ys)) { s with heap := h'.push { cls := .type "tuple", data := .seq its.toArray } } :=
     I1.laid (t' := s.toks) (fun b o e => aaA _ e) (aas _) (show fG X.prog X.w _ _ _ (.tup ys) from ⟨hz, its, r', IsTup.new _ _⟩)
   exact ⟨.ref h'.objs.size, _, I2, rfl, q _ (I1.cU.fresh (aas _))⟩
 . obtain ⟨its, r', pl, hz⟩ := I.tuple hq
   exact call_tuple_same pl ⟨.ref p, H, I, rfl, q⟩
def Xi (K : PySem.W.Frag) (T : String) (x : V) (H : Hp) : Prop := match x with
 | .str _ => T = "str"
 | .int _ => T = "int"
 | .ref p => (T = "list" /\ ∃ xs, j5 K H p xs) \/ (T = "tuple" /\ ∃ o, K.lookup p = some o /\ o.cls = .type "tuple" /\ o.dict = none) ∨
     (T = "dict" /\ ((∃ j4, H p = some (.dK j4)) \/ ∃ j4, H p = some (.dT j4))) \/ (T = "set" /\ ∃ S n, H p = some (.set S n))
 | _ => False
theorem N3 {pins : List (Addr × Obj)} {σ : St} {H : Hp} {s : Shared} {T : String} {x : V} {v : Value} (I : Inv X pins σ H s) (r : RelV x v) (ty : Xi X.K T x H) :
   s.TypeIs v T /\ ∀ a, v = .ref a -> ∃ ob, s.heap.get? a = some ob /\ ob.dict = none := by
 cases x with
 | str z =>
   obtain ⟨t, rfl⟩ := r
   cases (show T = "str" from ty)
   exact ⟨typeIs_str s z t, fun _ e => nomatch e⟩
 | int i =>
   obtain ⟨t, rfl⟩ := r
   cases (show T = "int" from ty)
   exact ⟨typeIs_int s i t, fun _ e => nomatch e⟩
 | ref p =>
   cases r
   rcases ty with ⟨rfl, xs, hq⟩ | ⟨rfl, o, hk, hc, hd⟩ | ⟨rfl, hk⟩ | ⟨rfl, S, n, hk⟩
   . obtain ⟨its, _, pl, _⟩ := I.list hq
     refine ⟨pl.isList.typeIs, fun a e => ?_⟩
     cases e
     obtain ⟨o, n, e, c, hd, _⟩ := pl
     exact ⟨o, e, hd⟩
   . refine ⟨⟨o, I.yd p o hk, hc⟩, fun a e => ?_⟩
     cases e
     exact ⟨o, I.yd _ o hk, hd⟩
   . have z : ∃ o, s.heap.get? p = some o /\ o.ExactDict := by
       rcases hk with ⟨j4, hk⟩ | ⟨j4, hk⟩
       . obtain ⟨_, _, _, _, o, _, _, e, ex, _⟩ := I.cU p _ hk
         exact ⟨o, e, ex⟩
       . obtain ⟨_, _, _, _, o, _, _, e, ex, _⟩ := I.cU p _ hk
         exact ⟨o, e, ex⟩
     obtain ⟨o, e, ex⟩ := z
     refine ⟨⟨o, e, ex.1⟩, fun a e2 => ?_⟩
     cases e2
     exact ⟨o, e, ex.2.1⟩
   . obtain ⟨o, _, _, _, e, ex, _⟩ := I.cU p _ hk
     refine ⟨⟨o, e, ex.1⟩, fun a e2 => ?_⟩
     cases e2
     exact ⟨o, e, ex.2.1⟩
 | _ => exact False.elim ty
def Ym (K : PySem.W.Frag) (T : String) (r : V -> List V -> Hp -> VK -> Prop) (to : TE) (t : TA) : TE := fun σ H Q => to σ H fun x H1 => Xi K T x H1 /\ t σ H1 fun xs H2 => r x xs H2 Q
variable {o e : Expr} {es : List Expr} {to : TE} {t : TA} {name : Str} {apos yu : Pos} {T id : String} {r : V -> List V -> Hp -> VK -> Prop}
theorem Mm (pa : PlainAttrs T) (slot : Slot T name id) (Yn : typeOf (.builtin id) = pure (.type "method_descriptor")) (hm : Xg X id r) (ho : PE X o to) (ha : PA X (e :: es) t)
   (qO : attributeBase o name X.env (eval o X.env) = eval o X.env := by rfl)
   (Aj : ((backTo yu (starEach (e :: es) X.env)).all (fun x => !x.1) && (backToKw yu (keywordEach [] X.env)).all (fun x => x.1.isSome)
     && decide ((e :: es).length + ([] : List Keyword).length + (if ([] : List Keyword).isEmpty then 0 else 1) < 30)) = true := by rfl)
   (hline : (apos.endLine == yu.line) = true := by rfl) (hs : starEach (e :: es) X.env = (false, eval e X.env) :: starEach es X.env := by rfl) (Ak : (backTo yu (starEach es X.env)).any (·.1) = false := by rfl) :
   PE X (.Call (.Attribute o name apos) (e :: es) [] yu) (Ym X.K T r to t) := by
 intro pins s σ H Q I h
 refine wpAny_Call_method_late qO Aj hline rfl (c9 (ho pins s σ H _ I h) fun v s1 ⟨x, H1, I1, r1, ty, q1⟩ => ?_)
 obtain ⟨h1, h2⟩ := N3 I1 r1 ty
 refine ⟨T, id, pa, slot, Yn, h1, h2, ?_⟩
 have hA := ha yu pins s1 σ H1 _ I1 q1
 rw [hs] at hA ⊢
 refine Calls.callWith_builtin (by show (false || (backTo yu (starEach es X.env)).any (·.1)) = false; rw [Ak] <;> rfl) (Calls.evalArgs_plain ?_)
 exact c9 hA fun us s2 ⟨vs, H2, I2, r2, q2⟩ => hm pins s2 σ H2 x vs v us Q I2 r1 r2 q2
end
def Yo (X : Cx) (id : String) (r : V -> List V -> Hp -> VK -> Prop) : Prop :=
 ∀ (pins : List (Addr × Obj)) (s : Shared) (σ : St) (H : Hp) (x : V) (xs : List V) (v : Value) (us : List Value) (Q : VK), Inv X pins σ H s -> RelV x v -> Vals xs us -> r x xs H Q →
   wpAny (model X.prog X.w) X.A (call (.builtin id) (v :: us)) (EP X pins σ Q) X.xe s
theorem Vals.one : ∀ {x : V} {us : List Value}, Vals [x] us -> ∃ u, us = [u] /\ RelV x u
 | _, _, .cons r .nil => ⟨_, rfl, r⟩
theorem Vals.two : ∀ {x y : V} {us : List Value}, Vals [x, y] us -> ∃ u v, us = [u, v] /\ RelV x u /\ RelV y v
 | _, _, _, .cons r (.cons q .nil) => ⟨_, _, rfl, r, q⟩
theorem Vals.rep {xs : List V} {us : List Value} (h : Vals xs us) : ∀ k : Nat, Vals (List.replicate k xs).flatten (List.replicate k us).flatten
 | 0 => .nil
 | k + 1 => by
   rw [abt, abt, abM, abM]
   exact Vals.append h (Vals.rep h k)
theorem foldl_rep (its : List Value) : ∀ (k : Nat) (acc : List Value),
   List.foldl (fun x1 x2 => x1 ++ x2) acc.toArray (List.replicate k its.toArray) = (acc ++ (List.replicate k its).flatten).toArray
 | 0, acc => by simp
 | k + 1, acc => by
   have e : acc.toArray ++ its.toArray = (acc ++ its).toArray := by simp
   have e2 : (acc ++ its) ++ (List.replicate k its).flatten = acc ++ (List.replicate (k + 1) its).flatten := by
     rw [abt, abM, aav]
   rw [← e2, ← foldl_rep its k (acc ++ its), ← e, abt, List.foldl_cons]
section
variable {X : Cx} {pins : List (Addr × Obj)} {σ : St} {H : Hp} {s : Shared} {l b : Addr} {xs ys zs : List V}
theorem Inv.VJ {its its' : List Value} {n : Nat} {f : Array Value -> Array Value} {t' : Nat} (I : Inv X pins σ H s) (hH : H l = some (.lst xs))
   (e : s.heap.get? l = some { cls := .type "list", data := .seq its.toArray n }) (hf : f its.toArray = its'.toArray) (hv : Vals ys its') (hz : ys.length <= sizeLine) :
   Inv X pins σ (upd H l (.lst ys)) { s with heap := s.heap.update l (Obj.mapSeq f), toks := t' } := by
 have q := PySem.IsL.update e f
 rw [hf] at q
 refine I.write (x := l) (e := l) (by rw [hH]; exact trivial) (.inl rfl) (fun b' u hb hu => (Heap.get?_update_other s.heap (Obj.mapSeq f) (Ne.symm hb)).trans hu) ⟨_, q⟩ ?_
 exact ⟨hz, its', _, hv, q⟩
theorem Inv.R8 {its : List Value} {t' : Nat} (I : Inv X pins σ H s) (hv : Vals ys its) (hz : ys.length <= sizeLine) :
   Inv X pins σ (upd H s.heap.objs.size (.lst ys)) { s with heap := s.heap.push { cls := .type "list", data := .seq its.toArray }, toks := t' } :=
 I.laid (fun _ _ q => aaA _ q) (aas _) ⟨hz, its, 0, hv, aaR _ rfl⟩
theorem Inv.fresh (I : Inv X pins σ H s) : H s.heap.objs.size = none := I.cU.fresh (aas _)
theorem Inv.VL (I : Inv X pins σ H s) (hH : H l = some (.lst xs)) : xs.length <= sizeLine /\ ∃ (its : List Value) (n : Nat), Vals xs its /\ xs.length = its.length /\ s.heap.get? l = some { cls := .type "list", data := .seq its.toArray n } := by
 obtain ⟨z, its, n, r, e⟩ := I.cU l _ hH
 exact ⟨z, its, n, r, r.length, e⟩
theorem Ez {n : Nat} (h : n <= sizeLine) : Builtin.List.listTooLong n = false := by
 unfold Builtin.List.listTooLong
 exact abe (by omega)
end
section
variable {X : Cx}
def Ic : V -> List V -> Hp -> VK -> Prop := fun x vs H Q => ∃ l xs y, x = .ref l /\ vs = [y] /\ H l = some (.lst xs) /\ xs.length < sizeLine /\ Q .non (upd H l (.lst (xs ++ [y])))
theorem tZ : Yo X "list.append" Ic := by
 intro pins s σ H x vs v us Q I rx rv h
 obtain ⟨l, xs, y, rfl, rfl, hH, hz, q⟩ := h
 cases rx
 obtain ⟨u, rfl, ru⟩ := rv.one
 obtain ⟨z, its, n, r, hl, e⟩ := I.VL hH
 refine call_meets F.slot_list_append ⟨_, e, rfl⟩ F.entry_list_append (F.args_list_append_2 _ _) (PySem.list_append l its.toArray n u (by rw [aaO]; omega)) ⟨e, ?_⟩
 refine ⟨.non, _, I.VJ (its' := its ++ [u]) hH e (by simp) (r.append (.cons ru .nil)) ?_, rfl, q⟩
 rw [aaM, List.length_singleton]
 omega
theorem len_rep {α : Type} (xs : List α) (k : Nat) : (List.replicate k xs).flatten.length = k * xs.length := by
 induction k with
 | zero => simp
 | succ k ih => rw [abt, abM, aaM, ih, Nat.succ_mul, Nat.add_comm]
end
section
variable {prog : Program} {w : World} {A : Around} {E : Value -> Shared -> Prop} {s : Shared}
set_option maxRecDepth 100000 in
end
section
variable {X : Cx}
end
end L2
namespace Xj
open PySem PySem.W PySem.Calls PyProof.Rows
theorem pV {P : Params} {h : Heap} : ∀ (ns : List Int) (vs : List Value), WellAll P h vs (ns.map WData.int) -> IntsAre vs ns := by
 intro ns
 induction ns with
 | nil =>
   intro vs w
   rw [List.map_nil] at w
   cases w
   exact .nil
 | cons n ns ih =>
   intro vs w
   rw [List.map_cons] at w
   cases w with
   | cons a b =>
     cases a
     exact .cons _ _ (ih _ b)
theorem C1 {l : OpenLaw} {n : Nat} (hn : l.most = some n) {P : Params} {h : Heap} {args : List WData} {vals : List Value}
   (pW : l.row.toRowW.claim.pre args = true) (Ie : WellAll P h vals args) :
   ∃ a vs ns, vals = [Value.ref a] /\ args = [WData.list (ns.map WData.int)] /\ h.get? a = some { cls := .type "list", data := .seq vs.toArray } /\ IntsAre vs ns /\ ns.length <= n := by
 have Yp : WShape.hasAll [] args [.list .int] = true := (pre_splitW pW).1
 have hc : l.pre.holds [] { args := args } = true := (pre_splitW pW).2
 obtain ⟨d, r, rfl, h1, h2⟩ := hasAllW_cons Yp
 obtain rfl := hasAllW_nil h2
 obtain ⟨xs, rfl, h3⟩ := hasW_list h1
 obtain ⟨ns, rfl⟩ := items_int h3
 have hlen : ns.length <= n := by
   unfold OpenLaw.pre at hc
   have h4 : (WTm.not (.lt (.lit (.int (n : Int))) (.len (.arg 0)))).holds [] { args := [.list (ns.map .int)] } = true := by
     have h4 := (holds_andW hc).1
     rw [hn] at h4
     exact h4
   have h5 := condW_of h4 (w_not (w_lt w_lit (w_len_list (w_arg rfl))))
   rw [List.length_map] at h5
   refine Nat.le_of_not_lt fun q => ?_
   have q' : (n : Int) < ((ns.length : Nat) : Int) := by omega
   first
     | (rw [decide_eq_true q'] at h5; exact absurd h5 (by decide))
     | (simp at h5; omega)
 cases Ie with
 | cons w1 w2 =>
   cases w2
   cases w1 with
   | list ho Ig => exact ⟨_, _, ns, rfl, rfl, ho, pV ns _ Ig, hlen⟩
theorem C2 (l : OpenLaw) (args : List WData) : l.row.toRowW.claim.post args (.bool true) args = true :=
 postW_of (r := l.row.toRowW) (X := (true == true))
   (show WShape.has [] (.bool true) .bool = true by first | rfl | decide | simp [WShape.has, WShape.arms, WShape.armsAll])
   (show (WTm.eq .res (.lit (.bool true))).value [] { args := args, res := some (.bool true), after := args } = some (.bool (true == true)) from w_eq_bool (w_res rfl) w_lit) rfl
theorem yw {l : OpenLaw} {n : Nat} {q : Program} {loose : List Str} {XP : (Str -> Option Value) -> Heap -> Prop} {YP : World -> Heap -> Prop} {d : DefRec}
   (hn : l.most = some n) (R9 : d.params.defaults = [])
   (call : ∀ (w : World) (s₀ s₁ : Shared) (mg mb : Str -> Option Value) (fa : Addr) (o : Obj) (pm cd doc : Value) (a : Addr) (vs : List Value) (ns : List Int),
     Ground q loose [] XP w s₀ mg mb s₁.heap -> YP w s₁.heap →
     s₁.heap.get? fa = some o -> o.data = .func (docDef d.name d.params d.body d.scope pm cd doc) -> s₁.heap.CodeRec cd d.name -> mg d.name = some (.ref fa) →
     s₁.heap.get? a = some { cls := .type "list", data := .seq vs.toArray } -> IntsAre vs ns -> ns.length <= n -> s₁.gens = #[] →
     codeAny (model l.prog w) callerA (.call (.ref fa) ⟨[.ref a], []⟩) (fun r s' => r = .ok (.ret (.bool true)) /\ OldK s₁.heap s'.heap /\ s'.os = s₁.os /\ AllBare s'.gens) s₁) :
   WalkO q loose XP YP l.row.toRowW d [] (fun f vs => PySem.call f vs) := by
 intro w s₀ s₁ mg mb G Y fa o pm cd doc dV kV ho hd gI hD Sb hg args vals as pW hlay ZX Ie ZY
 obtain rfl : dV = .none := Dflts.none hD R9
 obtain rfl : kV = .none := Dflts.noKw hD
 obtain ⟨a, vs, ns, rfl, rfl, N4, hints, hlen⟩ := C1 hn pW Ie
 refine enter_call (codeAny_mono (call w s₀ s₁ mg mb fa o pm cd doc a vs ns G Y ho (fd_plain hd) gI Sb N4 hints hlen hg) fun r s' hq => ?_)
 obtain ⟨rfl, h2, h3, h4⟩ := hq
 exact ⟨.inl ⟨.bool true, .bool true, [], rfl, fun _ => rfl, .bool true, C2 l _, fun _ => ⟨List.Pairwise.nil, fun _ hm => (nomatch hm)⟩⟩, h2, h3, h4⟩
section
variable {prog : Program} {w : World} {A : Around} {E : Value -> Shared -> Prop} {s : Shared} {K : Frag}
def ledger (h : Heap) (L d : Addr) : List (Addr × Obj) := (List.range h.objs.size).filterMap fun a => if a = L \/ a = d then none else (h.get? a).map fun o => (a, o)
end
end Xj
namespace L2
open PySem PySem.Spec PyProof.Rows
theorem t6 : ∀ {vs : List Value} {ns : List Int}, IntsAre vs ns -> Vals (ns.map V.int) vs
 | _, _, .nil => .nil
 | _, _, .cons n t h => .cons ⟨t, rfl⟩ (t6 h)
def inClass (s : Stmt) (j : Nat) : Stmt := match s with
 | .ClassDef _ _ _ body _ _ _ _ _ _ _ => body.getD j (.Pass ⟨0, 0, 0, 0⟩)
 | _ => .Pass ⟨0, 0, 0, 0⟩
def qd (s : Stmt) : Arguments := match s with
 | .FunctionDef _ a _ _ _ _ _ _ _ _ => a
 | _ => { posonlyargs := [], args := [], vararg := none, kwonlyargs := [], kw_defaults := [], kwarg := none, defaults := [] }
def eF (s : Stmt) : List Stmt := match s with
 | .FunctionDef _ _ b _ _ _ _ _ _ _ => b
 | _ => []
def aq (s : Stmt) : Scope := match s with
 | .FunctionDef _ _ _ _ _ _ sc _ _ _ => sc
 | _ => { kind := .function, names := [], isGenerator := false, isCoroutine := false }
abbrev fQ : Es := fun _ _ _ _ _ _ => False
abbrev E0 : XK := fun _ _ _ => False
theorem BE {X : Cx} : Passes fQ X E0 := fun _ _ _ _ _ _ _ h => h.elim
structure jx (K : PySem.W.Frag) (x qual : Str) (st : Stmt) (f : Addr) (fd : FuncData) : Prop where
 ex : ∃ (oc : Value) (od : Option Addr) (kV doc pm : Value) (an : Option Addr) (c6 ct : Value) (D4 : Array (Option Value)),
   fd = PySem.W.fnOf x qual (qd st) (eF st) (aq st) .none kV doc pm an c6 ct /\ K.lookup f = some ⟨oc, od, .func fd, D4⟩ /\ PySem.W.codeIn K c6 qual = true
 kp : PySem.W.keepIn K (.ref f) = true
section
variable {P : Program} {w : World} {K : PySem.W.Frag} {mg : Str -> Option Value} {base : Heap}
theorem jx.ok {x qual : Str} {st : Stmt} {f : Addr} {fd : FuncData} {N ps : List Str} {k : Nat} {sp : Sp} (F : jx K x qual st f fd) (S : aP N ps (aq st)) (len : ∀ vs H Q E, sp vs H Q E -> vs.length = ps.length)
   (yp : ∀ (c6 : Value) (A : Around) (outer : List Env) (s : Shared) (H : Hp) (vs : List V) (Q : VK) (E : XK), dF k (A.deeper (envOfC qual (aq st) s.heap.objs.size f c6)) -> sp vs H Q E →
     ∃ t, z6 (qM fQ P w K mg base N qual (aq st) f c6 A outer s H E).Hs (eF st) t /\ t { nx := fun _ H' => Q .non H', rt := Q } (start N vs) H) : bR P w K mg base fQ (k + 1) f fd ps sp := by
 obtain ⟨oc, od, kV, doc, pm, an, c6, ct, D4, rfl, lk, gI⟩ := F.ex
 refine Mj lk gI S len fun A outer s H vs Q E hr Ht => ?_
 obtain ⟨t, h, q⟩ := yp c6 A outer s H vs Q E hr Ht
 exact ⟨t, h.Hs, q⟩
theorem jx.binds {x qual : Str} {st : Stmt} {f : Addr} {fd : FuncData} {ps : List Str} (F : jx K x qual st f fd)
   (h : ∀ (kV doc pm : Value) (an : Option Addr) (c6 ct : Value) (us : List Value), us.length = ps.length -> bindArgs (PySem.W.fnOf x qual (qd st) (eF st) (aq st) .none kV doc pm an c6 ct) ⟨us, []⟩ = pure (ps.zip us)) : Binds K fd ps [] := by
 obtain ⟨oc, od, kV, doc, pm, an, c6, ct, D4, rfl, lk, gI⟩ := F.ex
 exact .all (h kV doc pm an c6 ct)
theorem bM {x qual : Str} {st : Stmt} {f : Addr} {oc : Value} {od an : Option Addr} {D4 : Array (Option Value)} {kV doc pm c6 ct : Value} (l : K.lookup f = some ⟨oc, od, .func (PySem.W.fnOf x qual (qd st) (eF st) (aq st) .none kV doc pm an c6 ct), D4⟩)
   (c : PySem.W.codeIn K c6 qual = true) (k : PySem.W.keepIn K (.ref f) = true) : jx K x qual st f (PySem.W.fnOf x qual (qd st) (eF st) (aq st) .none kV doc pm an c6 ct) := ⟨⟨oc, od, kV, doc, pm, an, c6, ct, D4, rfl, l, c⟩, k⟩
end
theorem cO {n : Nat} (h : n <= 1000) : n < sizeLine := Nat.lt_of_le_of_lt h (by decide)
section
variable {X : Cx}
end
theorem EA {A B : Prop} (h : B) : if false = true then A else B := by
 rw [aap aaB]
 exact h
theorem EB {A B : Prop} (h : A) : if true = true then A else B := by
 rw [aar rfl]
 exact h
def aA (H H' : Hp) : Prop := ∀ b o, H b = some o -> H' b = some o
theorem aA.refl (H : Hp) : aA H H := fun _ _ h => h
theorem aA.trans {H H1 H2 : Hp} (a : aA H H1) (b : aA H1 H2) : aA H H2 := fun c o h => b c o (a c o h)
theorem aA.free {H H' : Hp} (e : aA H H') {l : Addr} (h : H' l = Option.none) : H l = Option.none := by
 cases q : H l with
 | none => rfl
 | some o =>
   rw [e l o q] at h
   cases h
theorem aA.seq {K : PySem.W.Frag} {H H' : Hp} {a : Addr} {xs : List V} (e : aA H H') (h : j5 K H a xs) : j5 K H' a xs := by
 rcases h with (h | ⟨o, h⟩) | h
 . exact .inl (.inl (e _ _ h))
 . exact .inl (.inr ⟨o, e _ _ h⟩)
 . exact .inr h
section
variable {κ : Type} [DecidableEq κ]
end
section
variable {P : Program} {w : World} {H : Hp} {h : Heap} {a : Addr}
end
section
variable {X : Cx} {pins : List (Addr × Obj)} {σ : St} {H : Hp} {s : Shared} {a : Addr} {y v : V} {u r : Value} {o : Option V} {A : Around} {E : Value -> Shared -> Prop}
end
section
variable {X : Cx} {pins : List (Addr × Obj)} {σ : St} {H : Hp} {s : Shared} {a : Addr} {j4 : List (Key × V)} {k : Key} {u : Value} {A : Around} {E : Value -> Shared -> Prop}
end
section
variable {X : Cx} {o i e value : Expr} {pos pos' Vy : Pos} {td ty tv : TE}
end
section
variable {X : Cx} {pos : Pos}
end
section
variable {X : Cx} {pins : List (Addr × Obj)} {σ : St} {H : Hp} {s : Shared} {a : Addr} {y d : V} {u r : Value} {o : Option V} {A : Around} {E : Value -> Shared -> Prop}
end
section
variable {X : Cx} {o e f : Expr} {apos yu : Pos} {td ty tx : TE}
end
section
variable {X : Cx} {pins : List (Addr × Obj)} {σ : St} {H : Hp} {s : Shared} {a : Addr} {j4 : List (Key × V)} {A : Around} {E : Value -> Shared -> Prop}
end
section
variable {X : Cx} {pins : List (Addr × Obj)} {σ : St} {H : Hp} {s : Shared} {a : Addr} {y : V} {u : Value} {A : Around} {E : Value -> Shared -> Prop}
end
end L2
namespace L3
open PySem PySem.Spec PyProof.Rows L2
inductive D where
 | non | bl (b : Bool) | int (i : Int) | str (x : Str)
 | tup (ds : List D) | lst (ds : List D) | ins (c : Str) (fs : List (Str × D)) | qe (j4 : List (Key × D))
 | any
 | val (v : V)
inductive T where
 | sh (d : D) | tup (ts : List T) | lst (ts : List T) | ins (c : Str) (fs : List (Str × T)) | qe (j4 : List (Key × D))
 | pin (x : Addr) (t : T)
mutual
def T.cZ : T -> D
 | .sh d => d
 | .tup ts => .tup (fV ts)
 | .lst ts => .lst (fV ts)
 | .ins c fs => .ins c (lA fs)
 | .qe j4 => .qe j4
 | .pin _ t => t.cZ
def T.fV : List T -> List D
 | [] => []
 | t :: ts => t.cZ :: T.fV ts
def T.lA : List (Str × T) -> List (Str × D)
 | [] => []
 | (x, t) :: fs => (x, t.cZ) :: T.lA fs
end
variable (K : PySem.W.Frag) (CL : Str -> Addr)
mutual
inductive bu (Z : Hp) : D -> V -> Prop where
 | non : bu Z .non .non
 | bl (b : Bool) : bu Z (.bl b) (.bl b)
 | int (i : Int) : bu Z (.int i) (.int i)
 | str (x : Str) : bu Z (.str x) (.str x)
 | any (v : V) : bu Z .any v
 | val (v : V) : bu Z (.val v) v
 | tup {a : Addr} {vs : List V} {ds : List D} : qJ K Z a vs -> aC Z ds vs -> bu Z (.tup ds) (.ref a)
 | lst {a : Addr} {vs : List V} {ds : List D} : j5 K Z a vs -> aC Z ds vs -> bu Z (.lst ds) (.ref a)
 | ins {a dx : Addr} {c : Str} {gs : List (Str × V)} {fs : List (Str × D)} : Z a = some (.ins (CL c) dx gs) -> iy Z fs gs -> bu Z (.ins c fs) (.ref a)
 | qe {a : Addr} {gs : List (Key × V)} {fs : List (Key × D)} : Z a = some (.dK gs) -> fH Z fs gs -> bu Z (.qe fs) (.ref a)
inductive aC (Z : Hp) : List D -> List V -> Prop where
 | nil : aC Z [] []
 | cons {d : D} {v : V} {ds : List D} {vs : List V} : bu Z d v -> aC Z ds vs -> aC Z (d :: ds) (v :: vs)
inductive iy (Z : Hp) : List (Str × D) -> List (Str × V) -> Prop where
 | nil : iy Z [] []
 | cons {x : Str} {d : D} {v : V} {ds : List (Str × D)} {vs : List (Str × V)} : bu Z d v -> iy Z ds vs -> iy Z ((x, d) :: ds) ((x, v) :: vs)
inductive fH (Z : Hp) : List (Key × D) -> List (Key × V) -> Prop where
 | nil : fH Z [] []
 | cons {x : Key} {d : D} {v : V} {ds : List (Key × D)} {vs : List (Key × V)} : bu Z d v -> fH Z ds vs -> fH Z ((x, d) :: ds) ((x, v) :: vs)
end
mutual
inductive ck (H Z : Hp) : T -> V -> List Addr -> Prop where
 | sh {d : D} {v : V} : bu K CL Z d v -> ck H Z (.sh d) v []
 | tup {a : Addr} {vs : List V} {ts : List T} {fp : List Addr} : Z a = some (.tup vs) -> aN H Z ts vs fp -> ck H Z (.tup ts) (.ref a) fp
 | lst {a : Addr} {vs : List V} {ts : List T} {fp : List Addr} : H a = some (.lst vs) -> aN H Z ts vs fp -> ck H Z (.lst ts) (.ref a) (a :: fp)
 | ins {a dx : Addr} {c : Str} {gs : List (Str × V)} {fs : List (Str × T)} {fp : List Addr} : H a = some (.ins (CL c) dx gs) -> bS H Z fs gs fp -> ck H Z (.ins c fs) (.ref a) (a :: fp)
 | qe {a : Addr} {gs : List (Key × V)} {j4 : List (Key × D)} : H a = some (.dK gs) -> fH K CL Z j4 gs -> ck H Z (.qe j4) (.ref a) [a]
 | pin {x : Addr} {t : T} {fp : List Addr} : ck H Z t (.ref x) fp -> ck H Z (.pin x t) (.ref x) fp
inductive aN (H Z : Hp) : List T -> List V -> List Addr -> Prop where
 | nil : aN H Z [] [] []
 | cons {t : T} {v : V} {ts : List T} {vs : List V} {fp gp : List Addr} : ck H Z t v fp -> aN H Z ts vs gp -> aN H Z (t :: ts) (v :: vs) (fp ++ gp)
inductive bS (H Z : Hp) : List (Str × T) -> List (Str × V) -> List Addr -> Prop where
 | nil : bS H Z [] [] []
 | cons {x : Str} {t : T} {v : V} {ts : List (Str × T)} {vs : List (Str × V)} {fp gp : List Addr} : ck H Z t v fp -> bS H Z ts vs gp -> bS H Z ((x, t) :: ts) ((x, v) :: vs) (fp ++ gp)
end
inductive d8 (H Z : Hp) : List (Option T) -> L2.St -> List Addr -> Prop where
 | nil : d8 H Z [] [] []
 | skip {o : Option V} {δ : List (Option T)} {σ : L2.St} {fp : List Addr} : d8 H Z δ σ fp -> d8 H Z (none :: δ) (o :: σ) fp
 | cons {t : T} {v : V} {δ : List (Option T)} {σ : L2.St} {fp gp : List Addr} : ck K CL H Z t v fp -> d8 H Z δ σ gp -> d8 H Z (some t :: δ) (some v :: σ) (fp ++ gp)
section
variable {K : PySem.W.Frag} {CL : Str -> Addr}
theorem aA.Q9 {H H' : Hp} {a : Addr} {xs : List V} (e : aA H H') (h : qJ K H a xs) : qJ K H' a xs := by
 rcases h with (h | ⟨o, h⟩) | h
 . exact .inl (.inl (e _ _ h))
 . exact .inl (.inr ⟨o, e _ _ h⟩)
 . exact .inr h
mutual
theorem bu.mono {Z Z' : Hp} (e : aA Z Z') : ∀ {d : D} {v : V}, bu K CL Z d v -> bu K CL Z' d v
 | _, _, .non => .non
 | _, _, .bl b => .bl b
 | _, _, .int b => .int b
 | _, _, .str b => .str b
 | _, _, .any b => .any b
 | _, _, .val b => .val b
 | _, _, .tup h r => .tup (aA.Q9 e h) (aC.mono e r)
 | _, _, .lst h r => .lst (e.seq h) (aC.mono e r)
 | _, _, .ins h r => .ins (e _ _ h) (iy.mono e r)
 | _, _, .qe h r => .qe (e _ _ h) (fH.mono e r)
theorem aC.mono {Z Z' : Hp} (e : aA Z Z') : ∀ {d : List D} {v : List V}, aC K CL Z d v -> aC K CL Z' d v
 | _, _, .nil => .nil
 | _, _, .cons h r => .cons (bu.mono e h) (aC.mono e r)
theorem iy.mono {Z Z' : Hp} (e : aA Z Z') : ∀ {d : List (Str × D)} {v : List (Str × V)}, iy K CL Z d v -> iy K CL Z' d v
 | _, _, .nil => .nil
 | _, _, .cons h r => .cons (bu.mono e h) (iy.mono e r)
theorem fH.mono {Z Z' : Hp} (e : aA Z Z') : ∀ {d : List (Key × D)} {v : List (Key × V)}, fH K CL Z d v -> fH K CL Z' d v
 | _, _, .nil => .nil
 | _, _, .cons h r => .cons (bu.mono e h) (fH.mono e r)
end
mutual
theorem ck.mono {H H' Z Z' : Hp} (e : aA Z Z') : ∀ {t : T} {v : V} {fp : List Addr}, (∀ a ∈ fp, H' a = H a) -> ck K CL H Z t v fp -> ck K CL H' Z' t v fp
 | _, _, _, _, .sh h => .sh (h.mono e)
 | _, _, _, k, .tup h r => .tup (e _ _ h) (aN.mono e k r)
 | _, _, _, k, .lst h r => .lst (by rw [k _ aax]; exact h) (aN.mono e (fun a ha => k a (aay _ ha)) r)
 | _, _, _, k, .ins h r => .ins (by rw [k _ aax]; exact h) (bS.mono e (fun a ha => k a (aay _ ha)) r)
 | _, _, _, k, .qe h r => .qe (by rw [k _ aax]; exact h) (fH.mono e r)
 | _, _, _, k, .pin r => .pin (ck.mono e k r)
theorem aN.mono {H H' Z Z' : Hp} (e : aA Z Z') : ∀ {t : List T} {v : List V} {fp : List Addr}, (∀ a ∈ fp, H' a = H a) -> aN K CL H Z t v fp -> aN K CL H' Z' t v fp
 | _, _, _, _, .nil => .nil
 | _, _, _, k, .cons h r => .cons (ck.mono e (fun a ha => k a (aaJ _ ha)) h) (aN.mono e (fun a ha => k a (aao _ ha)) r)
theorem bS.mono {H H' Z Z' : Hp} (e : aA Z Z') : ∀ {t : List (Str × T)} {v : List (Str × V)} {fp : List Addr}, (∀ a ∈ fp, H' a = H a) -> bS K CL H Z t v fp -> bS K CL H' Z' t v fp
 | _, _, _, _, .nil => .nil
 | _, _, _, k, .cons h r => .cons (ck.mono e (fun a ha => k a (aaJ _ ha)) h) (bS.mono e (fun a ha => k a (aao _ ha)) r)
end
mutual
theorem ck.there {H Z : Hp} : ∀ {t : T} {v : V} {fp : List Addr}, ck K CL H Z t v fp -> ∀ a ∈ fp, ∃ o, H a = some o
 | _, _, _, .sh h => fun a ha => by cases ha
 | _, _, _, .tup h r => aN.there r
 | _, _, _, .lst h r => fun a ha => by
   rcases aau.mp ha with rfl | ha
   . exact ⟨_, h⟩
   . exact aN.there r a ha
 | _, _, _, .ins h r => fun a ha => by
   rcases aau.mp ha with rfl | ha
   . exact ⟨_, h⟩
   . exact bS.there r a ha
 | _, _, _, .qe h r => fun a ha => by
   rcases aau.mp ha with rfl | ha
   . exact ⟨_, h⟩
   . cases ha
 | _, _, _, .pin r => ck.there r
theorem aN.there {H Z : Hp} : ∀ {t : List T} {v : List V} {fp : List Addr}, aN K CL H Z t v fp -> ∀ a ∈ fp, ∃ o, H a = some o
 | _, _, _, .nil => fun a ha => by cases ha
 | _, _, _, .cons h r => fun a ha => (aaG.mp ha).elim (ck.there h a) (aN.there r a)
theorem bS.there {H Z : Hp} : ∀ {t : List (Str × T)} {v : List (Str × V)} {fp : List Addr}, bS K CL H Z t v fp -> ∀ a ∈ fp, ∃ o, H a = some o
 | _, _, _, .nil => fun a ha => by cases ha
 | _, _, _, .cons h r => fun a ha => (aaG.mp ha).elim (ck.there h a) (bS.there r a)
end
mutual
theorem ck.cZ {H Z Z' : Hp} (e : aA Z Z') : ∀ {t : T} {v : V} {fp : List Addr}, (∀ a ∈ fp, Z' a = H a) -> ck K CL H Z t v fp -> bu K CL Z' t.cZ v
 | _, _, _, _, .sh h => by rw [T.cZ]; exact h.mono e
 | _, _, _, k, .tup h r => by rw [T.cZ]; exact .tup (qJ.of (e _ _ h)) (aN.cZ e k r)
 | _, _, _, k, .lst h r => by rw [T.cZ]; exact .lst (j5.of (by rw [k _ aax]; exact h)) (aN.cZ e (fun a ha => k a (aay _ ha)) r)
 | _, _, _, k, .ins h r => by rw [T.cZ]; exact .ins (by rw [k _ aax]; exact h) (bS.cZ e (fun a ha => k a (aay _ ha)) r)
 | _, _, _, k, .qe h r => by rw [T.cZ]; exact .qe (by rw [k _ aax]; exact h) (fH.mono e r)
 | _, _, _, k, .pin r => by rw [T.cZ]; exact ck.cZ e k r
theorem aN.cZ {H Z Z' : Hp} (e : aA Z Z') : ∀ {t : List T} {v : List V} {fp : List Addr}, (∀ a ∈ fp, Z' a = H a) -> aN K CL H Z t v fp -> aC K CL Z' (T.fV t) v
 | _, _, _, _, .nil => by rw [T.fV]; exact .nil
 | _, _, _, k, .cons h r => by rw [T.fV]; exact .cons (ck.cZ e (fun a ha => k a (aaJ _ ha)) h) (aN.cZ e (fun a ha => k a (aao _ ha)) r)
theorem bS.cZ {H Z Z' : Hp} (e : aA Z Z') : ∀ {t : List (Str × T)} {v : List (Str × V)} {fp : List Addr}, (∀ a ∈ fp, Z' a = H a) -> bS K CL H Z t v fp -> iy K CL Z' (T.lA t) v
 | _, _, _, _, .nil => by rw [T.lA]; exact .nil
 | _, _, _, k, .cons h r => by rw [T.lA]; exact .cons (ck.cZ e (fun a ha => k a (aaJ _ ha)) h) (bS.cZ e (fun a ha => k a (aao _ ha)) r)
end
theorem aC.length {Z : Hp} : ∀ {d : List D} {v : List V}, aC K CL Z d v -> d.length = v.length
 | _, _, .nil => rfl
 | _, _, .cons _ r => by rw [aaL, aaL, aC.length r]
theorem aN.length {H Z : Hp} : ∀ {d : List T} {v : List V} {fp : List Addr}, aN K CL H Z d v fp -> d.length = v.length
 | _, _, _, .nil => rfl
 | _, _, _, .cons _ r => by rw [aaL, aaL, aN.length r]
theorem aC.get {Z : Hp} : ∀ {ds : List D} {vs : List V} {i : Nat} {d : D}, aC K CL Z ds vs -> ds[i]? = some d -> ∃ v, vs[i]? = some v /\ bu K CL Z d v
 | _, _, _, _, .nil, e => by simp at e
 | _, _, 0, _, .cons r _, e => by simp at e; subst e; exact ⟨_, rfl, r⟩
 | _, _, i + 1, d, .cons _ t, e => by
   obtain ⟨u, h1, h2⟩ := aC.get (i := i) (d := d) t (by simpa using e)
   exact ⟨u, by simpa using h1, h2⟩
theorem aC.EC {Z : Hp} : ∀ {ds : List D} {vs : List V} {i : Nat} {v : V}, aC K CL Z ds vs -> vs[i]? = some v -> ∃ d, ds[i]? = some d /\ bu K CL Z d v
 | _, _, _, _, .nil, e => by simp at e
 | _, _, 0, _, .cons r _, e => by simp at e; subst e; exact ⟨_, rfl, r⟩
 | _, _, i + 1, d, .cons _ t, e => by
   obtain ⟨u, h1, h2⟩ := aC.EC (i := i) (v := d) t (by simpa using e)
   exact ⟨u, by simpa using h1, h2⟩
theorem d8.get {H Z : Hp} : ∀ {δ : List (Option T)} {σ : L2.St} {fp : List Addr} {i : Nat} {t : T}, d8 K CL H Z δ σ fp -> δ[i]? = some (some t) →
   ∃ v f1 f2 f3, σ[i]? = some (some v) /\ fp = f1 ++ (f2 ++ f3) /\ ck K CL H Z t v f2 ∧
     (∀ {H' Z' : Hp} {t' : T} {v' : V} {g : List Addr}, aA Z Z' -> (∀ a ∈ f1 ++ f3, H' a = H a) -> ck K CL H' Z' t' v' g -> d8 K CL H' Z' (δ.set i (some t')) (σ.set i (some v')) (f1 ++ (g ++ f3))) ∧
     (∀ {o : Option V}, d8 K CL H Z (δ.set i none) (σ.set i o) (f1 ++ f3)) := by
 intro δ σ fp i t h
 have mono : ∀ {H H' Z Z' : Hp} {δ : List (Option T)} {σ : L2.St} {fp : List Addr}, aA Z Z' -> (∀ a ∈ fp, H' a = H a) -> d8 K CL H Z δ σ fp -> d8 K CL H' Z' δ σ fp := by
   intro H H' Z Z' δ σ fp e k r
   induction r with
   | nil => exact .nil
   | skip _ ih => exact .skip (ih k)
   | cons r _ ih => exact .cons (r.mono e fun a ha => k a (aaJ _ ha)) (ih fun a ha => k a (aao _ ha))
 induction h generalizing i with
 | nil => intro e; simp at e
 | @skip o δ σ fp r ih =>
   cases i with
   | zero => intro e; simp at e
   | succ i =>
     intro e
     obtain ⟨v, f1, f2, f3, h1, h2, h3, h4, h5⟩ := ih (i := i) (by simpa using e)
     exact ⟨v, f1, f2, f3, by simpa using h1, h2, h3, fun e k q => .skip (h4 e k q), .skip h5⟩
 | @cons t0 v0 δ σ fp gp r0 r ih =>
   cases i with
   | zero =>
     intro e
     simp at e
     subst e
     refine ⟨v0, [], fp, gp, rfl, rfl, r0, fun {H' Z' t' v' g} e k q => d8.cons (fp := g) (gp := gp) q (mono (fp := gp) e (fun a ha => k a (by simpa using ha)) r), .skip (by simpa using r)⟩
   | succ i =>
     intro e
     obtain ⟨v, f1, f2, f3, h1, h2, h3, h4, h5⟩ := ih (i := i) (by simpa using e)
     refine ⟨v, fp ++ f1, f2, f3, by simpa using h1, by rw [h2, List.append_assoc], h3, fun {H' Z' t' v' g} e k q => ?_, fun {o} => ?_⟩
     . rw [aav]
       exact .cons (r0.mono e fun a ha => k a (by simp [ha])) (h4 e (fun a ha => k a (by rw [aav]; exact aao _ ha)) q)
     . rw [aav]
       exact .cons r0 h5
theorem d8.mono {H H' Z Z' : Hp} {δ : List (Option T)} {σ : L2.St} {fp : List Addr} (e : aA Z Z') (k : ∀ a ∈ fp, H' a = H a) (r : d8 K CL H Z δ σ fp) : d8 K CL H' Z' δ σ fp := by
 induction r with
 | nil => exact .nil
 | skip _ ih => exact .skip (ih k)
 | cons r _ ih => exact .cons (r.mono e fun a ha => k a (aaJ _ ha)) (ih fun a ha => k a (aao _ ha))
theorem d8.there {H Z : Hp} {δ : List (Option T)} {σ : L2.St} {fp : List Addr} (r : d8 K CL H Z δ σ fp) : ∀ a ∈ fp, ∃ o, H a = some o := by
 induction r with
 | nil => intro a ha; cases ha
 | skip _ ih => exact ih
 | cons r _ ih => exact fun a ha => (aaG.mp ha).elim (r.there a) (ih a)
theorem d8.put {H Z : Hp} {δ : List (Option T)} {σ : L2.St} {fp : List Addr} (r : d8 K CL H Z δ σ fp) {t : T} {v : V} {g : List Addr} (q : ck K CL H Z t v g) :
   ∀ {i : Nat}, i < δ.length -> ∃ f, d8 K CL H Z (δ.set i (some t)) (σ.set i (some v)) f /\ ∃ f', f'.Sublist fp /\ f.Perm (g ++ f') := by
 induction r with
 | nil => intro i hi; simp at hi
 | @skip o δ σ fp r ih =>
   intro i hi
   cases i with
   | zero => exact ⟨g ++ fp, .cons q r, fp, aaZ _, ace _⟩
   | succ i =>
     obtain ⟨f, h1, f', h2, h3⟩ := ih (i := i) (by simpa using hi)
     exact ⟨f, .skip h1, f', h2, h3⟩
 | @cons t0 v0 δ σ fp gp r0 r ih =>
   intro i hi
   cases i with
   | zero => exact ⟨g ++ gp, .cons q r, gp, abo _ _, ace _⟩
   | succ i =>
     obtain ⟨f, h1, f', h2, h3⟩ := ih (i := i) (by simpa using hi)
     refine ⟨fp ++ f, .cons r0 h1, fp ++ f', aa2 (aaZ _) h2, ?_⟩
     refine (abf fp h3).trans ?_
     rw [← aav, ← aav]
     exact List.Perm.append_right f' aa7
end
def yx (X : Cx) (e : Expr) : TE := fun σ H Q => ∀ (pins : List (Addr × Obj)) (s : Shared), Inv X pins σ H s -> wpAny (model X.prog X.w) X.A (eval e X.env) (EP X pins σ Q) X.xe s
def Ih (X : Cx) (e : Expr) : TT := fun σ H Q => ∀ (pins : List (Addr × Obj)) (s : Shared), Inv X pins σ H s -> wpAny (model X.prog X.w) X.A (isTrue e X.env (eval e X.env)) (TP X pins σ Q) X.xe s
def ED (X : Cx) (es : List Expr) : TA := fun σ H Q => ∀ (pos : Pos) (pins : List (Addr × Obj)) (s : Shared), Inv X pins σ H s -> wpAny (model X.prog X.w) X.A (spliced (backTo pos (starEach es X.env))) (AP X pins σ Q) X.xe s
def N5 (X : Cx) (st : Stmt) : TS := fun D σ H => ∀ (pins : List (Addr × Obj)) (s : Shared), Inv X pins σ H s -> wpAny (model X.prog X.w) X.A (exec st X.env) (SP X pins D) X.xe s
def N6 (X : Cx) (st : List Stmt) : TS := fun D σ H => ∀ (pins : List (Addr × Obj)) (s : Shared), Inv X pins σ H s -> wpAny (model X.prog X.w) X.A (execs st X.env) (SP X pins D) X.xe s
section
variable {X : Cx}
theorem dR {e : Expr} : PE X e (yx X e) := fun pins s _ _ _ I h => h pins s I
theorem N7 {e : Expr} : PT X e (Ih X e) := fun pins s _ _ _ I h => h pins s I
theorem Ii {e : List Expr} : PA X e (ED X e) := fun pos pins s _ _ _ I h => h pos pins s I
theorem Yq {e : Stmt} : PS X e (N5 X e) := fun pins s _ _ _ I h => h pins s I
theorem Ij {e : List Stmt} : z6 X e (N6 X e) := fun pins s _ _ _ I h => h pins s I
theorem cV {e : Expr} {t : TE} (h : PE X e t) {σ : L2.St} {H : Hp} {Q : VK} (q : t σ H Q) : yx X e σ H Q := fun pins s I => h pins s σ H Q I q
theorem Al {e : Expr} {t : TT} (h : PT X e t) {σ : L2.St} {H : Hp} {Q : Bool -> Hp -> Prop} (q : t σ H Q) : Ih X e σ H Q := fun pins s I => h pins s σ H Q I q
theorem C3 {e : List Expr} {t : TA} (h : PA X e t) {σ : L2.St} {H : Hp} {Q : List V -> Hp -> Prop} (q : t σ H Q) : ED X e σ H Q := fun pos pins s I => h pos pins s σ H Q I q
theorem uU {e : Stmt} {t : TS} (h : PS X e t) {σ : L2.St} {H : Hp} {D : Ends} (q : t D σ H) : N5 X e D σ H := fun pins s I => h pins s σ H D I q
theorem Sd {e : List Stmt} {t : TS} (h : z6 X e t) {σ : L2.St} {H : Hp} {D : Ends} (q : t D σ H) : N6 X e D σ H := fun pins s I => h pins s σ H D I q
end
def notStar : Expr -> Bool
 | .Starred _ _ => false
 | _ => true
theorem bN {e : Expr} {es : List Expr} {env : Env} (h : notStar e = true) : starEach (e :: es) env = (false, eval e env) :: starEach es env := by
 cases e <;> first | rfl | (cases h)
structure Bx where
 B : Hp
 Z : Hp
def gq : HO -> Bool
 | .tup _ => true
 | .cZ _ _ => true
 | _ => false
def yy (x : Str) : Bool := x.cps[0]? == some 35
def Am (x : Str) : Str := ⟨x.cps.extract 1 x.cps.size⟩
def jC (CL : Str -> Addr) (Z : Hp) : Prop := ∀ x, yy x = true -> CL x ≠ 0 -> Z (CL x) = some (.tabs (Am x))
structure bP (K : PySem.W.Frag) (CL : Str -> Addr) (b : Bx) (H Z : Hp) (δ : List (Option T)) (σ : L2.St) (ts : List T) (vs : List V) : Prop where
 rep : ∃ fp gp, d8 K CL H Z δ σ fp /\ aN K CL H Z ts vs gp /\ (fp ++ gp).Nodup /\ ∀ a ∈ fp ++ gp, Z a = none /\ b.B a = none
 bh : aA b.B H
 zz : aA b.Z Z
 zh : aA Z H
 new : ∀ a o, Z a = some o -> b.Z a = none -> b.B a = none
 tp : ∀ a o, H a = some o -> gq o = true -> Z a = some o
 tab : jC CL b.Z
section
variable {K : PySem.W.Frag} {CL : Str -> Addr} {b : Bx} {H H' Z Z' : Hp} {δ δ' : List (Option T)} {σ σ' : L2.St} {ts Yr : List T} {vs VM : List V} {t : T} {v : V}
theorem jC.mono {A B : Hp} (h : jC CL A) (e : aA A B) : jC CL B := fun x hx h0 => e _ _ (h x hx h0)
theorem bP.Se (S : bP K CL b H Z δ σ ts vs) : jC CL Z := S.tab.mono S.zz
theorem bP.C4 (S : bP K CL b H Z δ σ ts vs) : jC CL H := S.Se.mono S.zh
theorem N8 {A B : Hp} (e : aA A B) {a : Addr} (h : B a = none) : A a = none := e.free h
theorem aA.upd {H : Hp} {p : Addr} {o : HO} (h : H p = none) : aA H (upd H p o) := fun b u e => by rw [au (aD e h)]; exact e
theorem bP.view (S : bP K CL b H Z δ σ (t :: ts) (v :: vs)) : bu K CL H t.cZ v := by
 obtain ⟨fp, gp, _, r, _, _⟩ := S.rep
 cases r with
 | cons r _ => exact r.cZ S.zh fun _ _ => rfl
theorem bP.pop (S : bP K CL b H Z δ σ (t :: ts) (v :: vs)) : bP K CL b H Z δ σ ts vs := by
 obtain ⟨fp, gp, e, r, nd, k⟩ := S.rep
 cases r with
 | @cons _ _ _ _ f1 f2 r1 r2 =>
   refine ⟨⟨fp, f2, e, r2, nd.sublist (aa2 (aaZ _) (abo _ _)), fun a ha => k a ?_⟩, S.bh, S.zz, S.zh, S.new, S.tp, S.tab⟩
   rcases aaG.mp ha with h | h
   . exact aaJ _ h
   . exact aao _ (aao _ h)
theorem bP.push {d : D} (S : bP K CL b H Z δ σ ts vs) (r : bu K CL Z d v) : bP K CL b H Z δ σ (.sh d :: ts) (v :: vs) := by
 obtain ⟨fp, gp, e, r2, nd, k⟩ := S.rep
 exact ⟨⟨fp, [] ++ gp, e, .cons (.sh r) r2, nd, k⟩, S.bh, S.zz, S.zh, S.new, S.tp, S.tab⟩
theorem bP.EE (S : bP K CL b H Z δ σ (t :: ts) (v :: vs)) : ∃ Z', aA Z Z' /\ bP K CL b H Z' δ σ (.sh t.cZ :: ts) (v :: vs) := by
 classical
 obtain ⟨fp, gp, e, r, nd, k⟩ := S.rep
 cases r with
 | @cons _ _ _ _ f1 f2 r1 r2 =>
   have nZ : ∀ a ∈ f1, Z a = none /\ b.B a = none := fun a ha => k a (aao _ (aaJ _ ha))
   have sz : aA Z (fun a => if a ∈ f1 then H a else Z a) := fun a o q => by
     by_cases ha : a ∈ f1
     . rw [(nZ a ha).1] at q; cases q
     . show (if a ∈ f1 then H a else Z a) = some o
       rw [aap ha]; exact q
   have Sf := aa9.mp nd
   have dj : ∀ a ∈ fp ++ f2, a ∉ f1 := fun a ha h1 => by
     rcases aaG.mp ha with h | h
     . exact Sf.2.2 a h a (aaJ _ h1) rfl
     . exact (aa9.mp Sf.2.1).2.2 a h1 a h rfl
   refine ⟨fun a => if a ∈ f1 then H a else Z a, sz, ⟨⟨fp, [] ++ f2, e.mono sz (fun _ _ => rfl), .cons (.sh (r1.cZ sz fun a ha => aar ha)) (r2.mono sz fun _ _ => rfl), ?_, fun a ha => ?_⟩, S.bh, S.zz.trans sz, fun a o q => ?_, fun a o q z => ?_, fun a o q i => ?_, S.tab⟩⟩
   . exact nd.sublist (aa2 (aaZ _) (abo _ _))
   . have EF : a ∈ fp ++ f2 := ha
     refine ⟨?_, (k a ?_).2⟩
     . show (if a ∈ f1 then H a else Z a) = none
       rw [aap (dj a EF)]
       refine (k a ?_).1
       rcases aaG.mp EF with h | h
       . exact aaJ _ h
       . exact aao _ (aao _ h)
     . rcases aaG.mp EF with h | h
       . exact aaJ _ h
       . exact aao _ (aao _ h)
   . have q' : (if a ∈ f1 then H a else Z a) = some o := q
     by_cases ha : a ∈ f1
     . rw [aar ha] at q'; exact q'
     . rw [aap ha] at q'; exact S.zh a o q'
   . have q' : (if a ∈ f1 then H a else Z a) = some o := q
     by_cases ha : a ∈ f1
     . exact (nZ a ha).2
     . rw [aap ha] at q'; exact S.new a o q' z
   . exact sz a o (S.tp a o q i)
theorem bP.Ik {i : Nat} (S : bP K CL b H Z δ σ ts vs) (hi : δ[i]? = some (some t)) : ∃ v Z', σ[i]? = some (some v) /\ aA Z Z' /\ bP K CL b H Z' (δ.set i (some (.sh t.cZ))) σ (.sh t.cZ :: ts) (v :: vs) := by
 classical
 obtain ⟨fp, gp, e, r, nd, k⟩ := S.rep
 obtain ⟨v, f1, f2, f3, hv, qf, rt, put, _⟩ := e.get hi
 subst qf
 have nZ : ∀ a ∈ f2, Z a = none /\ b.B a = none := fun a ha => k a (by simp [ha])
 have sz : aA Z (fun a => if a ∈ f2 then H a else Z a) := fun a o q => by
   by_cases ha : a ∈ f2
   . rw [(nZ a ha).1] at q; cases q
   . show (if a ∈ f2 then H a else Z a) = some o
     rw [aap ha]; exact q
 have dj : ∀ a ∈ (f1 ++ f3) ++ gp, a ∉ f2 := fun a ha h2 => by
   have hp : ((f1 ++ (f2 ++ f3)) ++ gp).Perm (f2 ++ ((f1 ++ f3) ++ gp)) := by
     rw [← aav, ← aav]
     refine (List.perm_append_right_iff gp).mpr ?_
     rw [← aav]
     exact (List.perm_append_right_iff f3).mpr aa7
   exact (aa9.mp (hp.nodup_iff.mp nd)).2.2 a h2 a ha rfl
 have rF : bu K CL (fun a => if a ∈ f2 then H a else Z a) t.cZ v := rt.cZ sz fun a ha => aar ha
 have N9 : σ.set i (some v) = σ := by
   apply abN
   intro j
   rw [List.getElem?_set]
   split
   . rename_i h; subst h
     split
     . exact hv.symm
     . rename_i h2; rw [ab1 (by omega)]
   . rfl
 have e2 : d8 K CL H (fun a => if a ∈ f2 then H a else Z a) (δ.set i (some (.sh t.cZ))) σ (f1 ++ ([] ++ f3)) := by
   have := put (H' := H) (t' := .sh t.cZ) (v' := v) (g := []) sz (fun _ _ => rfl) (.sh rF)
   rwa [N9] at this
 refine ⟨v, fun a => if a ∈ f2 then H a else Z a, hv, sz, ⟨⟨f1 ++ ([] ++ f3), [] ++ gp, e2, .cons (.sh rF) (r.mono sz fun _ _ => rfl), ?_, fun a ha => ?_⟩, S.bh, S.zz.trans sz, fun a o q => ?_, fun a o q z => ?_, fun a o q i => sz a o (S.tp a o q i), S.tab⟩⟩
 . exact nd.sublist (aa2 (aa2 (aaZ _) (abo _ _)) (aaZ _))
 . have EF : a ∈ (f1 ++ f3) ++ gp := ha
   have hm : a ∈ (f1 ++ (f2 ++ f3)) ++ gp := by
     simp only [aaG] at EF ⊢
     rcases EF with (h | h) | h
     . exact .inl (.inl h)
     . exact .inl (.inr (.inr h))
     . exact .inr h
   refine ⟨?_, (k a hm).2⟩
   show (if a ∈ f2 then H a else Z a) = none
   rw [aap (dj a EF)]
   exact (k a hm).1
 . have q' : (if a ∈ f2 then H a else Z a) = some o := q
   by_cases ha : a ∈ f2
   . rw [aar ha] at q'; exact q'
   . rw [aap ha] at q'; exact S.zh a o q'
 . have q' : (if a ∈ f2 then H a else Z a) = some o := q
   by_cases ha : a ∈ f2
   . exact (nZ a ha).2
   . rw [aap ha] at q'; exact S.new a o q' z
theorem bP.move {i : Nat} (S : bP K CL b H Z δ σ ts vs) (hi : δ[i]? = some (some t)) : ∃ v, σ[i]? = some (some v) /\ bP K CL b H Z (δ.set i none) σ (t :: ts) (v :: vs) := by
 obtain ⟨fp, gp, e, r, nd, k⟩ := S.rep
 obtain ⟨v, f1, f2, f3, hv, qf, rt, _, del⟩ := e.get hi
 subst qf
 have N9 : σ.set i (some v) = σ := by
   apply abN
   intro j
   rw [List.getElem?_set]
   split
   . rename_i h; subst h
     split
     . exact hv.symm
     . rename_i h2; rw [ab1 (by omega)]
   . rfl
 have hp : ((f1 ++ (f2 ++ f3)) ++ gp).Perm ((f1 ++ f3) ++ (f2 ++ gp)) := by
   have h1 : (f2 ++ f3).Perm (f3 ++ f2) := aa7
   have h2 := (abf f1 h1).append_right gp
   simp only [aav] at h2 ⊢
   exact h2
 refine ⟨v, hv, ⟨⟨f1 ++ f3, f2 ++ gp, ?_, .cons rt r, hp.nodup_iff.mp nd, fun a ha => k a (hp.mem_iff.mpr ha)⟩, S.bh, S.zz, S.zh, S.new, S.tp, S.tab⟩⟩
 have := del (o := some v)
 rwa [N9] at this
theorem bP.look {i : Nat} (S : bP K CL b H Z δ σ ts vs) (hi : δ[i]? = some (some t)) : ∃ v, σ[i]? = some (some v) /\ bu K CL H t.cZ v := by
 obtain ⟨fp, gp, e, r, nd, k⟩ := S.rep
 obtain ⟨v, f1, f2, f3, hv, qf, rt, _, _⟩ := e.get hi
 exact ⟨v, hv, rt.cZ S.zh fun _ _ => rfl⟩
theorem bP.Mp {i : Nat} {d : D} (S : bP K CL b H Z δ σ ts vs) (hi : δ[i]? = some (some (.sh d))) : ∃ v, σ[i]? = some (some v) /\ bu K CL Z d v := by
 obtain ⟨fp, gp, e, r, nd, k⟩ := S.rep
 obtain ⟨v, f1, f2, f3, hv, qf, rt, _, _⟩ := e.get hi
 cases rt with
 | sh h => exact ⟨v, hv, h⟩
theorem bP.set {i : Nat} (S : bP K CL b H Z δ σ (t :: ts) (v :: vs)) (hi : i < δ.length) : bP K CL b H Z (δ.set i (some t)) (σ.set i (some v)) ts vs := by
 obtain ⟨fp, gp, e, r, nd, k⟩ := S.rep
 cases r with
 | @cons _ _ _ _ f1 f2 r1 r2 =>
   obtain ⟨f, h1, f', h2, h3⟩ := e.put r1 hi
   have hp : (f ++ f2).Perm (f' ++ (f1 ++ f2)) := by
     refine (h3.append_right f2).trans ?_
     rw [← aav]
     exact aa7.append_right f2
   have Sg : (f' ++ (f1 ++ f2)).Sublist (fp ++ (f1 ++ f2)) := aa2 h2 (aaZ _)
   exact ⟨⟨f, f2, h1, r2, hp.nodup_iff.mpr (nd.sublist Sg), fun a ha => k a (Sg.subset (hp.mem_iff.mp ha))⟩, S.bh, S.zz, S.zh, S.new, S.tp, S.tab⟩
end
mutual
def D.iP : D -> Bool
 | .tup ds => D.bO ds
 | .lst _ => false
 | .ins _ _ => false
 | .qe _ => false
 | .any => false
 | _ => true
def D.bO : List D -> Bool
 | [] => true
 | d :: ds => d.iP && D.bO ds
end
mutual
def T.clean : T -> Bool
 | .sh d => d.iP
 | .tup ts => T.dG ts
 | .lst ts => T.dG ts
 | .ins _ fs => T.aV fs
 | .qe j4 => D.bO (j4.map (·.2))
 | .pin _ t => t.clean
def T.dG : List T -> Bool
 | [] => true
 | t :: ts => t.clean && T.dG ts
def T.aV : List (Str × T) -> Bool
 | [] => true
 | (_, t) :: ts => t.clean && T.aV ts
end
def bX (X : Cx) (CL : Str -> Addr) (b : Bx) (e : Expr) (δ : List (Option T)) (t : T) (δ' : List (Option T)) : Prop :=
 ∀ (H Z : Hp) (σ : L2.St) (ts : List T) (vs : List V) (Q : VK), bP X.K CL b H Z δ σ ts vs -> (∀ v H' Z', aA Z Z' -> aA H H' -> bP X.K CL b H' Z' δ' σ (t :: ts) (v :: vs) -> Q v H') -> yx X e σ H Q
def cA (X : Cx) (CL : Str -> Addr) (b : Bx) (e : Expr) (δ : List (Option T)) (d : D) (δ' : List (Option T)) : Prop :=
 ∀ (H Z : Hp) (σ : L2.St) (ts : List T) (vs : List V) (Q : VK), bP X.K CL b H Z δ σ ts vs -> (∀ v H' Z', aA Z Z' -> aA H H' -> bP X.K CL b H' Z' δ' σ ts vs -> bu X.K CL H' d v -> Q v H') -> yx X e σ H Q
def mH (X : Cx) (CL : Str -> Addr) (b : Bx) (e : Expr) (δ : List (Option T)) (p : Bool) (δ' : List (Option T)) : Prop :=
 ∀ (H Z : Hp) (σ : L2.St) (ts : List T) (vs : List V) (Q : Bool -> Hp -> Prop), bP X.K CL b H Z δ σ ts vs -> (∀ H' Z', aA Z Z' -> aA H H' -> bP X.K CL b H' Z' δ' σ ts vs -> Q p H') -> Ih X e σ H Q
def An (X : Cx) (CL : Str -> Addr) (b : Bx) (es : List Expr) (δ : List (Option T)) (tl : List T) (δ' : List (Option T)) : Prop :=
 ∀ (H Z : Hp) (σ : L2.St) (ts : List T) (vs : List V) (Q : List V -> Hp -> Prop), bP X.K CL b H Z δ σ ts vs →
   (∀ us H' Z', us.length = tl.length -> aA Z Z' -> aA H H' -> bP X.K CL b H' Z' δ' σ (tl.reverse ++ ts) (us.reverse ++ vs) -> Q us H') -> ED X es σ H Q
def Mq (X : Cx) (CL : Str -> Addr) (b : Bx) (es : List Expr) (δ : List (Option T)) (ds : List D) (δ' : List (Option T)) : Prop :=
 ∀ (H Z : Hp) (σ : L2.St) (ts : List T) (vs : List V) (Q : List V -> Hp -> Prop), bP X.K CL b H Z δ σ ts vs →
   (∀ us H' Z', aA Z Z' -> aA H H' -> bP X.K CL b H' Z' δ' σ ts vs -> aC X.K CL H' ds us -> Q us H') -> ED X es σ H Q
structure cC where
 nx : List (Option T) -> Prop
 rt : T -> List (Option T) -> Prop
 bk : List (Option T) -> Prop := fun _ => False
 ct : List (Option T) -> Prop := fun _ => False
structure Meets (K : PySem.W.Frag) (CL : Str -> Addr) (b : Bx) (Z : Hp) (ts : List T) (vs : List V) (D : cC) (E : Ends) : Prop where
 nx : ∀ δ' σ' H' Z', aA Z Z' -> bP K CL b H' Z' δ' σ' ts vs -> D.nx δ' -> E.nx σ' H'
 rt : ∀ t v H' Z' δ' σ', aA Z Z' -> bP K CL b H' Z' δ' σ' (t :: ts) (v :: vs) -> D.rt t δ' -> E.rt v H'
 bk : ∀ δ' σ' H' Z', aA Z Z' -> bP K CL b H' Z' δ' σ' ts vs -> D.bk δ' -> E.bk σ' H'
 ct : ∀ δ' σ' H' Z', aA Z Z' -> bP K CL b H' Z' δ' σ' ts vs -> D.ct δ' -> E.ct σ' H'
def Mr (X : Cx) (CL : Str -> Addr) (b : Bx) (st : Stmt) (δ : List (Option T)) (D : cC) : Prop :=
 ∀ (H Z : Hp) (σ : L2.St) (ts : List T) (vs : List V) (E : Ends), bP X.K CL b H Z δ σ ts vs -> Meets X.K CL b Z ts vs D E -> N5 X st E σ H
def d9 (X : Cx) (CL : Str -> Addr) (b : Bx) (st : List Stmt) (δ : List (Option T)) (D : cC) : Prop :=
 ∀ (H Z : Hp) (σ : L2.St) (ts : List T) (vs : List V) (E : Ends), bP X.K CL b H Z δ σ ts vs -> Meets X.K CL b Z ts vs D E -> N6 X st E σ H
section
variable {K : PySem.W.Frag} {CL : Str -> Addr} {b : Bx} {H H' Z Z' : Hp} {δ δ' : List (Option T)} {σ σ' : L2.St} {ts Yr : List T} {vs VM : List V} {t : T} {v : V}
theorem Meets.mono {D : cC} {E : Ends} (M : Meets K CL b Z ts vs D E) (e : aA Z Z') : Meets K CL b Z' ts vs D E :=
 ⟨fun _ _ _ _ s => M.nx _ _ _ _ (e.trans s), fun _ _ _ _ _ _ s => M.rt _ _ _ _ _ _ (e.trans s), fun _ _ _ _ s => M.bk _ _ _ _ (e.trans s), fun _ _ _ _ s => M.ct _ _ _ _ (e.trans s)⟩
theorem Il {a : Addr} {xs : List V} (zh : ∀ a o, H a = some o -> gq o = true -> Z a = some o) (h : qJ K H a xs) : qJ K Z a xs := by
 rcases h with (h | ⟨o, h⟩) | h
 . exact .inl (.inl (zh _ _ h rfl))
 . exact .inl (.inr ⟨o, zh _ _ h rfl⟩)
 . exact .inr h
mutual
theorem bu.iP (zh : ∀ a o, H a = some o -> gq o = true -> Z a = some o) : ∀ {d : D} {v : V}, d.iP = true -> bu K CL H d v -> bu K CL Z d v
 | _, _, _, .non => .non
 | _, _, _, .bl b => .bl b
 | _, _, _, .int b => .int b
 | _, _, _, .str b => .str b
 | _, _, k, .any b => by rw [D.iP] at k; cases k
 | _, _, _, .val b => .val b
 | _, _, k, .tup h r => .tup (Il zh h) (aC.iP zh (by rw [D.iP] at k; exact k) r)
 | _, _, k, .lst h r => by rw [D.iP] at k; cases k
 | _, _, k, .ins h r => by rw [D.iP] at k; cases k
 | _, _, k, .qe h r => by rw [D.iP] at k; cases k
theorem aC.iP (zh : ∀ a o, H a = some o -> gq o = true -> Z a = some o) : ∀ {d : List D} {v : List V}, D.bO d = true -> aC K CL H d v -> aC K CL Z d v
 | _, _, _, .nil => .nil
 | _, _, k, .cons h r => by
   rw [D.bO, aa8] at k
   exact .cons (bu.iP zh k.1 h) (aC.iP zh k.2 r)
end
theorem fH.clean {Z1 : Hp} (zi : ∀ {d : D} {v : V}, d.iP = true -> bu K CL Z1 d v -> bu K CL Z d v) : ∀ {j4 : List (Key × D)} {gs : List (Key × V)}, D.bO (j4.map (·.2)) = true -> fH K CL Z1 j4 gs -> fH K CL Z j4 gs
 | _, _, _, .nil => .nil
 | _, _, k, .cons h r => by
   rw [aa3, D.bO, aa8] at k
   exact .cons (zi k.1 h) (fH.clean zi k.2 r)
mutual
theorem ck.clean {Z1 : Hp} (zh : ∀ a xs, Z1 a = some (.tup xs) -> Z a = some (.tup xs)) (zi : ∀ {d : D} {v : V}, d.iP = true -> bu K CL Z1 d v -> bu K CL Z d v) : ∀ {t : T} {v : V} {fp : List Addr}, t.clean = true -> ck K CL H Z1 t v fp -> ck K CL H Z t v fp
 | _, _, _, k, .sh h => .sh (zi (by rw [T.clean] at k; exact k) h)
 | _, _, _, k, .tup h r => .tup (zh _ _ h) (aN.clean zh zi (by rw [T.clean] at k; exact k) r)
 | _, _, _, k, .lst h r => .lst h (aN.clean zh zi (by rw [T.clean] at k; exact k) r)
 | _, _, _, k, .ins h r => .ins h (bS.clean zh zi (by rw [T.clean] at k; exact k) r)
 | _, _, _, k, .qe h r => .qe h (fH.clean zi (by rw [T.clean] at k; exact k) r)
 | _, _, _, k, .pin r => .pin (ck.clean zh zi (by rw [T.clean] at k; exact k) r)
theorem aN.clean {Z1 : Hp} (zh : ∀ a xs, Z1 a = some (.tup xs) -> Z a = some (.tup xs)) (zi : ∀ {d : D} {v : V}, d.iP = true -> bu K CL Z1 d v -> bu K CL Z d v) : ∀ {t : List T} {v : List V} {fp : List Addr}, T.dG t = true -> aN K CL H Z1 t v fp -> aN K CL H Z t v fp
 | _, _, _, _, .nil => .nil
 | _, _, _, k, .cons h r => by
   rw [T.dG, aa8] at k
   exact .cons (ck.clean zh zi k.1 h) (aN.clean zh zi k.2 r)
theorem bS.clean {Z1 : Hp} (zh : ∀ a xs, Z1 a = some (.tup xs) -> Z a = some (.tup xs)) (zi : ∀ {d : D} {v : V}, d.iP = true -> bu K CL Z1 d v -> bu K CL Z d v) : ∀ {t : List (Str × T)} {v : List (Str × V)} {fp : List Addr}, T.aV t = true -> bS K CL H Z1 t v fp -> bS K CL H Z t v fp
 | _, _, _, _, .nil => .nil
 | _, _, _, k, .cons h r => by
   rw [T.aV, aa8] at k
   exact .cons (ck.clean zh zi k.1 h) (bS.clean zh zi k.2 r)
end
theorem bP.back {W W' : Hp} {fp : List Addr} (S : bP K CL b H Z δ σ ts vs) (hh : aA H H') (zw : aA Z W) (ww : aA W W') (wh : aA W' H') (new : ∀ a o, W' a = some o -> W a = none -> H a = none)
   (tp : ∀ a o, H' a = some o -> gq o = true -> W' a = some o) (r : ck K CL H' W' t v fp) (nd : fp.Nodup) (own : ∀ a ∈ fp, W' a = none /\ H a = none) (c : W = Z \/ t.clean = true) :
   ∃ Z', aA Z Z' /\ bP K CL b H' Z' δ σ (t :: ts) (v :: vs) := by
 classical
 let Z' : Hp := fun a => if (H a).isSome = true then Z a else W' a
 have zs : ∀ {a : Addr} {o : HO}, H a = some o -> Z' a = Z a := fun {a o} e => by
   show (if (H a).isSome = true then Z a else W' a) = Z a
   rw [aar (by rw [e]; rfl)]
 have zn : ∀ {a : Addr}, H a = none -> Z' a = W' a := fun {a} e => by
   show (if (H a).isSome = true then Z a else W' a) = W' a
   rw [aap (by rw [e]; simp)]
 have sz : aA Z Z' := fun a o q => by rw [zs (S.zh a o q)]; exact q
 have Ys : ∀ a o, Z' a = some o -> W' a = some o := fun a o q => by
   cases e : H a with
   | none => rw [zn e] at q; exact q
   | some u => rw [zs e] at q; exact ww a o (zw a o q)
 have VN : ∀ a o, H' a = some o -> gq o = true -> Z' a = some o := fun a o q i => by
   cases e : H a with
   | none => rw [zn e]; exact tp a o q i
   | some u =>
     rw [zs e]
     have := hh a u e
     rw [q] at this; cases this
     exact S.tp a o e i
 have r' : ck K CL H' Z' t v fp := by
   rcases c with c | c
   . have : Z' = W' := by
       funext a
       cases e : H a with
       | none => exact zn e
       | some u =>
         rw [zs e]
         cases q : W' a with
         | none =>
           cases q2 : Z a with
           | none => rfl
           | some o => rw [ww a o (zw a o q2)] at q; cases q
         | some o =>
           cases q2 : W a with
           | none => rw [new a o q q2] at e; cases e
           | some o2 =>
             have := ww a o2 q2
             rw [q] at this; cases this
             rw [← c]; exact q2
     rw [this]; exact r
   . refine ck.clean (fun a xs h => ?_) (fun {d v} k h => ?_) c r
     . exact VN a _ (wh a _ h) rfl
     . exact bu.iP (H := H') VN k (h.mono wh)
 obtain ⟨f0, g0, e0, r0, Yt, k0⟩ := S.rep
 have old : ∀ a ∈ f0 ++ g0, ∃ o, H a = some o := fun a ha => (aaG.mp ha).elim (e0.there a) (r0.there a)
 have keep : ∀ a ∈ f0 ++ g0, H' a = H a := fun a ha => by
   obtain ⟨o, e⟩ := old a ha
   rw [e]; exact hh a o e
 refine ⟨Z', sz, ⟨⟨f0, fp ++ g0, e0.mono sz (fun a ha => keep a (aaJ _ ha)), .cons r' (r0.mono sz fun a ha => keep a (aao _ ha)), ?_, fun a ha => ?_⟩, S.bh.trans hh, S.zz.trans sz, fun a o q => wh a o (Ys a o q), fun a o q z => ?_, VN, S.tab⟩⟩
 . have hp : (f0 ++ (fp ++ g0)).Perm (fp ++ (f0 ++ g0)) := by
     rw [← aav, ← aav]
     exact aa7.append_right g0
   refine hp.nodup_iff.mpr (aa9.mpr ⟨nd, Yt, fun a ha c hc e => ?_⟩)
   subst e
   obtain ⟨o, q⟩ := old a hc
   rw [(own a ha).2] at q; cases q
 . have : a ∈ f0 ++ g0 \/ a ∈ fp := by
     simp only [aaG] at ha ⊢
     rcases ha with h | h | h
     . exact .inl (.inl h)
     . exact .inr h
     . exact .inl (.inr h)
   rcases this with h | h
   . obtain ⟨o, q⟩ := old a h
     exact ⟨by rw [zs q]; exact (k0 a h).1, (k0 a h).2⟩
   . exact ⟨by rw [zn (own a h).2]; exact (own a h).1, S.bh.free (own a h).2⟩
 . cases e : H a with
   | none => exact S.bh.free e
   | some u => rw [zs e] at q; exact S.new a o q z
end
section
variable {X : Cx} {CL : Str -> Addr} {b : Bx} {δ δ1 δ2 δ3 : List (Option T)} {e e1 e2 : Expr} {t t1 t2 : T} {d d1 d2 : D} {pos : Pos}
theorem Ms (h : bX X CL b e δ t δ1) : cA X CL b e δ t.cZ δ1 := fun H Z σ ts vs Q S k => h H Z σ ts vs Q S fun v H' Z' z s S' => k v H' Z' z s S'.pop S'.view
theorem ah (h : bX X CL b e δ (.sh d) δ1) : cA X CL b e δ d δ1 := by have := Ms h; rwa [T.cZ] at this
theorem cK (h : cA X CL b e δ d δ1) (i : d.iP = true) : bX X CL b e δ (.sh d) δ1 := fun H Z σ ts vs Q S k => h H Z σ ts vs Q S fun v H' Z' z s S' r => k v H' Z' z s (S'.push (bu.iP S'.tp i r))
theorem Ao (h : bX X CL b e δ t δ1) : bX X CL b e δ (.sh t.cZ) δ1 := fun H Z σ ts vs Q S k => h H Z σ ts vs Q S fun v H' Z' z s S' => by
 obtain ⟨Z2, z2, S2⟩ := S'.EE
 exact k v H' Z2 (z.trans z2) s S2
theorem ai {i : Int} {j : Nat} : bX X CL b (.Constant (.int i) j pos) δ (.sh (.int i)) δ := fun H Z σ ts vs Q S k => cV M4 (k _ _ Z (.refl _) (.refl _) (S.push (.int i)))
theorem mJ {i : Bool} {j : Nat} : bX X CL b (.Constant (.bool i) j pos) δ (.sh (.bl i)) δ := fun H Z σ ts vs Q S k => cV Rw (k _ _ Z (.refl _) (.refl _) (S.push (.bl i)))
theorem aY {x : Str} {j : Nat} : bX X CL b (.Constant (.str x) j pos) δ (.sh (.str x)) δ := fun H Z σ ts vs Q S k => cV M5 (k _ _ Z (.refl _) (.refl _) (S.push (.str x)))
section
variable (i : Nat) {x : Str} (hi : X.N[i]? = some x := by rfl) (hv : MZ X.env.scope x := by first | exact Or.inl rfl | exact Or.inr (Or.inl rfl) | exact Or.inr (Or.inr rfl)) (hd : (x == ("__debug__" : Str)) = false := by decide) (gI : (x == ("__classdict__" : Str)) = false := by decide)
include hi hv hd gI
theorem Oa (h : δ[i]? = some (some (.sh d)) := by rfl) : bX X CL b (.Name x pos) δ (.sh d) δ := fun H Z σ ts vs Q S k => by
 obtain ⟨v, e, r⟩ := S.Mp h
 exact cV (lQ hi hv hd gI) ⟨v, e, k v H Z (.refl _) (.refl _) (S.push r)⟩
theorem Im (h : δ[i]? = some (some t) := by rfl) : bX X CL b (.Name x pos) δ (.sh t.cZ) (δ.set i (some (.sh t.cZ))) := fun H Z σ ts vs Q S k => by
 obtain ⟨v, Z', e, z, S'⟩ := S.Ik h
 exact cV (lQ hi hv hd gI) ⟨v, e, k v H Z' z (.refl _) S'⟩
theorem Io (h : δ[i]? = some (some t) := by rfl) : bX X CL b (.Name x pos) δ t (δ.set i none) := fun H Z σ ts vs Q S k => by
 obtain ⟨v, e, S'⟩ := S.move h
 exact cV (lQ hi hv hd gI) ⟨v, e, k v H Z (.refl _) (.refl _) S'⟩
theorem Ob (h : δ[i]? = some (some t) := by rfl) : cA X CL b (.Name x pos) δ t.cZ δ := fun H Z σ ts vs Q S k => by
 obtain ⟨v, e, r⟩ := S.look h
 exact cV (lQ hi hv hd gI) ⟨v, e, k v H Z (.refl _) (.refl _) S r⟩
end
def Oc : D -> Option V
 | .non => some .non
 | .bl b => some (.bl b)
 | .int i => some (.int i)
 | .str x => some (.str x)
 | _ => none
theorem bu.sc {K : PySem.W.Frag} {Z : Hp} {d : D} {v w : V} (r : bu K CL Z d v) (h : Oc d = some w) : v = w := by
 cases r <;> first | (exact aaH h) | (cases h)
theorem Iq {K : PySem.W.Frag} {Z : Hp} {d : D} {w : V} (h : Oc d = some w) : bu K CL Z d w := by
 cases d <;> first | (cases h; constructor) | (cases h)
theorem lS {op : Operator} {r : R2} {w1 w2 w : V} (ho : n8 X (binaryOp op) r) (h1 : cA X CL b e1 δ d1 δ1) (h2 : cA X CL b e2 δ1 d2 δ2) (s1 : Oc d1 = some w1) (s2 : Oc d2 = some w2) (s3 : Oc d = some w)
   (hr : ∀ (H : Hp) (Q : VK), Q w H -> r w1 w2 H Q) : bX X CL b (.BinOp e1 op e2 pos) δ (.sh d) δ2 := fun H Z σ ts vs Q S k => by
 refine cV (El ho dR dR) (h1 H Z σ ts vs _ S fun v1 H1 Z1 z1 k1 S1 r1 => h2 H1 Z1 σ ts vs _ S1 fun v2 H2 Z2 z2 k2 S2 r2 => ?_)
 rw [r1.sc s1, r2.sc s2]
 exact hr H2 Q (k w H2 Z2 (z1.trans z2) (k1.trans k2) (S2.push (Iq s3)))
theorem dh {i j : Int} (h1 : cA X CL b e1 δ (.int i) δ1) (h2 : cA X CL b e2 δ1 (.int j) δ2) : bX X CL b (.BinOp e1 .Add e2 pos) δ (.sh (.int (i + j))) δ2 := lS Nz h1 h2 rfl rfl rfl fun _ _ q => ⟨i, j, rfl, rfl, q⟩
theorem jD {i j : Int} (h1 : cA X CL b e1 δ (.int i) δ1) (h2 : cA X CL b e2 δ1 (.int j) δ2) : bX X CL b (.BinOp e1 .Sub e2 pos) δ (.sh (.int (i - j))) δ2 := lS NB h1 h2 rfl rfl rfl fun _ _ q => ⟨i, j, rfl, rfl, q⟩
theorem lT {i j : Int} (h1 : cA X CL b e1 δ (.int i) δ1) (h2 : cA X CL b e2 δ1 (.int j) δ2) (c : HM i j) : bX X CL b (.BinOp e1 .Mult e2 pos) δ (.sh (.int (i * j))) δ2 := lS NC h1 h2 rfl rfl rfl fun _ _ q => ⟨i, j, rfl, rfl, c, q⟩
theorem aU {i j : Int} (h1 : cA X CL b e1 δ (.int i) δ1) (h2 : cA X CL b e2 δ1 (.int j) δ2) (c : 0 < j) : bX X CL b (.BinOp e1 .Mod e2 pos) δ (.sh (.int (i % j))) δ2 := lS NF h1 h2 rfl rfl rfl fun _ _ q => ⟨i, j, rfl, rfl, c, q⟩
theorem bw {i j : Int} (h1 : cA X CL b e1 δ (.int i) δ1) (h2 : cA X CL b e2 δ1 (.int j) δ2) (c : RP i j) : bX X CL b (.BinOp e1 .FloorDiv e2 pos) δ (.sh (.int (i / j))) δ2 := lS HN h1 h2 rfl rfl rfl fun _ _ q => ⟨i, j, rfl, rfl, c, q⟩
theorem Aq {i j : Int} (h1 : cA X CL b e1 δ (.int i) δ1) (h2 : cA X CL b e2 δ1 (.int j) δ2) (c : RQ i j) : bX X CL b (.BinOp e1 .Pow e2 pos) δ (.sh (.int (i ^ j.toNat))) δ2 := lS NK h1 h2 rfl rfl rfl fun _ _ q => ⟨i, j, rfl, rfl, c, q⟩
theorem jE {x y : Str} (h1 : cA X CL b e1 δ (.str x) δ1) (h2 : cA X CL b e2 δ1 (.str y) δ2) (c : x.length + y.length <= sizeLine) : bX X CL b (.BinOp e1 .Add e2 pos) δ (.sh (.str (x ++ y))) δ2 := lS Aa h1 h2 rfl rfl rfl fun _ _ q => ⟨x, y, rfl, rfl, c, q⟩
theorem qP {op : CmpOp} {r : R2} {p : Bool} {w1 w2 : V} (ho : n8 X (compareOp op) r) (h1 : cA X CL b e1 δ d1 δ1) (h2 : cA X CL b e2 δ1 d2 δ2) (s1 : Oc d1 = some w1) (s2 : Oc d2 = some w2)
   (hr : ∀ (H : Hp) (Q : VK), Q (.bl p) H -> r w1 w2 H Q) (hm : behindInMarks op e2 = false) : mH X CL b (.Compare e1 [op] [e2] pos) δ p δ2 /\ bX X CL b (.Compare e1 [op] [e2] pos) δ (.sh (.bl p)) δ2 := by
 constructor
 . intro H Z σ ts vs Q S k
   refine Al (mE ho dR dR hm) (h1 H Z σ ts vs _ S fun v1 H1 Z1 z1 k1 S1 r1 => h2 H1 Z1 σ ts vs _ S1 fun v2 H2 Z2 z2 k2 S2 r2 => ?_)
   rw [r1.sc s1, r2.sc s2]
   exact hr H2 _ ⟨p, rfl, k H2 Z2 (z1.trans z2) (k1.trans k2) S2⟩
 . intro H Z σ ts vs Q S k
   refine cV (mD ho dR dR hm) (h1 H Z σ ts vs _ S fun v1 H1 Z1 z1 k1 S1 r1 => h2 H1 Z1 σ ts vs _ S1 fun v2 H2 Z2 z2 k2 S2 r2 => ?_)
   rw [r1.sc s1, r2.sc s2]
   exact hr H2 _ (k _ H2 Z2 (z1.trans z2) (k1.trans k2) (S2.push (.bl p)))
theorem eV {i j : Int} (h1 : cA X CL b e1 δ (.int i) δ1) (h2 : cA X CL b e2 δ1 (.int j) δ2) : mH X CL b (.Compare e1 [.Eq] [e2] pos) δ (decide (i = j)) δ2 /\ bX X CL b (.Compare e1 [.Eq] [e2] pos) δ (.sh (.bl (decide (i = j)))) δ2 :=
 qP En h1 h2 rfl rfl (fun _ _ q => ⟨rfl, by rw [show decide (V.int i = V.int j) = decide (i = j) by simp]; exact q⟩) (iO _)
theorem qQ {i j : Int} (h1 : cA X CL b e1 δ (.int i) δ1) (h2 : cA X CL b e2 δ1 (.int j) δ2) : mH X CL b (.Compare e1 [.NotEq] [e2] pos) δ (!decide (i = j)) δ2 /\ bX X CL b (.Compare e1 [.NotEq] [e2] pos) δ (.sh (.bl (!decide (i = j)))) δ2 :=
 qP RV h1 h2 rfl rfl (fun _ _ q => ⟨rfl, by rw [show decide (V.int i = V.int j) = decide (i = j) by simp]; exact q⟩) (iO _)
theorem eH {i j : Str} (h1 : cA X CL b e1 δ (.str i) δ1) (h2 : cA X CL b e2 δ1 (.str j) δ2) : mH X CL b (.Compare e1 [.Eq] [e2] pos) δ (decide (i = j)) δ2 /\ bX X CL b (.Compare e1 [.Eq] [e2] pos) δ (.sh (.bl (decide (i = j)))) δ2 :=
 qP En h1 h2 rfl rfl (fun _ _ q => ⟨rfl, by rw [show decide (V.str i = V.str j) = decide (i = j) by simp]; exact q⟩) (iO _)
theorem Mt {i j : Int} (h1 : cA X CL b e1 δ (.int i) δ1) (h2 : cA X CL b e2 δ1 (.int j) δ2) : mH X CL b (.Compare e1 [.Lt] [e2] pos) δ (decide (i < j)) δ2 /\ bX X CL b (.Compare e1 [.Lt] [e2] pos) δ (.sh (.bl (decide (i < j)))) δ2 := qP RW h1 h2 rfl rfl (fun _ _ q => ⟨i, j, rfl, rfl, q⟩) (iO _)
theorem Sh {i j : Int} (h1 : cA X CL b e1 δ (.int i) δ1) (h2 : cA X CL b e2 δ1 (.int j) δ2) : mH X CL b (.Compare e1 [.LtE] [e2] pos) δ (decide (i <= j)) δ2 /\ bX X CL b (.Compare e1 [.LtE] [e2] pos) δ (.sh (.bl (decide (i <= j)))) δ2 := qP RX h1 h2 rfl rfl (fun _ _ q => ⟨i, j, rfl, rfl, q⟩) (iO _)
theorem Mu {i j : Int} (h1 : cA X CL b e1 δ (.int i) δ1) (h2 : cA X CL b e2 δ1 (.int j) δ2) : mH X CL b (.Compare e1 [.Gt] [e2] pos) δ (decide (j < i)) δ2 /\ bX X CL b (.Compare e1 [.Gt] [e2] pos) δ (.sh (.bl (decide (j < i)))) δ2 := qP RZ h1 h2 rfl rfl (fun _ _ q => ⟨i, j, rfl, rfl, q⟩) (iO _)
end
section
variable {K : PySem.W.Frag} {CL : Str -> Addr} {H Z : Hp}
theorem aN.split : ∀ {as bs : List T} {us ws : List V} {gp : List Addr}, as.length = us.length -> aN K CL H Z (as ++ bs) (us ++ ws) gp -> ∃ g1 g2, gp = g1 ++ g2 /\ aN K CL H Z as us g1 /\ aN K CL H Z bs ws g2
 | [], _, [], _, gp, _, r => ⟨[], gp, rfl, .nil, r⟩
 | [], _, _ :: _, _, _, h, _ => by simp at h
 | _ :: _, _, [], _, _, h, _ => by simp at h
 | a :: as, bs, u :: us, ws, gp, h, r => by
   cases r with
   | @cons _ _ _ _ f1 f2 r1 r2 =>
     obtain ⟨g1, g2, e, h1, h2⟩ := aN.split (as := as) (us := us) (by simpa using h) r2
     exact ⟨f1 ++ g1, g2, by rw [e, aav], .cons r1 h1, h2⟩
theorem aN.app : ∀ {as bs : List T} {us ws : List V} {g1 g2 : List Addr}, aN K CL H Z as us g1 -> aN K CL H Z bs ws g2 -> aN K CL H Z (as ++ bs) (us ++ ws) (g1 ++ g2)
 | _, _, _, _, _, _, .nil, q => q
 | _, _, _, _, _, _, .cons (fp := f1) (gp := f2) r t, q => by
   rw [aav]
   exact .cons r (aN.app t q)
theorem aN.rev : ∀ {as : List T} {us : List V} {g : List Addr}, aN K CL H Z as.reverse us.reverse g -> ∃ g', aN K CL H Z as us g' /\ g'.Perm g
 | [], [], g, r => by
   have r' : aN K CL H Z [] [] g := r
   cases r'
   exact ⟨[], .nil, ace _⟩
 | [], u :: us, g, r => by have := r.length; simp at this
 | a :: as, [], g, r => by have := r.length; simp at this
 | a :: as, u :: us, g, r => by
   rw [abO, abO] at r
   have hl := r.length
   obtain ⟨g1, g2, e, r1, r2⟩ := aN.split (by simp at hl ⊢; omega) r
   subst e
   obtain ⟨g', r', p⟩ := aN.rev r1
   cases r2 with
   | @cons _ _ _ _ f1 f2 q1 q2 =>
     cases q2
     refine ⟨f1 ++ g', .cons q1 r', ?_⟩
     rw [aa1]
     exact (abf f1 p).trans aa7
theorem fX : ∀ (ds : List D), T.fV (ds.map T.sh) = ds
 | [] => rfl
 | d :: ds => by rw [aa3, T.fV, fX ds, T.cZ]
end
section
variable {K : PySem.W.Frag} {CL : Str -> Addr} {b : Bx} {H H' Z Z' : Hp} {δ δ' : List (Option T)} {σ σ' : L2.St} {ts tl : List T} {vs us : List V} {t : T} {v : V}
theorem bP.EG {p : Addr} (S : bP K CL b H Z δ σ (tl.reverse ++ ts) (us.reverse ++ vs)) (hl : us.length = tl.length) (hp : H p = none) :
   aA Z (upd Z p (.tup us)) /\ aA H (upd H p (.tup us)) /\ bP K CL b (upd H p (.tup us)) (upd Z p (.tup us)) δ σ (.tup tl :: ts) (.ref p :: vs) := by
 obtain ⟨fp, gp, e, r, nd, k⟩ := S.rep
 obtain ⟨g1, g2, eg, r1, r2⟩ := aN.split (by simp [hl]) r
 subst eg
 obtain ⟨g', r', pm⟩ := r1.rev
 have zp : Z p = none := S.zh.free hp
 have sz : aA Z (upd Z p (.tup us)) := aA.upd zp
 have sh : aA H (upd H p (.tup us)) := aA.upd hp
 have keep : ∀ a ∈ fp ++ (g1 ++ g2), a ≠ p := fun a ha => by
   have : ∃ o, H a = some o := by
     rcases aaG.mp ha with h | h
     . exact e.there a h
     . exact r.there a h
   obtain ⟨o, q⟩ := this
   exact aD q hp
 have Mv : (fp ++ (g' ++ g2)).Perm (fp ++ (g1 ++ g2)) := (pm.append_right g2).append_left fp
 have kk : ∀ a ∈ fp ++ (g' ++ g2), a ≠ p := fun a ha => keep a (Mv.mem_iff.mp ha)
 refine ⟨sz, sh, ⟨⟨fp, g' ++ g2, e.mono sz (fun a ha => au (keep a (aaJ _ ha))), .cons (.tup aL (r'.mono sz fun a ha => au (kk a (by simp [ha])))) (r2.mono sz fun a ha => au (keep a (by simp [ha]))), Mv.nodup_iff.mpr nd, fun a ha => ?_⟩, S.bh.trans sh, S.zz.trans sz, fun a o q => ?_, fun a o q z => ?_, fun a o q i => ?_, S.tab⟩⟩
 . exact ⟨by rw [au (kk a ha)]; exact (k a (Mv.mem_iff.mp ha)).1, (k a (Mv.mem_iff.mp ha)).2⟩
 . by_cases ha : a = p
   . subst ha; rw [aL] at q ⊢; exact q
   . rw [au ha] at q ⊢; exact S.zh a o q
 . by_cases ha : a = p
   . subst ha; exact S.bh.free hp
   . rw [au ha] at q; exact S.new a o q z
 . by_cases ha : a = p
   . subst ha; rw [aL] at q ⊢; exact q
   . rw [au ha] at q ⊢; exact S.tp a o q i
theorem bP.oh {p : Addr} {g0 : List Addr} (S : bP K CL b H Z δ σ (tl.reverse ++ ts) (us.reverse ++ vs)) (hl : us.length = tl.length) (hp : H p = none) :
   aA H (upd H p (.lst us)) /\ bP K CL b (upd H p (.lst us)) Z δ σ (.lst tl :: ts) (.ref p :: vs) := by
 obtain ⟨fp, gp, e, r, nd, k⟩ := S.rep
 obtain ⟨g1, g2, eg, r1, r2⟩ := aN.split (by simp [hl]) r
 subst eg
 obtain ⟨g', r', pm⟩ := r1.rev
 have zp : Z p = none := S.zh.free hp
 have sh : aA H (upd H p (.lst us)) := aA.upd hp
 have keep : ∀ a ∈ fp ++ (g1 ++ g2), a ≠ p := fun a ha => by
   have : ∃ o, H a = some o := by
     rcases aaG.mp ha with h | h
     . exact e.there a h
     . exact r.there a h
   obtain ⟨o, q⟩ := this
   exact aD q hp
 have Mv : (fp ++ (g' ++ g2)).Perm (fp ++ (g1 ++ g2)) := (pm.append_right g2).append_left fp
 have kk : ∀ a ∈ fp ++ (g' ++ g2), a ≠ p := fun a ha => keep a (Mv.mem_iff.mp ha)
 have Xk : (fp ++ ((p :: g') ++ g2)).Perm (p :: (fp ++ (g' ++ g2))) := by
   rw [aaQ]; exact List.perm_middle
 refine ⟨sh, ⟨⟨fp, (p :: g') ++ g2, e.mono (.refl _) (fun a ha => au (keep a (aaJ _ ha))), .cons (.lst aL (r'.mono (.refl _) fun a ha => au (kk a (by simp [ha])))) (r2.mono (.refl _) fun a ha => au (keep a (by simp [ha]))), ?_, fun a ha => ?_⟩, S.bh.trans sh, S.zz, S.zh.trans sh, S.new, fun a o q i => ?_, S.tab⟩⟩
 . refine Xk.nodup_iff.mpr (abA.mpr ⟨fun h => kk p h rfl, Mv.nodup_iff.mpr nd⟩)
 . rcases aau.mp (Xk.mem_iff.mp ha) with h | h
   . subst h; exact ⟨zp, S.bh.free hp⟩
   . exact k a (Mv.mem_iff.mp h)
 . by_cases ha : a = p
   . subst ha; rw [aL] at q; cases q; cases i
   . rw [au ha] at q; exact S.tp a o q i
end
section
variable {X : Cx} {CL : Str -> Addr} {b : Bx} {δ δ1 δ2 δ3 : List (Option T)} {e e1 e2 e3 : Expr} {es : List Expr} {t t1 t2 : T} {d d1 d2 : D} {tl : List T} {ds : List D} {p q : Bool} {pos : Pos}
theorem di : An X CL b [] δ [] δ := fun H Z σ ts vs Q S k => C3 eU (k [] H Z rfl (.refl _) (.refl _) S)
theorem eG (h1 : bX X CL b e δ t δ1) (h2 : An X CL b es δ1 tl δ2) (hs : starEach (e :: es) X.env = (false, eval e X.env) :: starEach es X.env := by exact bN rfl) : An X CL b (e :: es) δ (t :: tl) δ2 := fun H Z σ ts vs Q S k =>
 C3 (cz dR Ii hs) (h1 H Z σ ts vs _ S fun v H1 Z1 z1 k1 S1 => h2 H1 Z1 σ _ _ _ S1 fun us H2 Z2 hl z2 k2 S2 => k (v :: us) H2 Z2 (by simp [hl]) (z1.trans z2) (k1.trans k2) (by
   rw [abO, abO, aav, aav]
   exact S2))
theorem aM : Mq X CL b [] δ [] δ := fun H Z σ ts vs Q S k => C3 eU (k [] H Z (.refl _) (.refl _) S .nil)
theorem ak (h1 : cA X CL b e δ d δ1) (h2 : Mq X CL b es δ1 ds δ2) (hs : starEach (e :: es) X.env = (false, eval e X.env) :: starEach es X.env := by exact bN rfl) : Mq X CL b (e :: es) δ (d :: ds) δ2 := fun H Z σ ts vs Q S k =>
 C3 (cz dR Ii hs) (h1 H Z σ ts vs _ S fun v H1 Z1 z1 k1 S1 r1 => h2 H1 Z1 σ _ _ _ S1 fun us H2 Z2 z2 k2 S2 r2 => k (v :: us) H2 Z2 (z1.trans z2) (k1.trans k2) S2 (.cons (r1.mono k2) r2))
theorem Od {j : Nat} (h : An X CL b es δ tl δ1) (hl : tl.length <= sizeLine) : bX X CL b (.Tuple es j pos) δ (.tup tl) δ1 := fun H Z σ ts vs Q S k =>
 cV (NR Ii) (h H Z σ ts vs _ S fun us H1 Z1 hu z1 k1 S1 => ⟨by rw [hu]; exact hl, fun p hp => by
   obtain ⟨a, c, S2⟩ := S1.EG hu hp
   exact k _ _ _ (z1.trans a) (k1.trans c) S2⟩)
theorem cB {j : Nat} (h : An X CL b es δ (ds.map T.sh) δ1) (hl : ds.length <= sizeLine) : bX X CL b (.Tuple es j pos) δ (.sh (.tup ds)) δ1 := by
 have := Ao (Od (pos := pos) (j := j) h (by simpa using hl))
 rwa [T.cZ, fX] at this
theorem dm (h : An X CL b es δ tl δ1) (hl : tl.length <= sizeLine) : bX X CL b (.List es pos) δ (.lst tl) δ1 := fun H Z σ ts vs Q S k =>
 cV (NS Ii) (h H Z σ ts vs _ S fun us H1 Z1 hu z1 k1 S1 => ⟨by rw [hu]; exact hl, fun p hp => by
   obtain ⟨c, S2⟩ := S1.oh (g0 := []) hu hp
   exact k _ _ _ z1 (k1.trans c) S2⟩)
theorem qR (h : bX X CL b e δ (.sh (.bl p)) δ1) (he : ∀ whole, isTrue e X.env whole = (do let v ← whole; standAt e.pos; holding [v] (truthy v)) := by intro _; rfl) : mH X CL b e δ p δ1 := fun H Z σ ts vs Q S k =>
 Al (M6 dR he) (h H Z σ ts vs _ S fun v H1 Z1 z1 k1 S1 => ⟨p, by have := S1.view; rw [T.cZ] at this; exact this.sc rfl, k H1 Z1 z1 k1 S1.pop⟩)
theorem qS (h : mH X CL b e δ p δ1) : mH X CL b (.UnaryOp .Not e pos) δ (!p) δ1 := fun H Z σ ts vs Q S k => Al (M9 N7) (h H Z σ ts vs _ S fun H1 Z1 z1 k1 S1 => k H1 Z1 z1 k1 S1)
def Oe (X : Cx) (e : Expr) : TT := fun σ H Q => ∀ (whole : Sem Value) (pins : List (Addr × Obj)) (s : Shared), Inv X pins σ H s -> wpAny (model X.prog X.w) X.A (isTrue e X.env whole) (TP X pins σ Q) X.xe s
theorem Xl {e : Expr} : PW X e (Oe X e) := fun whole pins s _ _ _ I h => h whole pins s I
def Og (X : Cx) (CL : Str -> Addr) (b : Bx) (e : Expr) (δ : List (Option T)) (p : Bool) (δ' : List (Option T)) : Prop :=
 ∀ (H Z : Hp) (σ : L2.St) (ts : List T) (vs : List V) (Q : Bool -> Hp -> Prop), bP X.K CL b H Z δ σ ts vs -> (∀ H' Z', aA Z Z' -> aA H H' -> bP X.K CL b H' Z' δ' σ ts vs -> Q p H') -> Oe X e σ H Q
theorem Ir {t : TT} (h : PW X e t) {σ : L2.St} {H : Hp} {Q : Bool -> Hp -> Prop} (q : t σ H Q) : Oe X e σ H Q := fun whole pins s I => h whole pins s σ H Q I q
theorem lU (h : Og X CL b e δ p δ1) : mH X CL b e δ p δ1 := fun H Z σ ts vs Q S k pins s I => h H Z σ ts vs Q S k _ pins s I
theorem iQ (h : mH X CL b e δ p δ1) : Og X CL b (.BoolOp .And [e] pos) δ p δ1 := fun H Z σ ts vs Q S k => Ir (HF N7) (h H Z σ ts vs _ S k)
theorem uV (h : mH X CL b e δ p δ1) : Og X CL b (.BoolOp .Or [e] pos) δ p δ1 := fun H Z σ ts vs Q S k => Ir (M7 N7) (h H Z σ ts vs _ S k)
theorem fz (h : mH X CL b e δ p δ1) (h2 : p = true -> Og X CL b (.BoolOp .And (e2 :: es) pos) δ1 q δ1) : Og X CL b (.BoolOp .And (e :: e2 :: es) pos) δ (p && q) δ1 := fun H Z σ ts vs Q S k =>
 Ir (M8 N7 Xl) (h H Z σ ts vs _ S fun H1 Z1 z1 k1 S1 => by
   cases p with
   | true => exact EB (h2 rfl H1 Z1 σ ts vs _ S1 fun H2 Z2 z2 k2 S2 => k H2 Z2 (z1.trans z2) (k1.trans k2) S2)
   | false => exact EA (k H1 Z1 z1 k1 S1))
theorem yz (h : mH X CL b e δ p δ1) (h2 : p = false -> Og X CL b (.BoolOp .Or (e2 :: es) pos) δ1 q δ1) : Og X CL b (.BoolOp .Or (e :: e2 :: es) pos) δ (p || q) δ1 := fun H Z σ ts vs Q S k =>
 Ir (Rx N7 Xl) (h H Z σ ts vs _ S fun H1 Z1 z1 k1 S1 => by
   cases p with
   | true => exact EB (k H1 Z1 z1 k1 S1)
   | false => exact EA (h2 rfl H1 Z1 σ ts vs _ S1 fun H2 Z2 z2 k2 S2 => k H2 Z2 (z1.trans z2) (k1.trans k2) S2))
theorem Oh {op : BoolOp} (h : bX X CL b e δ t δ1) : bX X CL b (.BoolOp op [e] pos) δ t δ1 := fun H Z σ ts vs Q S k => cV (Nb dR) (h H Z σ ts vs _ S k)
theorem Oi (h : bX X CL b e δ (.sh (.bl p)) δ1) (h2 : p = true -> bX X CL b (.BoolOp .And (e2 :: es) pos) δ1 (.sh (.bl q)) δ1) : bX X CL b (.BoolOp .And (e :: e2 :: es) pos) δ (.sh (.bl (p && q))) δ1 := fun H Z σ ts vs Q S k =>
 cV (Nf dR dR) (h H Z σ ts vs _ S fun v H1 Z1 z1 k1 S1 => by
   have hv : v = .bl p := by have := S1.view; rw [T.cZ] at this; exact this.sc rfl
   refine ⟨p, hv, ?_⟩
   cases p with
   | true => exact EB (h2 rfl H1 Z1 σ ts vs _ S1.pop fun v H2 Z2 z2 k2 S2 => k v H2 Z2 (z1.trans z2) (k1.trans k2) S2)
   | false => exact EA (k _ H1 Z1 z1 k1 (S1.pop.push (.bl false))))
theorem Oj (h : bX X CL b e δ (.sh (.bl p)) δ1) : bX X CL b (.UnaryOp .Not e pos) δ (.sh (.bl (!p))) δ1 := fun H Z σ ts vs Q S k =>
 cV (L2.Ng dR) (h H Z σ ts vs _ S fun v H1 Z1 z1 k1 S1 => ⟨p, by have := S1.view; rw [T.cZ] at this; exact this.sc rfl, k _ H1 Z1 z1 k1 (S1.pop.push (.bl (!p)))⟩)
theorem BF {K : PySem.W.Frag} {Z : Hp} {vs : List V} {k : Int} (r : aC K CL Z ds vs) (h : sZ ds k = some d) : ∃ v, sZ vs k = some v /\ bu K CL Z d v := by
 unfold sZ at h ⊢
 rw [← r.length]
 cases e : CZ ds.length k with
 | none => rw [e] at h; cases h
 | some j =>
   rw [e] at h
   exact r.get h
theorem bT {k : Int} (h1 : cA X CL b e1 δ (.tup ds) δ1) (h2 : cA X CL b e2 δ1 (.int k) δ2) (hk : sZ ds k = some d) (hs : qc e2 := by exact fun _ _ => rfl) : cA X CL b (.Subscript e1 e2 pos) δ d δ2 := fun H Z σ ts vs Q S kk =>
 cV (Ex NX dR dR hs) (h1 H Z σ ts vs _ S fun v1 H1 Z1 z1 k1 S1 r1 => h2 H1 Z1 σ ts vs _ S1 fun v2 H2 Z2 z2 k2 S2 r2 => by
   have Ol := r1.mono k2
   cases Ol with
   | tup hq rr =>
     obtain ⟨v, hv, rv⟩ := BF rr hk
     exact ⟨_, _, k, v, rfl, r2.sc rfl, hq, hv, kk v H2 Z2 (z1.trans z2) (k1.trans k2) S2 rv⟩)
theorem aR {k : Int} (h1 : cA X CL b e1 δ (.lst ds) δ1) (h2 : cA X CL b e2 δ1 (.int k) δ2) (hk : sZ ds k = some d) (hs : qc e2 := by exact fun _ _ => rfl) : cA X CL b (.Subscript e1 e2 pos) δ d δ2 := fun H Z σ ts vs Q S kk =>
 cV (Ex HY dR dR hs) (h1 H Z σ ts vs _ S fun v1 H1 Z1 z1 k1 S1 r1 => h2 H1 Z1 σ ts vs _ S1 fun v2 H2 Z2 z2 k2 S2 r2 => by
   have Ol := r1.mono k2
   cases Ol with
   | lst hq rr =>
     obtain ⟨v, hv, rv⟩ := BF rr hk
     exact ⟨_, _, k, v, rfl, r2.sc rfl, hq, hv, kk v H2 Z2 (z1.trans z2) (k1.trans k2) S2 rv⟩)
theorem EH {k : Int} {x : Str} {c : Nat} (h1 : cA X CL b e1 δ (.str x) δ1) (h2 : cA X CL b e2 δ1 (.int k) δ2) (hl : x.length <= sizeLine) (hk : sZ x.cps.toList k = some c) (hs : qc e2 := by exact fun _ _ => rfl) : bX X CL b (.Subscript e1 e2 pos) δ (.sh (.str ⟨#[c]⟩)) δ2 := fun H Z σ ts vs Q S kk =>
 cV (Ex NZ dR dR hs) (h1 H Z σ ts vs _ S fun v1 H1 Z1 z1 k1 S1 r1 => h2 H1 Z1 σ ts vs _ S1 fun v2 H2 Z2 z2 k2 S2 r2 =>
   ⟨x, k, c, r1.sc rfl, r2.sc rfl, hl, hk, kk _ H2 Z2 (z1.trans z2) (k1.trans k2) (S2.push (.str _))⟩)
end
section
variable {K : PySem.W.Frag} {CL : Str -> Addr} {b : Bx} {H H' Z Z' : Hp} {δ δ' : List (Option T)} {σ σ' : L2.St} {ts tl : List T} {vs us : List V} {t : T} {v : V}
theorem bP.qT : ∀ {ds : List D} {us : List V} {ts : List T} {vs : List V}, aC K CL Z ds us -> bP K CL b H Z δ σ ts vs -> bP K CL b H Z δ σ ((ds.map T.sh).reverse ++ ts) (us.reverse ++ vs)
 | _, _, _, _, .nil, S => S
 | _, _, ts, vs, .cons (d := d) (v := v) (ds := ds) (vs := us) r t, S => by
   rw [aa3, abO, abO, aav, aav]
   exact bP.qT t (S.push r)
end
section
variable {X : Cx} {CL : Str -> Addr} {b : Bx} {δ δ1 δ2 δ3 : List (Option T)} {e e1 e2 e3 : Expr} {es : List Expr} {t t1 t2 : T} {d d1 d2 : D} {tl : List T} {ds : List D} {p q : Bool} {pos pp : Pos}
theorem mK (hm : X.mg "len" = none) (h : cA X CL b e δ (.lst ds) δ1) (hg : Gl X "len" := by rfl) (hs : starEach [e] X.env = (false, eval e X.env) :: starEach [] X.env := by exact bN rfl) (tF : (backTo pos (starEach ([] : List Expr) X.env)).any (·.1) = false := by rfl) : bX X CL b (.Call (.Name "len" pp) [e] [] pos) δ (.sh (.int ds.length)) δ1 := fun H Z σ ts vs Q S k =>
 cV (yq uS hg hm PySem.boot_len (cz dR eU hs) (he := hs)) (h H Z σ ts vs _ S fun v H1 Z1 z1 k1 S1 r => by
   cases r with
   | lst hq rr => exact ⟨_, _, rfl, .inl hq, by rw [← rr.length]; exact k _ H1 Z1 z1 k1 (S1.push (.int _))⟩)
theorem cQ (hm : X.mg "list" = none) (h : cA X CL b e δ (.lst ds) δ1) (hi : D.bO ds = true) (hg : Gl X "list" := by rfl) (hv : bootBuiltins "list" = some (.type "list") := by rfl) (hs : starEach [e] X.env = (false, eval e X.env) :: starEach [] X.env := by exact bN rfl) : bX X CL b (.Call (.Name "list" pp) [e] [] pos) δ (.lst (ds.map T.sh)) δ1 := fun H Z σ ts vs Q S k =>
 cV (j6 uT hg hm hv (cz dR eU hs) (he := hs)) (h H Z σ ts vs _ S fun v H1 Z1 z1 k1 S1 r => by
   cases r with
   | lst hq rr =>
     refine ⟨_, _, rfl, .inl hq, fun l hl => ?_⟩
     obtain ⟨c, S2⟩ := (bP.qT (aC.iP S1.tp hi rr) S1).oh (g0 := []) (by simp [rr.length]) hl
     exact k _ _ _ z1 (k1.trans c) S2)
def lF (K : PySem.W.Frag) (CL : Str -> Addr) {A : Type} (n : Nat) (arg : A -> List D) (Pre : A -> Prop) (res : A -> T) : Sp := fun vs H Q _ =>
 ∃ (W : Hp) (a : A), aA W H /\ (∀ c o, H c = some o -> gq o = true -> W c = some o) /\ aC K CL W (arg a) vs /\ (arg a).length = n /\ Pre a /\ jC CL W ∧
   ∀ v H' W' fp, aA H H' -> aA W W' -> aA W' H' -> (∀ c o, W' c = some o -> W c = none -> H c = none) -> (∀ c o, H' c = some o -> gq o = true -> W' c = some o) →
     ck K CL H' W' (res a) v fp -> fp.Nodup -> (∀ c ∈ fp, W' c = none /\ H c = none) -> Q v H'
section
variable {A : Type} {k n : Nat} {f : Addr} {fd : FuncData} {ps : List Str} {arg : A -> List D} {Pre : A -> Prop} {res : A -> T} {x : Str}
theorem Iu (a : A) (F : bR X.prog X.w X.K X.mg X.base fQ k f fd ps (lF X.K CL n arg Pre res)) (hr : dF k X.A) (hm : X.mg x = some (.ref f)) (hk : PySem.W.keepIn X.K (.ref f) = true) (hb : Binds X.K fd ps [])
   (h : Mq X CL b (e :: es) δ (arg a) δ1) (hn : (arg a).length = n) (hp : Pre a) (hc : (res a).clean = true) (hg : Gl X x)
   (tE : (x == ("__debug__" : Str)) = false := by decide) (he : starEach (e :: es) X.env = (false, eval e X.env) :: starEach es X.env := by exact bN rfl) (tF : (backTo pos (starEach es X.env)).any (·.1) = false := by rfl) :
   bX X CL b (.Call (.Name x pp) (e :: es) [] pos) δ (res a) δ1 := fun H Z σ ts vs Q S kk =>
 cV (HR F hr hg hm hk hb .nil BE Ii tE he tF) (h H Z σ ts vs _ S fun us H1 Z1 z1 k1 S1 r => by
   rw [aa1]
   refine ⟨H1, a, .refl _, fun _ _ q _ => q, r, hn, hp, S1.C4, fun v H' W' fp hh ww wh nw tp rt nd own => ?_⟩
   obtain ⟨Z', z', S'⟩ := S1.back hh S1.zh ww wh nw tp rt nd own (.inr hc)
   exact kk v H' Z' (z1.trans z') (k1.trans hh) S')
end
variable {D D' : cC} {st : Stmt} {eW Si : List Stmt}
theorem Meets.to {K : PySem.W.Frag} {Z : Hp} {ts : List T} {vs : List V} {E : Ends} (M : Meets K CL b Z ts vs D E) (h1 : ∀ δ, D'.nx δ -> D.nx δ) (h2 : ∀ t δ, D'.rt t δ -> D.rt t δ) (h3 : ∀ δ, D'.bk δ -> D.bk δ) (h4 : ∀ δ, D'.ct δ -> D.ct δ) : Meets K CL b Z ts vs D' E :=
 ⟨fun _ _ _ _ s S k => M.nx _ _ _ _ s S (h1 _ k), fun _ _ _ _ _ _ s S k => M.rt _ _ _ _ _ _ s S (h2 _ _ k), fun _ _ _ _ s S k => M.bk _ _ _ _ s S (h3 _ k), fun _ _ _ _ s S k => M.ct _ _ _ _ s S (h4 _ k)⟩
theorem az (h : D.nx δ) : d9 X CL b [] δ D := fun H Z σ ts vs E S M => Sd HG (M.nx δ σ H Z (.refl _) S h)
theorem dH (h : Mr X CL b st δ { D with nx := fun δ1 => d9 X CL b eW δ1 D }) : d9 X CL b (st :: eW) δ D := fun H Z σ ts vs E S M =>
 Sd (Eg Yq Ij) (h H Z σ ts vs _ S ⟨fun δ' σ' H' Z' s S' k => k H' Z' σ' ts vs E S' (M.mono s), M.rt, M.bk, M.ct⟩)
theorem Om (h : bX X CL b e δ t δ1) (k : D.rt t δ1) : Mr X CL b (.Return (some e) pos) δ D := fun H Z σ ts vs E S M => uU (Nh dR) (h H Z σ ts vs _ S fun v H1 Z1 z1 k1 S1 => M.rt t v H1 Z1 δ1 σ z1 S1 k)
theorem Sj (h : mH X CL b e δ p δ1) (h1 : p = true -> d9 X CL b eW δ1 D) (h2 : p = false -> d9 X CL b Si δ1 D) : Mr X CL b (.If e eW Si pos) δ D := fun H Z σ ts vs E S M =>
 uU (RC N7 Ij Ij) (h H Z σ ts vs _ S fun H1 Z1 z1 k1 S1 => by
   cases p with
   | true => exact EB (h1 rfl H1 Z1 σ ts vs E S1 (M.mono z1))
   | false => exact EA (h2 rfl H1 Z1 σ ts vs E S1 (M.mono z1)))
theorem EI (i : Nat) {x : Str} {pos' : Pos} (h : bX X CL b e δ t δ1) (k : D.nx (δ1.set i (some t))) (hl : i < δ1.length := by decide) (hN : X.N.Nodup := by assumption) (hi : X.N[i]? = some x := by rfl) (hx : Loc X.env.scope x := by first | exact .inl rfl | exact .inr rfl)
   (hs : swapsWith e (some (.Name x pos')) pos.line X.env = pure false := by rfl) (hf : X.fn x = true \/ X.env.scope.names.lookup x = some .local := by first | exact .inl rfl | exact .inr rfl | assumption) : Mr X CL b (.Assign [.Name x pos'] e pos) δ D := fun H Z σ ts vs E S M =>
 uU (Nr hN hi hx dR hs hf) (h H Z σ ts vs _ S fun v H1 Z1 z1 k1 S1 => M.nx _ _ H1 Z1 z1 (S1.set hl) k)
end
def entry (N : List Str) (ds : List D) : List (Option T) := ds.map (fun d => some (T.sh d)) ++ List.replicate (N.length - ds.length) none
theorem gu {K : PySem.W.Frag} {CL : Str -> Addr} {H Z : Hp} : ∀ {ds : List D} {vs : List V} (n : Nat), aC K CL Z ds vs -> d8 K CL H Z (ds.map (fun d => some (T.sh d)) ++ List.replicate n none) (vs.map some ++ List.replicate n none) []
 | _, _, 0, .nil => .nil
 | _, _, n + 1, .nil => .skip (gu (ds := []) (vs := []) n .nil)
 | _, _, n, .cons r t => .cons (fp := []) (gp := []) (.sh r) (gu n t)
theorem bH {P : Program} {w : World} {K : PySem.W.Frag} {mg : Str -> Option Value} {base : Heap} {CL : Str -> Addr} {x qual : Str} {st : Stmt} {f : Addr} {fd : FuncData} {N ps : List Str} {k : Nat} {A : Type} {arg : A -> List D} {Pre : A -> Prop} {res : A -> T} (F : jx K x qual st f fd) (S : aP N ps (aq st))
   (hb : ∀ (c6 : Value) (Ar : Around) (outer : List Env) (s : Shared) (H : Hp) (E : XK) (b : Bx) (a : A), dF k (Ar.deeper (envOfC qual (aq st) s.heap.objs.size f c6)) -> Pre a →
     d9 (qM fQ P w K mg base N qual (aq st) f c6 Ar outer s H E).Hs CL b (eF st) (entry N (arg a)) { nx := fun _ => res a = .sh .non, rt := fun t _ => t = res a }) :
   bR P w K mg base fQ (k + 1) f fd ps (lF K CL ps.length arg Pre res) := by
 refine F.ok S (fun vs H Q E h => ?_) (fun c6 Ar outer s H vs Q E hr h => ?_)
 . obtain ⟨W, a, _, _, r, hl, _⟩ := h
   rw [← r.length]; exact hl
 . obtain ⟨W, a, wh, tp, r, hl, hp, tb, kk⟩ := h
   refine ⟨_, Ij, hb c6 Ar outer s H E ⟨H, W⟩ a hr hp H W _ [] [] _ ⟨⟨[], [], ?_, .nil, abE, fun a ha => by cases ha⟩, .refl _, .refl _, wh, fun a o q z => ?_, tp, tb⟩ ⟨fun δ' σ' H' Z' s' S' e => ?_, fun t v H' Z' δ' σ' s' S' e => ?_, fun _ _ _ _ _ _ e => e.elim, fun _ _ _ _ _ _ e => e.elim⟩⟩
   . unfold entry L2.start
     rw [← r.length]
     exact gu _ r
   . have q' : W a = some o := q
     have z' : W a = none := z
     rw [q'] at z'; cases z'
   . exact kk .non H' Z' [] S'.bh S'.zz S'.zh S'.new S'.tp (by rw [show res a = .sh .non from e]; exact .sh .non) abE fun a ha => by cases ha
   . have e' : t = res a := e
     subst e'
     obtain ⟨fp, gp, _, r', nd, own⟩ := S'.rep
     cases r' with
     | @cons _ _ _ _ f1 f2 r1 r2 =>
       have h1 := (aa9.mp nd).2.1
       exact kk v H' Z' f1 S'.bh S'.zz S'.zh S'.new S'.tp r1 (aa9.mp h1).1 fun a ha => own a (aao _ (aaJ _ ha))
section
variable {prog : Program} {w : World} {A : Around} {R : Result -> Shared -> Prop} {s : Shared}
theorem uW {elt target iter : Expr} {ifs : List Expr} {scope : Scope} {pos : Pos} {it acc : Value} {env : Env} (I : Nat -> Shared -> Prop)
   (turn : ∀ n s, I n s -> wpAny (model prog w) A (pyNext it) (fun r s₁ => match r with
     | none => R (.ok .next) s₁
     | some v => wpAny (model prog w) A (letOwnedTupleGo target it v) (fun _ Mw => wpAny (model prog w) A (assign target env v) (fun _ s₂ =>
         wpAny (model prog w) A (forIn ifs true fun c r => if r = true then do let ok ← isTrue c env (eval c env); pure (ForInStep.yield ok) else pure (ForInStep.yield r)) (fun ok s₃ =>
           if ok = true then wpAny (model prog w) A (eval elt env) (fun x s₄ =>
             wpAny (model prog w) A (call (.builtin "list.append") [acc, x]) (fun _ s₅ => ∃ m, m < n /\ I m s₅) (fun _ _ => False) s₄) (fun _ _ => False) s₃
           else ∃ m, m < n /\ I m s₃) (fun _ _ => False) s₂) (fun _ _ => False) Mw) (fun _ _ => False) s₁) (fun _ _ => False) s)
   (n : Nat) (h : I n s) :
   codeAny (model prog w) A (.compLoop (.ListComp elt [⟨target, iter, ifs, 0⟩] scope pos) 0 it acc env) R s := by
 refine codeAny_loop rfl I (fun n s hI => ?_) n h
 show wpAny _ A ((compTurn (.ListComp elt [⟨target, iter, ifs, 0⟩] scope pos) 0 it acc env).onRaise (fun x => do noteFrame x env; theTreesLotGoes x)) _ _ s
 refine wpAny_noted ?_
 rw [compTurn_list]
 refine aaC (wpAny_standAt (aaC (abw (turn n s hI) (fun r s₁ h₁ => ?_) fun _ _ h' => h'.elim)))
 cases r with
 | none => exact aa4 h₁
 | some v =>
   refine aaC (abw h₁ (fun _ Mw Sl => ?_) fun _ _ h' => h'.elim)
   refine aaC (abw Sl (fun _ s₂ h₂ => aaC (abw h₂ (fun ok s₃ h₃ => ?_) fun _ _ h' => h'.elim)) fun _ _ h' => h'.elim)
   cases ok with
   | false => exact aa4 ⟨rfl, h₃⟩
   | true =>
     exact aaC (aaC (abw h₃ (fun x s₄ h₄ => aaC (abw h₄ (fun _ s₅ h₅ => aa4 (aa4 ⟨rfl, h₅⟩)) fun _ _ h' => h'.elim)) fun _ _ h' => h'.elim))
end
def bU (env : Env) : List (Str × NameKind) -> List (Str × Addr) -> List (Str × Addr)
 | [], cs => cs
 | (n, k) :: r, cs => bU env r (if k == .free then (n, (env.cells.lookup n).getD 0) :: cs else cs)
theorem gT {scope : Scope} {env : Env} (h : ∀ x ∈ scope.names, x.2 = .free -> ∃ c, env.cells.lookup x.1 = some c) : closureFor scope env = pure (bU env scope.names []) := by
 have go : ∀ (l : List (Str × NameKind)) (cs : List (Str × Addr)), (∀ x ∈ l, x.2 = .free -> ∃ c, env.cells.lookup x.1 = some c) →
     (forIn l cs fun x r => match x with | (name, kind) => if (kind == NameKind.free) = true then do let a ← cellOf env name; pure (ForInStep.yield ((name, a) :: r)) else pure (ForInStep.yield r) : Sem (List (Str × Addr))) = pure (bU env l cs) := by
   intro l
   induction l with
   | nil => intro cs _; rfl
   | cons x r ih =>
     intro cs hx
     obtain ⟨n, k⟩ := x
     rw [List.forIn_cons]
     by_cases hk : k = .free
     . subst hk
       obtain ⟨c, hc⟩ := hx (n, .free) aax rfl
       have e : cellOf env n = pure c := by unfold cellOf; rw [hc]
       simp only [abF, abZ, e, pure_bind]
       rw [ih _ fun y hy => hx y (aay _ hy)]
       simp only [bU, abF, abZ]
       rw [hc]; rfl
     . have hb : (k == NameKind.free) = false := by simpa using hk
       simp only [hb, abg, abL, pure_bind]
       rw [ih _ fun y hy => hx y (aay _ hy)]
       simp only [bU, hb, abg, abL]
 unfold closureFor
 have := go scope.names [] h
 simp only [bind_pure] at this ⊢
 exact this
theorem iR {env : Env} : ∀ {l : List (Str × NameKind)} {cs : List (Str × Addr)} {y : Str} {c : Addr}, (∀ x ∈ l, x.2 = .free -> ∃ c, env.cells.lookup x.1 = some c) -> (∀ y c, cs.lookup y = some c -> env.cells.lookup y = some c) →
   (bU env l cs).lookup y = some c -> env.cells.lookup y = some c
 | [], cs, y, c, _, h, e => h y c e
 | (n, k) :: r, cs, y, c, hx, h, e => by
   refine iR (l := r) (fun z hz => hx z (aay _ hz)) (fun z d hz => ?_) e
   by_cases hk : k = .free
   . subst hk
     obtain ⟨c', hc⟩ := hx (n, .free) aax rfl
     simp only [abF, abZ, hc, Option.getD_some, aaS] at hz
     by_cases VP : (z == n) = true
     . rw [VP] at hz
       have : z = n := by simpa using VP
       subst this
       cases hz
       exact hc
     . have : (z == n) = false := by simpa using VP
       rw [this] at hz
       exact h z d hz
   . have hb : (k == NameKind.free) = false := by simpa using hk
     rw [hb] at hz
     exact h z d hz
theorem pH {env : Env} {y : Str} : ∀ {l : List (Str × NameKind)} {cs : List (Str × Addr)}, (∃ c, cs.lookup y = some c) -> ∃ c, (bU env l cs).lookup y = some c
 | [], cs, h => h
 | (n, k) :: r, cs, h => by
   refine pH (l := r) ?_
   by_cases hk : (k == NameKind.free) = true
   . rw [aar hk, aaS]
     by_cases hy : (y == n) = true
     . rw [hy]; exact ⟨_, rfl⟩
     . have : (y == n) = false := by simpa using hy
       rw [this]; exact h
   . rw [aap hk]; exact h
theorem gw {env : Env} {y : Str} : ∀ {l : List (Str × NameKind)} {cs : List (Str × Addr)}, l.lookup y = some .free -> ∃ c, (bU env l cs).lookup y = some c
 | [], _, h => by simp at h
 | (n, k) :: r, cs, h => by
   rw [aaS] at h
   by_cases hy : (y == n) = true
   . rw [hy] at h
     cases h
     refine pH (l := r) ?_
     rw [aar (by rfl), aaS, hy]
     exact ⟨_, rfl⟩
   . have : (y == n) = false := by simpa using hy
     rw [this] at h
     exact gw (l := r) h
def cF (X : Cx) (scope : Scope) (Nc : List Str) (C : Addr) (s : Shared) (H : Hp) (fp : List Addr) : Cx where
 prog := X.prog
 w := X.w
 K := X.K
 mg := X.mg
 base := X.base
 A := X.A
 N := Nc
 s₀ := s
 H₀ := H
 env := compEnvC scope (bU X.env scope.names []) C X.env
 outer := X.stack
 stack := X.stack
 ex := fp
 fn := fun _ => false
 calm := X.calm
 pn := []
 xe := fun _ _ => False
structure eK (X : Cx) (scope : Scope) (x : Str) (Nc : List Str) (ix : List Nat) : Prop where
 kind : scope.kind = .function
 oi : ∀ y ∈ scope.names, y.2 ≠ .cell
 nd : Nc.Nodup
 names : ∀ y ∈ scope.names, y.2 = .local -> scope.names.lookup y.1 = some .local
 own : scope.names.lookup x = some .local
 frees : ∀ y ∈ scope.names, y.2 = .free -> scope.names.lookup y.1 = some .free /\ (X.env.kindOf y.1 = some .cell \/ X.env.kindOf y.1 = some .free)
 hd : Nc = x :: ix.filterMap (X.N[·]?)
 Mx : ∀ i ∈ ix, ∃ y, X.N[i]? = some y /\ scope.names.lookup y = some .free
theorem dI {env : Env} : ∀ {names : List (Str × NameKind)} {x : Str} {k : NameKind}, names.lookup x = some k -> 
   (names.map fun (n, k) => if (k == NameKind.free && env.scope.kind == .function && env.kindOf n == some .cell) then (n, NameKind.cell) else (n, k)).lookup x = some (if (k == NameKind.free && env.scope.kind == .function && env.kindOf x == some .cell) then .cell else k)
 | [], _, _, h => by simp at h
 | (n, k') :: r, x, k, h => by
   have ih := @dI env r x k
   show List.lookup x ((if (k' == NameKind.free && env.scope.kind == .function && env.kindOf n == some .cell) = true then (n, NameKind.cell) else (n, k')) :: _) = _
   cases hx : x == n with
   | true =>
     simp only [aaS, hx] at h
     cases h
     have e : x = n := by simpa using hx
     subst e
     split <;> simp [aaS]
   | false =>
     simp only [aaS, hx] at h
     split
     . simp only [aaS, hx]; exact ih h
     . simp only [aaS, hx]; exact ih h
theorem fS {env : Env} : ∀ {names : List (Str × NameKind)} {x : Str}, names.lookup x = none -> 
   (names.map fun (n, k) => if (k == NameKind.free && env.scope.kind == .function && env.kindOf n == some .cell) then (n, NameKind.cell) else (n, k)).lookup x = none
 | [], _, _ => rfl
 | (n, k') :: r, x, h => by
   have ih := @fS env r x
   show List.lookup x ((if (k' == NameKind.free && env.scope.kind == .function && env.kindOf n == some .cell) = true then (n, NameKind.cell) else (n, k')) :: _) = _
   cases hx : x == n with
   | true => simp only [aaS, hx] at h; cases h
   | false =>
     simp only [aaS, hx] at h
     split
     . simp only [aaS, hx]; exact ih h
     . simp only [aaS, hx]; exact ih h
section
variable {X : Cx} {scope : Scope} {x : Str} {Nc : List Str} {ix : List Nat} {pins : List (Addr × Obj)} {σ : L2.St} {H : Hp} {s : Shared}
def oj (σ : L2.St) (ix : List Nat) (o : Option V) : L2.St := o :: ix.map fun i => (σ[i]?).getD none
theorem C5 {fp : List Addr} {gk : List (Addr × Obj)} {σ' : L2.St} {H' : Hp} {s' : Shared} {Ra : Heap} (I : Inv X pins σ H s) (qf : ∀ b ∈ fp, fW X pins H b)
   (J : Inv (cF X scope Nc s.heap.objs.size s H fp) gk σ' H' s') (hs : Heap.SameBut s.heap.objs.size s'.heap Ra) : Inv X pins σ H' { s' with heap := Ra } := by
 have un : Un (D3 X.stack) fp H H' s.heap s'.heap := J.base
 have Yu : Un (D3 X.stack) fp H H' s.heap Ra := by
   have ne : ∀ b o, s.heap.get? b = some o -> b ≠ s.heap.objs.size := fun b o e => aaV (aaE e)
   refine ⟨fun b o e n hb hx => (hs.2 b (ne b o e)).trans (un.keep b o e n hb hx), fun b o e n hb hx => ?_, un.free, fun b o e hx => ?_, un.uI, un.fV, un.uJ⟩
   . obtain ⟨sl, q⟩ := un.slot b o e n hb hx
     exact ⟨sl, (hs.2 b (ne b o e)).trans q⟩
   . obtain ⟨o', q⟩ := un.there b o e hx
     exact ⟨o', (hs.2 b (ne b o e)).trans q⟩
 have nC : H' s.heap.objs.size = none := J.free
 have cU : pS X.prog X.w H' Ra := fun b u e => by
   refine (J.cU b u e).uH (fun c v hc q => (hs.2 c ?_).trans q) (fun _ q => q) fun _ _ q => q
   rintro rfl
   rcases hc with z | z
   . subst z; rw [nC] at e; cases e
   . rw [nC] at z; cases z
 obtain ⟨hh, g, d, t, Q6⟩ := s'
 obtain rfl : Q6 = s.os := J.os
 show L2.Inv X pins σ H' { s with heap := Ra, gens := g, drawn := d, toks := t }
 exact I.call (h' := Ra) (g' := g) (d' := d) (t' := t) (ch := fp) Yu cU J.bare fun b hb => ⟨(qf b hb).2.2.2.1, (qf b hb).2.1, (qf b hb).2.2.2.2.1, (qf b hb).2.2.2.2.2⟩
def Oo (X : Cx) : List Expr -> TT
 | [] => fun _ H Q => Q true H
 | [c] => Ih X c
 | _ => fun _ _ _ => False
theorem EJ {ifs : List Expr} {Q : Bool -> Hp -> Prop} (I : Inv X pins σ H s) (h : Oo X ifs σ H Q) (hx : X.xe = fun _ _ => False) :
   wpAny (model X.prog X.w) X.A (forIn ifs true fun c r => if r = true then do let ok ← isTrue c X.env (eval c X.env); pure (ForInStep.yield ok) else pure (ForInStep.yield r)) (TP X pins σ Q) (fun _ _ => False) s := by
 match ifs, h with
 | [], h => exact wpAny_tests_nil ⟨H, I, h⟩
 | [c], h =>
   have := h pins s I
   rw [hx] at this
   exact wpAny_tests_one this
end
def UM (X : Cx) (CL : Str -> Addr) (b : Bx) (ifs : List Expr) (δ : List (Option T)) (p : Bool) : Prop :=
 match ifs with
 | [] => p = true
 | [c] => mH X CL b c δ p δ
 | _ => False
theorem UM.Yv {X : Cx} {CL : Str -> Addr} {b : Bx} {ifs : List Expr} {δ : List (Option T)} {p : Bool} (h : UM X CL b ifs δ p) {H Z : Hp} {σ : L2.St} {Q : Bool -> Hp -> Prop} (S : bP X.K CL b H Z δ σ [] [])
   (k : ∀ H' Z', aA Z Z' -> aA H H' -> bP X.K CL b H' Z' δ σ [] [] -> Q p H') : Oo X ifs σ H Q := by
 match ifs, h with
 | [], h =>
   have e : p = true := h
   subst e
   exact k H Z (.refl _) (.refl _) S
 | [c], h => exact (show mH X CL b c δ p δ from h) H Z σ [] [] Q S k
theorem gi {ts : List T} : (T.lst ts).clean = T.dG ts := by rw [T.clean]
theorem qU {g : D -> T} : ∀ {ds : List D}, (∀ d ∈ ds, (g d).clean = true) -> T.dG (ds.map g) = true
 | [], _ => by rw [List.map_nil, T.dG]
 | d :: ds, h => by
   rw [aa3, T.dG, h d aax, qU fun e he => h e (aay _ he)]
   rfl
section
variable {X : Cx} {CL : Str -> Addr} {b : Bx} {H Z W1 : Hp} {δ δc : List (Option T)} {σ : L2.St} {ts : List T} {vs us : List V} {ds : List D} {scope : Scope} {Nc : List Str} {ix : List Nat} {elt : Expr} {ifs : List Expr} {p : D -> Bool} {g : D -> T} {J : It}
end
section
variable {K : PySem.W.Frag} {CL : Str -> Addr} {b : Bx} {H H' Z Z' : Hp} {δ δ' : List (Option T)} {σ σ' : L2.St} {ts tl : List T} {vs us : List V} {t : T} {v : V}
theorem aN.at : ∀ {tl : List T} {us : List V} {fp : List Addr} {j : Nat} {t : T}, aN K CL H Z tl us fp -> tl[j]? = some t -> ∃ v f1 f2 f3, us[j]? = some v /\ fp = f1 ++ (f2 ++ f3) /\ ck K CL H Z t v f2 ∧
   ∀ {H' : Hp} {t' : T} {v' : V} {g : List Addr}, (∀ a ∈ f1 ++ f3, H' a = H a) -> ck K CL H' Z t' v' g -> aN K CL H' Z (tl.set j t') (us.set j v') (f1 ++ (g ++ f3))
 | _, _, _, _, _, .nil, e => by simp at e
 | _, _, _, 0, _, .cons (fp := fp) (gp := gp) r q, e => by
   simp at e
   subst e
   exact ⟨_, [], fp, gp, rfl, rfl, r, fun {H' t' v' g} k r' => aN.cons (fp := g) (gp := gp) r' (aN.mono (fp := gp) (.refl _) (fun a ha => k a (by simpa using ha)) q)⟩
 | _, _, _, j + 1, t, .cons (fp := fp) (gp := gp) r q, e => by
   obtain ⟨v, f1, f2, f3, h1, h2, h3, h4⟩ := aN.at (j := j) (t := t) q (by simpa using e)
   refine ⟨v, fp ++ f1, f2, f3, by simpa using h1, by rw [h2, List.append_assoc], h3, fun k r' => ?_⟩
   rw [aav]
   exact .cons (r.mono (.refl _) fun a ha => k a (by simp [ha])) (h4 (fun a ha => k a (by rw [aav]; exact aao _ ha)) r')
theorem qV {α : Type} {l : List α} {i : Nat} {x : α} (h : l[i]? = some x) : l.set i x = l := by
 apply abN
 intro j
 rw [List.getElem?_set]
 split
 . rename_i e; subst e
   split
   . exact h.symm
   . rename_i h2; rw [ab1 (by omega)]
 . rfl
theorem bP.write {a : Addr} {xs : List V} {f1 f2 f3 g gp Oq : List Addr} {δ2 : List (Option T)} (S : bP K CL b H Z δ σ ts vs) (nd : ((f1 ++ (f2 ++ f3)) ++ gp).Nodup) (own : ∀ c ∈ (f1 ++ (f2 ++ f3)) ++ gp, Z c = none /\ b.B c = none) (ha : a ∈ f2)
   (hH : ∃ o, H a = some o) (e' : d8 K CL (upd H a (.lst xs)) Z δ2 σ (f1 ++ (g ++ f3))) (r' : aN K CL (upd H a (.lst xs)) Z tl us Oq) (pm : ((f1 ++ (g ++ f3)) ++ Oq).Nodup) (sub : ∀ c ∈ (f1 ++ (g ++ f3)) ++ Oq, c ∈ (f1 ++ (f2 ++ f3)) ++ gp) :
   bP K CL b (upd H a (.lst xs)) Z δ2 σ tl us := by
 have oa := own a (by simp [ha])
 refine ⟨⟨_, _, e', r', pm, fun c hc => own c (sub c hc)⟩, fun c o q => ?_, S.zz, fun c o q => ?_, S.new, fun c o q i => ?_, S.tab⟩
 . rw [au (aD q oa.2)]; exact S.bh c o q
 . rw [au (aD q oa.1)]; exact S.zh c o q
 . by_cases hc : c = a
   . subst hc; rw [aL] at q; cases q; cases i
   . rw [au hc] at q; exact S.tp c o q i
theorem bP.append {i : Nat} (S : bP K CL b H Z δ σ (t :: ts) (v :: vs)) (hi : δ[i]? = some (some (.lst tl))) :
   ∃ a us, σ[i]? = some (some (.ref a)) /\ H a = some (.lst us) /\ us.length = tl.length /\ bP K CL b (upd H a (.lst (us ++ [v]))) Z (δ.set i (some (.lst (tl ++ [t])))) σ ts vs := by
 obtain ⟨fp, gp, e, r, nd, k⟩ := S.rep
 obtain ⟨v0, f1, f2, f3, hv, qf, rt, put, _⟩ := e.get hi
 subst qf
 cases rt with
 | @lst a us _ g ha rs =>
   cases r with
   | @cons _ _ _ _ ft gr q1 q2 =>
     have ne : ∀ c ∈ (f1 ++ (g ++ f3)) ++ (ft ++ gr), c ≠ a := fun c hc e => by
       subst e
       have hp : ((f1 ++ ((c :: g) ++ f3)) ++ (ft ++ gr)).Perm (c :: ((f1 ++ (g ++ f3)) ++ (ft ++ gr))) := by
         rw [aaQ, ← aaQ]
         exact (List.perm_middle.append_right _)
       exact (abA.mp (hp.nodup_iff.mp nd)).1 hc
     refine ⟨a, us, hv, ha, rs.length.symm, ?_⟩
     have r1 : ck K CL (upd H a (.lst (us ++ [v]))) Z (.lst (tl ++ [t])) (.ref a) (a :: (g ++ (ft ++ []))) :=
       .lst aL (aN.app (rs.mono (.refl _) fun c hc => au (ne c (by simp [hc]))) (.cons (q1.mono (.refl _) fun c hc => au (ne c (by simp [hc]))) .nil))
     have e2 := put (H' := upd H a (.lst (us ++ [v]))) (.refl _) (fun c hc => au (ne c (by
       rcases aaG.mp hc with h | h
       . simp [h]
       . simp [h]))) r1
     rw [qV hv] at e2
     have hp : ((f1 ++ ((a :: (g ++ (ft ++ []))) ++ f3)) ++ gr).Perm ((f1 ++ ((a :: g) ++ f3)) ++ (ft ++ gr)) := by
       simp only [aa1, aaQ, aav]
       refine abf f1 (List.Perm.cons a (abf g ?_))
       rw [← aav, ← aav]
       exact aa7.append_right gr
     exact S.write nd k (aax) ⟨_, ha⟩ e2 (q2.mono (.refl _) fun c hc => au (ne c (by simp [hc]))) (hp.nodup_iff.mpr nd) fun c hc => hp.mem_iff.mp hc
theorem bP.setAt {i j : Nat} (S : bP K CL b H Z δ σ (t :: ts) (v :: vs)) (hi : δ[i]? = some (some (.lst tl))) (hj : j < tl.length) :
   ∃ a us, σ[i]? = some (some (.ref a)) /\ H a = some (.lst us) /\ us.length = tl.length /\ bP K CL b (upd H a (.lst (us.set j v))) Z (δ.set i (some (.lst (tl.set j t)))) σ ts vs := by
 obtain ⟨fp, gp, e, r, nd, k⟩ := S.rep
 obtain ⟨v0, f1, f2, f3, hv, qf, rt, put, _⟩ := e.get hi
 subst qf
 cases rt with
 | @lst a us _ g ha rs =>
   cases r with
   | @cons _ _ _ _ ft gr q1 q2 =>
     have ne : ∀ c ∈ (f1 ++ (g ++ f3)) ++ (ft ++ gr), c ≠ a := fun c hc e => by
       subst e
       have hp : ((f1 ++ ((c :: g) ++ f3)) ++ (ft ++ gr)).Perm (c :: ((f1 ++ (g ++ f3)) ++ (ft ++ gr))) := by
         rw [aaQ, ← aaQ]
         exact (List.perm_middle.append_right _)
       exact (abA.mp (hp.nodup_iff.mp nd)).1 hc
     refine ⟨a, us, hv, ha, rs.length.symm, ?_⟩
     obtain ⟨vj, g1, g2, g3, _, hg, _, set⟩ := rs.at (aaq hj)
     subst hg
     have r1 : ck K CL (upd H a (.lst (us.set j v))) Z (.lst (tl.set j t)) (.ref a) (a :: (g1 ++ (ft ++ g3))) :=
       .lst aL (set (fun c hc => au (ne c (by
         rcases aaG.mp hc with h | h
         . simp [h]
         . simp [h]))) (q1.mono (.refl _) fun c hc => au (ne c (by simp [hc]))))
     have e2 := put (H' := upd H a (.lst (us.set j v))) (.refl _) (fun c hc => au (ne c (by
       rcases aaG.mp hc with h | h
       . simp [h]
       . simp [h]))) r1
     rw [qV hv] at e2
     have hp : ((f1 ++ ((a :: (g1 ++ (ft ++ g3))) ++ f3)) ++ gr).Perm ((f1 ++ ((a :: (g1 ++ g3)) ++ f3)) ++ (ft ++ gr)) := by
       simp only [aaQ, aav]
       refine abf f1 (List.Perm.cons a (abf g1 ?_))
       have := (aa7 (l₁ := ft) (l₂ := g3 ++ f3)).append_right gr
       simp only [aav] at this
       exact this
     have sb : ((f1 ++ ((a :: (g1 ++ g3)) ++ f3)) ++ (ft ++ gr)).Sublist ((f1 ++ ((a :: (g1 ++ (g2 ++ g3))) ++ f3)) ++ (ft ++ gr)) := by
       refine aa2 (aa2 (aaZ _) (aa2 (List.Sublist.cons₂ a ?_) (aaZ _))) (aaZ _)
       exact aa2 (aaZ _) (abo _ _)
     exact S.write nd k (aax) ⟨_, ha⟩ e2 (q2.mono (.refl _) fun c hc => au (ne c (by simp [hc]))) (hp.nodup_iff.mpr (nd.sublist sb)) fun c hc => sb.subset (hp.mem_iff.mp hc)
end
section
variable {X : Cx} {CL : Str -> Addr} {b : Bx} {δ δ1 δ2 : List (Option T)} {e e2 : Expr} {t : T} {tl Iv tt Xm : List T} {D : cC} {pos pp pa pb : Pos}
theorem Ot (i : Nat) {x : Str} (h0 : δ[i]? = some (some (.lst Iv))) (h : bX X CL b e δ t δ1) (h1 : δ1[i]? = some (some (.lst tl))) (hl : tl.length < sizeLine) (k : D.nx (δ1.set i (some (.lst (tl ++ [t])))))
   (hi : X.N[i]? = some x := by rfl) (hv : MZ X.env.scope x := by first | exact Or.inl rfl | exact Or.inr (Or.inl rfl) | exact Or.inr (Or.inr rfl)) (hd : (x == ("__debug__" : Str)) = false := by decide) (gI : (x == ("__classdict__" : Str)) = false := by decide)
   (qO : attributeBase (.Name x pp) "append" X.env (eval (.Name x pp) X.env) = eval (.Name x pp) X.env := by rfl)
   (Aj : ((backTo pb (starEach [e] X.env)).all (fun x => !x.1) && (backToKw pb (keywordEach [] X.env)).all (fun x => x.1.isSome) && decide ([e].length + ([] : List Keyword).length + (if ([] : List Keyword).isEmpty then 0 else 1) < 30)) = true := by rfl)
   (hline : (pa.endLine == pb.line) = true := by rfl) (hs : starEach [e] X.env = (false, eval e X.env) :: starEach [] X.env := by exact bN rfl) (C6 : swapsWith (.Call (.Attribute (.Name x pp) "append" pa) [e] [] pb) none pos.line X.env = pure false := by rfl) :
   Mr X CL b (.Expr (.Call (.Attribute (.Name x pp) "append" pa) [e] [] pb) pos) δ D := fun H Z σ ts vs E S M =>
 uU (HJ (Mm PySem.F.plainAttrs_list PySem.F.slot_list_append PySem.F.type_list_append tZ (lQ hi hv hd gI) (cz dR eU hs) qO Aj hline hs rfl) C6) (by
   obtain ⟨v0, e0, r0⟩ := S.look h0
   refine ⟨v0, e0, ?_, ?_⟩
   . rw [T.cZ] at r0
     cases r0 with
     | lst hq _ => exact .inl ⟨rfl, _, hq⟩
   . refine h H Z σ ts vs _ S fun v H1 Z1 z1 k1 S1 => ?_
     obtain ⟨a, us, ea, ha, hu, S2⟩ := S1.append h1
     rw [e0] at ea
     cases ea
     exact ⟨a, us, v, rfl, rfl, ha, by rw [hu]; exact hl, M.nx _ σ _ Z1 z1 S2 k⟩)
end
def Sn : Option (Option T) -> Option T
 | some (some t) => some (.sh t.cZ)
 | _ => none
def Xn : Option (Option T) -> Option T
 | some (some (T.sh d)) => some (.sh d)
 | _ => none
def tK (δ : List (Option T)) (ix : List Nat) : List (Option T) := ix.map fun i => Sn δ[i]?
def yC (δ : List (Option T)) (ix : List Nat) : List (Option T) := ix.map fun i => Xn δ[i]?
section
variable {K : PySem.W.Frag} {CL : Str -> Addr} {b : Bx} {H Z : Hp} {δ : List (Option T)} {σ : L2.St} {ts : List T} {vs : List V}
theorem qW (S : bP K CL b H Z δ σ ts vs) : ∀ (ix : List Nat) (H' : Hp), d8 K CL H' H (tK δ ix) (ix.map fun i => (σ[i]?).getD none) []
 | [], _ => .nil
 | i :: r, H' => by
   have ih := qW S r H'
   show d8 K CL H' H (Sn δ[i]? :: tK δ r) (((σ[i]?).getD none) :: r.map fun i => (σ[i]?).getD none) []
   cases e : δ[i]? with
   | none => exact .skip ih
   | some o =>
     cases o with
     | none => exact .skip ih
     | some t =>
       obtain ⟨v, hv, rv⟩ := S.look e
       rw [hv]
       exact .cons (fp := []) (gp := []) (.sh rv) ih
theorem yE (S : bP K CL b H Z δ σ ts vs) : ∀ (ix : List Nat) (H' : Hp), d8 K CL H' Z (yC δ ix) (ix.map fun i => (σ[i]?).getD none) []
 | [], _ => .nil
 | i :: r, H' => by
   have ih := yE S r H'
   show d8 K CL H' Z (Xn δ[i]? :: yC δ r) (((σ[i]?).getD none) :: r.map fun i => (σ[i]?).getD none) []
   cases e : δ[i]? with
   | none => exact .skip ih
   | some o =>
     cases o with
     | none => exact .skip ih
     | some t =>
       cases t with
       | sh d =>
         obtain ⟨v, hv, rv⟩ := S.Mp e
         rw [hv]
         exact .cons (fp := []) (gp := []) (.sh rv) ih
       | tup _ => exact .skip ih
       | lst _ => exact .skip ih
       | ins _ _ => exact .skip ih
       | qe _ => exact .skip ih
       | pin _ _ => exact .skip ih
end
section
variable {X : Cx} {CL : Str -> Addr} {b : Bx} {δ δ1 : List (Option T)} {scope : Scope} {x : Str} {Nc : List Str} {ix : List Nat} {elt iter : Expr} {ifs : List Expr} {px pos : Pos} {ds : List D}
structure Comes (X : Cx) (CL : Str -> Addr) (b : Bx) (δ1 : List (Option T)) (σ : L2.St) (ts : List T) (vs : List V) (Z H : Hp) (ds : List D) (J : It) (H1 : Hp) : Prop where
 ex : ∃ Z1 us, aA Z Z1 /\ aA H H1 /\ bP X.K CL b H1 Z1 δ1 σ ts vs /\ aC X.K CL Z1 ds us /\ (∀ i H2, aA Z1 H2 -> i < ds.length -> J.go i H2) ∧
   (∀ i H2 x H', aA Z1 H2 -> i < ds.length -> J.Mh i H2 x H' -> H' = H2 /\ us[i]? = some x) /\ (∀ H2, aA Z1 H2 -> J.stop ds.length H2)
def Iw (X : Cx) (CL : Str -> Addr) (b : Bx) (tg e : Expr) (δ : List (Option T)) (ds : List D) (δ1 : List (Option T)) : Prop :=
 ∃ wi, PI X tg e wi /\ ∀ (H Z : Hp) (σ : L2.St) (ts : List T) (vs : List V) (R : It -> Hp -> Prop), bP X.K CL b H Z δ σ ts vs -> (∀ J H1, Comes X CL b δ1 σ ts vs Z H ds J H1 -> R J H1) -> wi σ H R
theorem qX {tg : Expr} (h : bX X CL b iter δ (.sh (.lst ds)) δ1) : Iw X CL b tg iter δ ds δ1 := by
 refine ⟨_, HL dR, fun H Z σ ts vs R S k => h H Z σ ts vs _ S fun v H1 Z1 z1 k1 S1 => ?_⟩
 obtain ⟨fp, gp, _, r, _, _⟩ := S1.rep
 cases r with
 | cons r _ =>
   cases r with
   | sh r =>
     cases r with
     | @lst a us _ hq rr =>
       refine ⟨a, rfl, ⟨us, S1.zh.seq hq⟩, k _ _ ⟨Z1, us, z1, k1, S1.pop, rr, fun i H2 s hi => ?_, fun i H2 y H' s hi hy => ⟨hy.1, hy.2 us (s.seq hq)⟩, fun H2 s => ⟨us, s.seq hq, by rw [rr.length]; exact aas _⟩⟩⟩
       have D6 : i < us.length := by rw [← rr.length]; exact hi
       exact ⟨us, us[i], s.seq hq, by simp [D6]⟩
theorem EK {tg : Expr} (h : bX X CL b iter δ (.sh (.tup ds)) δ1) : Iw X CL b tg iter δ ds δ1 := by
 refine ⟨_, Nu dR, fun H Z σ ts vs R S k => h H Z σ ts vs _ S fun v H1 Z1 z1 k1 S1 => ?_⟩
 obtain ⟨fp, gp, _, r, _, _⟩ := S1.rep
 cases r with
 | cons r _ =>
   cases r with
   | sh r =>
     cases r with
     | @tup a us _ hq rr =>
       refine ⟨a, rfl, ⟨us, aA.Q9 S1.zh hq⟩, k _ _ ⟨Z1, us, z1, k1, S1.pop, rr, fun i H2 s hi => ?_, fun i H2 y H' s hi hy => ⟨hy.1, hy.2 us (aA.Q9 s hq)⟩, fun H2 s => ⟨us, aA.Q9 s hq, by rw [rr.length]; exact aas _⟩⟩⟩
       have D6 : i < us.length := by rw [← rr.length]; exact hi
       exact ⟨us, us[i], aA.Q9 s hq, by simp [D6]⟩
def bC (lo : Int) (n : Nat) : List D := (List.range n).map fun (i : Nat) => D.int (lo + i)
theorem yF {K : PySem.W.Frag} {Z : Hp} (lo : Int) (n : Nat) : aC K CL Z (bC lo n) ((List.range n).map fun (i : Nat) => V.int (lo + i)) := by
 unfold bC
 generalize List.range n = l
 induction l with
 | nil => exact .nil
 | cons i r ih => exact .cons (.int _) ih
theorem ef {tg : Expr} {pr pc : Pos} {n : Int} (hm : X.mg "range" = none) (h : cA X CL b iter δ (.int n) δ1) (hn : -(2 ^ 62) <= n /\ n < 2 ^ 62) (hg : Gl X "range") (Eh : starEach [iter] X.env = [(false, eval iter X.env)] := by rfl) (Ou : starEach [iter] X.env = (false, eval iter X.env) :: starEach [] X.env := by exact bN rfl) :
   Iw X CL b tg (.Call (.Name "range" pr) [iter] [] pc) δ (bC 0 n.toNat) δ1 := by
 refine ⟨_, CJ hg hm (cz dR eU Ou) Eh, fun H Z σ ts vs R S k => h H Z σ ts vs _ S fun v H1 Z1 z1 k1 S1 r => ⟨n, by rw [r.sc rfl], hn.1, hn.2, k _ _ ⟨Z1, _, z1, k1, S1, yF 0 n.toNat, fun i H2 s hi => ?_, fun i H2 y H' s hi hy => ?_, fun H2 s => ?_⟩⟩⟩
 . show i < n.toNat
   have : (bC 0 n.toNat).length = n.toNat := by simp [bC]
   omega
 . have D6 : i < n.toNat := by simpa [bC] using hi
   refine ⟨hy.1, ?_⟩
   rw [aa0, abu D6, hy.2]
   rfl
 . show n.toNat <= (bC 0 n.toNat).length
   simp [bC]
theorem C7 {tg : Expr} {pr pc : Pos} {e1 e2 : Expr} {δ2 : List (Option T)} {m n : Int} (hm : X.mg "range" = none) (h1 : cA X CL b e1 δ (.int m) δ1) (h2 : cA X CL b e2 δ1 (.int n) δ2) (hn : -(2 ^ 62) <= m /\ m < 2 ^ 62 /\ -(2 ^ 62) <= n /\ n < 2 ^ 62) (hg : Gl X "range")
   (Eh : starEach [e1, e2] X.env = [(false, eval e1 X.env), (false, eval e2 X.env)] := by rfl) (Ou : starEach [e2] X.env = [(false, eval e2 X.env)] := by rfl) (VQ : starEach [e1, e2] X.env = (false, eval e1 X.env) :: starEach [e2] X.env := by rfl) (VR : starEach [e2] X.env = (false, eval e2 X.env) :: starEach [] X.env := by rfl) :
   Iw X CL b tg (.Call (.Name "range" pr) [e1, e2] [] pc) δ (bC m (n - m).toNat) δ2 := by
 refine ⟨_, CK hg hm (cz dR (cz dR eU VR) VQ) Eh Ou, fun H Z σ ts vs R S k => h1 H Z σ ts vs _ S fun v H1 Z1 z1 k1 S1 r => h2 H1 Z1 σ ts vs _ S1 fun v2 H2 Z2 z2 k2 S2 r2 => ⟨m, n, by rw [r.sc rfl, r2.sc rfl], hn, k _ _ ⟨Z2, _, z1.trans z2, k1.trans k2, S2, yF m (n - m).toNat, fun i H2 s hi => ?_, fun i H2 y H' s hi hy => ?_, fun H2 s => ?_⟩⟩⟩
 . show i < (n - m).toNat
   have : (bC m (n - m).toNat).length = (n - m).toNat := by simp [bC]
   omega
 . have D6 : i < (n - m).toNat := by simpa [bC] using hi
   refine ⟨hy.1, ?_⟩
   rw [aa0, abu D6, hy.2]
   rfl
 . show (n - m).toNat <= (bC m (n - m).toNat).length
   simp [bC]
theorem Ov {D : cC} {eW : List Stmt} (i : Nat) {pos' : Pos} (P : Nat -> List (Option T) -> Prop) (h : Iw X CL b (.Name x pos') iter δ ds δ1) (h0 : P 0 δ1) (hl : ∀ j δ, P j δ -> i < δ.length)
   (hs : ∀ j d δ, ds[j]? = some d -> P j δ -> d9 X CL b eW (δ.set i (some (.sh d))) { nx := P (j + 1), rt := D.rt, bk := D.nx, ct := P (j + 1) }) (hd : ∀ δ, P ds.length δ -> D.nx δ)
   (hp : PassesOwn (model X.prog X.w) X.A X.env X.xe) (hc : X.calm = true) (hN : X.N.Nodup) (hi : X.N[i]? = some x) (hx : Loc X.env.scope x) (hf : X.fn x = true \/ X.env.scope.names.lookup x = some .local) (hq : ∀ x, foldedSetIterable iter X.env x = pure x := by intro _; rfl) :
   Mr X CL b (.For (.Name x pos') iter eW [] pos) δ D := fun H Z σ ts vs E S M => by
 obtain ⟨wi, pi, hw⟩ := h
 refine uU (Ek hp hc pi (mC hN hi hx hf) Ij hq) (hw H Z σ ts vs _ S fun J H1 ⟨Z1, us, z1, k1, S1, rr, go, yl, st⟩ => ?_)
 refine ⟨fun j m σ H2 => m = ds.length - j /\ j <= ds.length /\ ∃ Z2 δ2, aA Z1 Z2 /\ bP X.K CL b H2 Z2 δ2 σ ts vs /\ P j δ2, ⟨_, rfl, aaY _, Z1, δ1, .refl _, S1, h0⟩, ?_⟩
 rintro j m σ H2 ⟨rfl, hj, Z2, δ2, s, S2, p2⟩
 by_cases mL : j < ds.length
 . refine .inr ⟨go j H2 (s.trans S2.zh) mL, fun σ' H' => ∃ Z2 δ2, aA Z1 Z2 /\ bP X.K CL b H' Z2 δ2 σ' ts vs /\ P (j + 1) δ2, fun σ' H' h => ⟨ds.length - (j + 1), by omega, rfl, mL, h⟩, fun y H' hy => ?_⟩
   obtain ⟨e, hu⟩ := yl j H2 y H' (s.trans S2.zh) mL hy
   subst e
   obtain ⟨d, HB, rd⟩ := rr.EC hu
   have S3 := (S2.push (rd.mono s)).set (hl j δ2 p2)
   exact hs j d δ2 HB p2 _ Z2 _ ts vs _ S3 ⟨fun δ' σ' H' Z' s' S' k => ⟨Z', δ', s.trans s', S', k⟩, fun t v H' Z' δ' σ' s' S' k => M.rt t v H' Z' δ' σ' (z1.trans (s.trans s')) S' k, fun δ' σ' H' Z' s' S' k => M.nx δ' σ' H' Z' (z1.trans (s.trans s')) S' k, fun δ' σ' H' Z' s' S' k => ⟨Z', δ', s.trans s', S', k⟩⟩
 . have e : j = ds.length := by omega
   subst e
   exact .inl ⟨st H2 (s.trans S2.zh), M.nx δ2 σ H2 Z2 (z1.trans s) S2 (hd δ2 p2)⟩
def Block (X : Cx) (CL : Str -> Addr) (scope : Scope) (Nc : List Str) (ifs : List Expr) (elt : Expr) (δc : List (Option T)) (ds : List D) (p : D -> Bool) (g : D -> T) : Prop :=
 ∀ C s0 H0 f0 b' d, d ∈ ds -> UM (cF X scope Nc C s0 H0 f0) CL b' ifs (some (.sh d) :: δc) (p d) /\ (p d = true -> bX (cF X scope Nc C s0 H0 f0) CL b' elt (some (.sh d) :: δc) (g d) (some (.sh d) :: δc))
variable {p : D -> Bool} {g : D -> T} {δc : List (Option T)}
end
section
variable {X : Cx} {CL : Str -> Addr} {b : Bx} {δ δ1 : List (Option T)} {scope : Scope} {x : Str} {Nc : List Str} {ix : List Nat} {elt iter : Expr} {ifs : List Expr} {px pos : Pos} {ds : List D} {p : D -> Bool} {g : D -> T} {δc : List (Option T)}
def ZZ : L3.D -> String -> Option Bool
 | .non, n => if n = "int" \/ n = "str" \/ n = "list" \/ n = "tuple" \/ n = "bool" \/ n = "dict" then some false else none
 | .bl _, n => if n = "int" \/ n = "bool" then some true else if n = "str" \/ n = "list" \/ n = "tuple" \/ n = "dict" then some false else none
 | .int _, n => if n = "int" then some true else if n = "str" \/ n = "list" \/ n = "tuple" \/ n = "bool" \/ n = "dict" then some false else none
 | .str _, n => if n = "str" then some true else if n = "int" \/ n = "list" \/ n = "tuple" \/ n = "bool" \/ n = "dict" then some false else none
 | .lst _, n => if n = "list" then some true else if n = "int" \/ n = "str" \/ n = "tuple" \/ n = "bool" \/ n = "dict" then some false else none
 | .tup _, n => if n = "tuple" then some true else if n = "int" \/ n = "str" \/ n = "list" \/ n = "bool" \/ n = "dict" then some false else none
 | _, _ => none
def Ow (t n : String) : Option Bool := if (Value.type t == Value.type n) = true then some true else if PySem.W.kitMeta n = true then (fastBuiltinMro t).map (·.contains (.type n)) else none
theorem iz {K : PySem.W.Frag} {t n : String} : PySem.W.kitOne K (.type t) (.type n) = Ow t n := rfl
theorem EL : (["NoneType", "bool", "int", "str", "list", "tuple"].all fun t => ["int", "str", "list", "tuple", "bool", "dict"].all fun n => Ow t n == some (t == n || (t == "bool" && n == "int"))) = true := by decide +kernel
theorem j8 {t n : String} (ht : t ∈ ["NoneType", "bool", "int", "str", "list", "tuple"]) (hn : n ∈ ["int", "str", "list", "tuple", "bool", "dict"]) : Ow t n = some (t == n || (t == "bool" && n == "int")) := by
 have := EL
 rw [abq] at this
 have h := this t ht
 rw [abq] at h
 simpa using h n hn
def Sq : L3.D -> Option String
 | .non => some "NoneType"
 | .bl _ => some "bool"
 | .int _ => some "int"
 | .str _ => some "str"
 | .lst _ => some "list"
 | .tup _ => some "tuple"
 | _ => none
theorem C8 : pD X (.builtin "isinstance") (fun xs H Q => ∃ y n d t, xs = [y, .ty n] /\ bu X.K CL H d y /\ Sq d = some t /\ n ∈ ["int", "str", "list", "tuple", "bool", "dict"] /\ Q (.bl (t == n || (t == "bool" && n == "int"))) H) := by
 intro pins s σ H xs us Q I r h
 obtain ⟨y, n, d, t, rfl, rd, ht, hn, q⟩ := h
 obtain ⟨u, u2, rfl, ru, Yw⟩ := r.two
 cases (show u2 = Value.type n from Yw)
 have fin : ∀ tk, EP X pins σ Q (.bool (t == n || (t == "bool" && n == "int"))) { s with toks := tk } := fun tk => ⟨.bl _, H, I.tok tk, rfl, q⟩
 cases rd with
 | non => cases ht; cases (show u = Value.none from ru); exact abS PySem.W.kitx_none I.yd True.intro (iz.trans (j8 (by decide) hn)) (fun z => nomatch z) fin
 | bl c => cases ht; cases (show u = Value.bool c from ru); exact abS PySem.W.kitx_bool I.yd True.intro (iz.trans (j8 (by decide) hn)) (fun z => nomatch z) fin
 | int c => cases ht; obtain ⟨tt, e⟩ := (show ∃ t, u = Value.int c t from ru); cases e; exact abS PySem.W.kitx_int I.yd True.intro (iz.trans (j8 (by decide) hn)) (fun z => nomatch z) fin
 | str c => cases ht; obtain ⟨tt, e⟩ := (show ∃ t, u = Value.str c t from ru); cases e; exact abS PySem.W.kitx_str I.yd True.intro (iz.trans (j8 (by decide) hn)) (fun z => nomatch z) fin
 | @lst a ws _ hq rr =>
   cases ht
   cases (show u = Value.ref a from ru)
   obtain ⟨its, _, pl, _⟩ := I.list hq
   obtain ⟨o, n', e, c, _⟩ := pl
   exact abS PySem.W.kitx_list I.yd ⟨o, e, c⟩ (iz.trans (j8 (by decide) hn)) (fun z => nomatch z) fin
 | @tup a ws _ hq rr =>
   cases ht
   cases (show u = Value.ref a from ru)
   obtain ⟨its, _, pl, _⟩ := I.tuple hq
   obtain ⟨o, e, c, _⟩ := pl
   exact abS PySem.W.kitx_tuple I.yd ⟨o, e, c⟩ (iz.trans (j8 (by decide) hn)) (fun z => nomatch z) fin
 | ins _ _ => cases ht
 | any _ => cases ht
 | val _ => cases ht
 | qe _ _ => cases ht
theorem uX {e : Expr} {d : L3.D} {t n : String} {nm : Str} {pp pq : Pos} (hm : X.mg "isinstance" = none) (Ox : X.mg nm = none) (hg : Gl X "isinstance") (Oz : Gl X nm) (Yx : bootBuiltins nm = some (.type n)) (Yy : nm ≠ "__name__") (VW : (nm == ("__debug__" : Str)) = false) (h : cA X CL b e δ d δ1) (ht : Sq d = some t) (hn : n ∈ ["int", "str", "list", "tuple", "bool", "dict"])
   (hs : starEach [e, .Name nm pq] X.env = (false, eval e X.env) :: starEach [.Name nm pq] X.env := by exact bN rfl) :
   bX X CL b (.Call (.Name "isinstance" pp) [e, .Name nm pq] [] pos) δ (.sh (.bl (t == n || (t == "bool" && n == "int")))) δ1 := fun H Z σ ts vs Q S k =>
 cV (yq (C8 (CL := CL)) hg hm boot_isinstance (cz dR (cz (HD Oz Ox Yx (v := .ty n) rfl Yy VW) eU) hs) (he := hs)) (h H Z σ ts vs _ S fun v H1 Z1 z1 k1 S1 r =>
   ⟨v, n, d, t, rfl, r, ht, hn, k _ H1 Z1 z1 k1 (S1.push (.bl _))⟩)
end
theorem aF {n : Nat} (h : Nat.ble n 1000 = true) : n <= sizeLine := abp (cO (aat h))
structure Vn (X : Cx) (i : Nat) (x : Str) : Prop where
 hi : X.N[i]? = some x
 hv : MZ X.env.scope x
 hd : (x == ("__debug__" : Str)) = false
 gI : (x == ("__classdict__" : Str)) = false
structure Ln (X : Cx) (i : Nat) (x : Str) : Prop extends Vn X i x where
 loc : Loc X.env.scope x
 hf : X.fn x = true \/ X.env.scope.names.lookup x = some .local
structure Gx (X : Cx) : Prop where
 nd : X.N.Nodup
 calm : X.calm = true
 xe : X.xe = fun _ _ => False
structure Fc (X : Cx) (CL : Str -> Addr) (x : Str) (k n : Nat) {A : Type} (arg : A -> List D) (Pre : A -> Prop) (res : A -> T) : Prop where
 ex : ∃ f fd ps, bR X.prog X.w X.K X.mg X.base fQ k f fd ps (lF X.K CL n arg Pre res) /\ X.mg x = some (.ref f) /\ PySem.W.keepIn X.K (.ref f) = true /\ Binds X.K fd ps []
 room : dF k X.A
section
variable {X : Cx} {CL : Str -> Addr} {b : Bx} {δ δ1 δ2 : List (Option T)} {e e1 e2 : Expr} {es : List Expr} {d : L3.D} {t : T} {i : Nat} {x : Str} {pos pp : Pos} {D : cC} {eW : List Stmt} {ds : List L3.D}
theorem v_ (n : Vn X i x) (h : δ[i]? = some (some (.sh d)) := by rfl) : bX X CL b (.Name x pos) δ (.sh d) δ := Oa i n.hi n.hv n.hd n.gI h
theorem vF (n : Vn X i x) (h : δ[i]? = some (some t) := by rfl) : bX X CL b (.Name x pos) δ (.sh t.cZ) (δ.set i (some (.sh t.cZ))) := Im i n.hi n.hv n.hd n.gI h
theorem vM (n : Vn X i x) (h : δ[i]? = some (some t) := by rfl) : bX X CL b (.Name x pos) δ t (δ.set i none) := Io i n.hi n.hv n.hd n.gI h
theorem vB (n : Vn X i x) (h : δ[i]? = some (some t) := by rfl) : cA X CL b (.Name x pos) δ t.cZ δ := Ob i n.hi n.hv n.hd n.gI h
theorem gy {k : Int} (h : cA X CL b e δ (.int k) δ1) : bX X CL b (.UnaryOp .USub e pos) δ (.sh (.int (-k))) δ1 := fun H Z σ ts vs Q S kk =>
 cV (RM NP dR) (h H Z σ ts vs _ S fun v H1 Z1 z1 k1 S1 r => ⟨k, r.sc rfl, kk _ H1 Z1 z1 k1 (S1.push (.int _))⟩)
theorem vL (n : Vn X i x) (h : δ[i]? = some (some (.lst (ds.map T.sh))) := by rfl) : cA X CL b (.Name x pos) δ (.lst ds) δ := by
 have := vB (CL := CL) (b := b) (pos := pos) n h
 rwa [T.cZ, fX] at this
theorem c_ {k n : Nat} {A : Type} {arg : A -> List L3.D} {Pre : A -> Prop} {res : A -> T} (a : A) (F : Fc X CL x k n arg Pre res) (hg : Gl X x) (h : Mq X CL b (e :: es) δ (arg a) δ1) (hp : Pre a) (hc : (res a).clean = true) (hn : (arg a).length = n := by rfl)
   (tE : (x == ("__debug__" : Str)) = false := by decide) (he : starEach (e :: es) X.env = (false, eval e X.env) :: starEach es X.env := by exact bN rfl) (tF : (backTo pos (starEach es X.env)).any (·.1) = false := by rfl) :
   bX X CL b (.Call (.Name x pp) (e :: es) [] pos) δ (res a) δ1 := by
 obtain ⟨f, fd, ps, F1, m, k, b⟩ := F.ex
 exact Iu a F1 F.room m k b h hn hp hc hg tE he tF
theorem aO {pos' : Pos} (g : Gx X) (n : Ln X i x) (h : bX X CL b e δ t δ1) (k : d9 X CL b eW (δ1.set i (some t)) D) (hl : i < δ1.length := by exact aat rfl) (hs : swapsWith e (some (.Name x pos')) pos.line X.env = pure false := by rfl) :
   d9 X CL b (.Assign [.Name x pos'] e pos :: eW) δ D := dH (EI i h k hl g.nd n.hi n.loc hs n.hf)
theorem bA (h : bX X CL b e δ t δ1) (k : D.rt t δ1) : d9 X CL b (.Return (some e) pos :: eW) δ D := dH (Om h k)
theorem eu {p : Bool} {a c : List Stmt} (h : mH X CL b e δ p δ1) (h1 : p = true -> d9 X CL b a δ1 { D with nx := fun δ2 => d9 X CL b eW δ2 D }) (h2 : p = false -> d9 X CL b c δ1 { D with nx := fun δ2 => d9 X CL b eW δ2 D }) : d9 X CL b (.If e a c pos :: eW) δ D := dH (Sj h h1 h2)
theorem d9.to {D' : cC} (h : d9 X CL b eW δ D') (h1 : ∀ δ, D'.nx δ -> D.nx δ) (h2 : ∀ t δ, D'.rt t δ -> D.rt t δ) (h3 : ∀ δ, D'.bk δ -> D.bk δ) (h4 : ∀ δ, D'.ct δ -> D.ct δ) : d9 X CL b eW δ D := fun H Z σ ts vs E S M => h H Z σ ts vs E S (M.to h1 h2 h3 h4)
theorem t7 {p : Bool} {a c : List Stmt} (J : List (Option T) -> Prop) (h : mH X CL b e δ p δ1) (h1 : p = true -> d9 X CL b a δ1 { D with nx := J }) (h2 : p = false -> d9 X CL b c δ1 { D with nx := J }) (k : ∀ δ2, J δ2 -> d9 X CL b eW δ2 D) : d9 X CL b (.If e a c pos :: eW) δ D :=
 eu h (fun hp => d9.to (h1 hp) k (fun _ _ q => q) (fun _ q => q) (fun _ q => q)) (fun hp => d9.to (h2 hp) k (fun _ _ q => q) (fun _ q => q) (fun _ q => q))
theorem jt {body : List Stmt} {pos' : Pos} (g : Gx X) (n : Ln X i x) (P : Nat -> List (Option T) -> Prop) (h : Iw X CL b (.Name x pos') e δ ds δ1) (h0 : P 0 δ1) (hl : ∀ j δ, P j δ -> i < δ.length)
   (hs : ∀ j d δ, ds[j]? = some d -> P j δ -> d9 X CL b body (δ.set i (some (.sh d))) { nx := P (j + 1), rt := D.rt, bk := fun δ2 => d9 X CL b eW δ2 D, ct := P (j + 1) }) (hd : ∀ δ, P ds.length δ -> d9 X CL b eW δ D) (hq : ∀ x, foldedSetIterable e X.env x = pure x := by intro _; rfl) :
   d9 X CL b (.For (.Name x pos') e body [] pos :: eW) δ D :=
 dH (Ov (D := { D with nx := fun δ1 => d9 X CL b eW δ1 D }) i P h h0 hl hs hd (by rw [g.xe]; exact PassesOwn.never) g.calm g.nd n.hi n.loc n.hf hq)
theorem jF {e : Expr} {o : Option Expr} {l : Nat} {env : Env} (h : ∃ c, swapsWith e o l env = pure c) : swapsWith e o l env = pure true \/ swapsWith e o l env = pure false := by
 obtain ⟨c, h⟩ := h
 cases c
 . exact .inr h
 . exact .inl h
theorem gA {scope : Scope} {Nc : List Str} {C : Addr} {s : Shared} {H : Hp} {fp : List Addr} (h1 : Nc[i]? = some x) (h2 : scope.names.lookup x = some .local) (hd : (x == ("__debug__" : Str)) = false := by decide) (gI : (x == ("__classdict__" : Str)) = false := by decide) : Vn (cF X scope Nc C s H fp) i x :=
 ⟨h1, .inl (lookup_relabel_local h2), hd, gI⟩
theorem gU {scope : Scope} {Nc : List Str} {C : Addr} {s : Shared} {H : Hp} {fp : List Addr} (h1 : Nc[i]? = some x) (h2 : scope.names.lookup x = some .free) (hd : (x == ("__debug__" : Str)) = false := by decide) (gI : (x == ("__classdict__" : Str)) = false := by decide) : Vn (cF X scope Nc C s H fp) i x := by
 refine ⟨h1, ?_, hd, gI⟩
 have q := dI (env := X.env) h2
 show (relabel scope X.env).names.lookup x = some .local \/ (relabel scope X.env).names.lookup x = some .cell \/ (relabel scope X.env).names.lookup x = some .free
 rw [show (relabel scope X.env).names.lookup x = _ from q]
 split
 . exact .inr (.inl rfl)
 . exact .inr (.inr rfl)
theorem j9 {scope : Scope} {Nc : List Str} {C : Addr} {s : Shared} {H : Hp} {fp : List Addr} (h2 : scope.names.lookup x = some .globalImplicit) : Gl (cF X scope Nc C s H fp) x := by
 have q := dI (env := X.env) h2
 show (relabel scope X.env).names.lookup x = some .globalImplicit
 rw [show (relabel scope X.env).names.lookup x = _ from q]
 rfl
theorem qg {scope : Scope} {Nc : List Str} {C : Addr} {s : Shared} {H : Hp} {fp : List Addr} {k n : Nat} {A : Type} {arg : A -> List L3.D} {Pre : A -> Prop} {res : A -> T} (F : Fc X CL x k n arg Pre res) : Fc (cF X scope Nc C s H fp) CL x k n arg Pre res := ⟨F.ex, F.room⟩
end
section
variable {X : Cx} {CL : Str -> Addr} {b : Bx} {δ δ1 δ2 : List (Option T)} {e e1 e2 : Expr} {es : List Expr} {ds : List L3.D} {pos : Pos}
theorem ER {i j : Bool} (h1 : cA X CL b e1 δ (.bl i) δ1) (h2 : cA X CL b e2 δ1 (.bl j) δ2) : mH X CL b (.Compare e1 [.Eq] [e2] pos) δ (decide (i = j)) δ2 /\ bX X CL b (.Compare e1 [.Eq] [e2] pos) δ (.sh (.bl (decide (i = j)))) δ2 :=
 qP En h1 h2 rfl rfl (fun _ _ q => ⟨rfl, by rw [show decide (V.bl i = V.bl j) = decide (i = j) by simp]; exact q⟩) (iO _)
theorem Iz (h : An X CL b es δ (ds.map T.sh) δ1) (hl : ds.length <= sizeLine := by exact aF rfl) : bX X CL b (.List es pos) δ (.sh (.lst ds)) δ1 := by
 have := Ao (dm (pos := pos) h (by simpa using hl))
 rwa [T.cZ, fX] at this
end
section
variable {X : Cx} {CL : Str -> Addr} {b : Bx} {δ δ1 : List (Option T)} {e : Expr} {d : L3.D} {t : String} {pos pp pq : Pos}
theorem t8 : bootBuiltins "int" = some (.type "int") := by decide +kernel
theorem Yz (hm : X.mg "isinstance" = none) (Ox : X.mg "int" = none) (hg : Gl X "isinstance") (Oz : Gl X "int") (h : cA X CL b e δ d δ1) (ht : Sq d = some t := by rfl) (hs : starEach [e, .Name "int" pq] X.env = (false, eval e X.env) :: starEach [.Name "int" pq] X.env := by exact bN rfl) :
   bX X CL b (.Call (.Name "isinstance" pp) [e, .Name "int" pq] [] pos) δ (.sh (.bl (t == "int" || (t == "bool" && "int" == "int")))) δ1 := uX hm Ox hg Oz t8 (by decide) (by decide) h ht (by decide) hs
theorem As : bootBuiltins "bool" = some (.type "bool") := by decide +kernel
theorem YB (hm : X.mg "isinstance" = none) (Ox : X.mg "bool" = none) (hg : Gl X "isinstance") (Oz : Gl X "bool") (h : cA X CL b e δ d δ1) (ht : Sq d = some t := by rfl) (hs : starEach [e, .Name "bool" pq] X.env = (false, eval e X.env) :: starEach [.Name "bool" pq] X.env := by exact bN rfl) :
   bX X CL b (.Call (.Name "isinstance" pp) [e, .Name "bool" pq] [] pos) δ (.sh (.bl (t == "bool" || (t == "bool" && "bool" == "int")))) δ1 := uX hm Ox hg Oz As (by decide) (by decide) h ht (by decide) hs
theorem bJ : bootBuiltins "list" = some (.type "list") := by decide +kernel
theorem YC (hm : X.mg "isinstance" = none) (Ox : X.mg "list" = none) (hg : Gl X "isinstance") (Oz : Gl X "list") (h : cA X CL b e δ d δ1) (ht : Sq d = some t := by rfl) (hs : starEach [e, .Name "list" pq] X.env = (false, eval e X.env) :: starEach [.Name "list" pq] X.env := by exact bN rfl) :
   bX X CL b (.Call (.Name "isinstance" pp) [e, .Name "list" pq] [] pos) δ (.sh (.bl (t == "list" || (t == "bool" && "list" == "int")))) δ1 := uX hm Ox hg Oz bJ (by decide) (by decide) h ht (by decide) hs
theorem yG : bootBuiltins "tuple" = some (.type "tuple") := by decide +kernel
end
def lB (sc : Scope) (l : List (Str × NameKind)) : Bool := l.all fun p => sc.names.lookup p.1 == some p.2
theorem cX {sc : Scope} {l : List (Str × NameKind)} (h : lB sc l = true) (i : Nat) {x : Str} {k : NameKind} (hi : l[i]? = some (x, k)) : sc.names.lookup x = some k := by
 unfold lB at h
 rw [abq] at h
 exact beq_iff_eq.mp (h _ (aa5 hi))
inductive IA (X : Cx) : List Nat -> List Str -> Prop where
 | nil : IA X [] []
 | cons {i : Nat} {y : Str} {ix : List Nat} {ys : List Str} (n : Vn X i y) (k : X.env.kindOf y = some .cell \/ X.env.kindOf y = some .free) (r : IA X ix ys) : IA X (i :: ix) (y :: ys)
def EV (scope : Scope) (x : Str) (yH : List Str) : Bool :=
 scope.kind == .function && scope.names.lookup x == some .local && yH.all (fun y => scope.names.lookup y == some .free) && decide ((x :: yH).Nodup) &&
   scope.names.all fun y => y.2 != .cell && (y.2 != .local || scope.names.lookup y.1 == some .local) && (y.2 != .free || (yH.contains y.1 && scope.names.lookup y.1 == some .free))
theorem dJ {X : Cx} {scope : Scope} {x : Str} {ix : List Nat} {yH : List Str} (c : IA X ix yH) (ok : EV scope x yH = true) : eK X scope x (x :: yH) ix := by
 unfold EV at ok
 simp only [aa8, abq, abW, beq_iff_eq] at ok
 obtain ⟨⟨⟨⟨h1, h2⟩, h3⟩, h4⟩, h5⟩ := ok
 have kc : ∀ y ∈ yH, X.env.kindOf y = some .cell \/ X.env.kindOf y = some .free := by
   clear h3 h4 h5
   induction c with
   | nil => intro y hy; cases hy
   | cons n k r ih =>
     intro y hy
     rcases aau.mp hy with e | hy
     . subst e; exact k
     . exact ih y hy
 refine ⟨h1, fun y hy e => ?_, h4, fun y hy e => ?_, h2, fun y hy e => ?_, ?_, fun i hi => ?_⟩
 . have := (h5 y hy).1.1
   rw [e] at this
   simp at this
 . have := (h5 y hy).1.2
   rw [e] at this
   simpa using this
 . have := (h5 y hy).2
   rw [e] at this
   simp at this
   exact ⟨this.2, kc _ this.1⟩
 . congr 1
   clear h3 h4 h5 kc
   induction c with
   | nil => rfl
   | cons n k r ih => rw [abl, n.hi, ← ih]
 . clear h4 h5 kc
   induction c with
   | nil => cases hi
   | @cons i' y ix ys n k r ih =>
     rcases aau.mp hi with e | hi
     . subst e; exact ⟨y, n.hi, h3 y aax⟩
     . exact ih (fun z hz => h3 z (aay _ hz)) hi
def D.yI : D -> Int
 | .int i => i
 | _ => 0
def D.toS : D -> Str
 | .str x => x
 | _ => Str.empty
theorem dZ {bs : List Int} {k : Int} (h0 : 0 <= k) (h1 : k < bs.length) : sZ (bs.map D.int) k = some (.int (bs.getD k.toNat 0)) := by
 obtain ⟨j, rfl⟩ : ∃ j : Nat, k = j := ⟨k.toNat, by omega⟩
 refine fC ?_
 have hl : j < bs.length := by omega
 rw [aa0, aaq hl]
 simp [List.getD, hl]
theorem cu : ∀ (bs : List Int), D.bO (bs.map D.int) = true
 | [] => rfl
 | i :: r => by rw [aa3, D.bO, cu r]; rfl
theorem gB {lo : Int} {n j : Nat} {d : D} (h : (bC lo n)[j]? = some d) : d = .int (lo + j) /\ j < n := by
 have hl : j < n := by
   have := (aaP.mp h).1
   simpa [bC] using this
 refine ⟨?_, hl⟩
 unfold bC at h
 rw [aa0, abu hl] at h
 exact (aaH h).symm
theorem gK {α : Type} (l : List α) : l.filter (fun _ => true) = l := by simp
theorem yJ {K : PySem.W.Frag} {CL : Str -> Addr} {Z : Hp} : ∀ (ns : List Int), aC K CL Z (ns.map D.int) (ns.map V.int)
 | [] => .nil
 | n :: r => .cons (.int n) (yJ r)
mutual
def D.toPy : D -> PyData
 | .non => .none
 | .bl b => .bool b
 | .int i => .int i
 | .str x => .str x
 | .tup ds => .tuple (D.jG ds)
 | .lst ds => .list (D.jG ds)
 | .ins _ _ => .none
 | .qe _ => .none
 | .any => .none
 | .val _ => .none
def D.jG : List D -> List PyData
 | [] => []
 | d :: ds => d.toPy :: D.jG ds
end
inductive gW : Nat -> D -> Prop where
 | non (n : Nat) : gW n .non
 | bl (n : Nat) (b : Bool) : gW n (.bl b)
 | int (n : Nat) (i : Int) : gW n (.int i)
 | str (n : Nat) (x : Str) (h : PyData.strOk x = true) : gW n (.str x)
 | tup {n : Nat} {ds : List D} (h : ∀ d ∈ ds, gW n d) : gW (n + 1) (.tup ds)
 | lst {n : Nat} {ds : List D} (h : ∀ d ∈ ds, gW n d) : gW (n + 1) (.lst ds)
def C9 (a b : D) : Bool := PyData.eqv a.toPy b.toPy
theorem gW.OB {n : Nat} : ∀ {ds : List D}, (∀ d ∈ ds, d.toPy.canLay0 = true /\ d.toPy.depth <= n) -> PyData.canLayAll0 (D.jG ds) = true /\ PyData.depthAll (D.jG ds) <= n
 | [], _ => ⟨by rw [D.jG, PyData.canLayAll0], by rw [D.jG, PyData.depthAll]; exact aaY _⟩
 | d :: ds, h => by
   have h1 := h d aax
   have h2 := gW.OB (ds := ds) fun e he => h e (aay _ he)
   rw [D.jG, PyData.canLayAll0, PyData.depthAll, h1.1, h2.1]
   exact ⟨rfl, Nat.max_le.mpr ⟨h1.2, h2.2⟩⟩
theorem gW.lay {n : Nat} {d : D} (h : gW n d) : d.toPy.canLay0 = true /\ d.toPy.depth <= n := by
 induction h with
 | non n => exact ⟨by rw [D.toPy, PyData.canLay0], by rw [D.toPy, PyData.depth]; exact aaY _⟩
 | bl n b => exact ⟨by rw [D.toPy, PyData.canLay0], by rw [D.toPy, PyData.depth]; exact aaY _⟩
 | int n i => exact ⟨by rw [D.toPy, PyData.canLay0], by rw [D.toPy, PyData.depth]; exact aaY _⟩
 | str n x hx => exact ⟨by rw [D.toPy, PyData.canLay0]; exact hx, by rw [D.toPy, PyData.depth]; exact aaY _⟩
 | @tup n ds _ ih =>
   have := gW.OB ih
   rw [D.toPy, PyData.canLay0, PyData.depth]
   exact ⟨this.1, by omega⟩
 | @lst n ds _ ih =>
   have := gW.OB ih
   rw [D.toPy, PyData.canLay0, PyData.depth]
   exact ⟨this.1, by omega⟩
theorem mO {n : Nat} {d : D} (h : gW n d) : C9 d d = true := SeqAt.eqv_refl _ h.lay.1
section
variable {X : Cx} {CL : Str -> Addr} {pins : List (Addr × Obj)} {σ : L2.St} {H : Hp} {s : Shared}
mutual
theorem reads (I : L2.Inv X pins σ H s) : ∀ {d : D} {v : V} {u : Value}, d.toPy.canLay0 = true -> (∀ c fs, d ≠ .ins c fs) -> d ≠ .any -> bu X.K CL H d v -> RelV v u -> (∀ n, gW n d -> ∃ as, Reads s.heap u d.toPy as)
 | _, _, _, _, _, _, .non, r => fun _ _ => by cases r; rw [D.toPy]; exact ⟨[], .none⟩
 | _, _, _, _, _, _, .bl b, r => fun _ _ => by cases r; rw [D.toPy]; exact ⟨[], .bool b⟩
 | _, _, _, _, _, _, .int i, r => fun _ _ => by obtain ⟨t, rfl⟩ := r; rw [D.toPy]; exact ⟨[], .int i t⟩
 | _, _, _, _, _, _, .str x, r => fun _ _ => by obtain ⟨t, rfl⟩ := r; rw [D.toPy]; exact ⟨[], .str x t⟩
 | _, _, _, _, _, h, .any _, r => absurd rfl h
 | _, _, _, _, h, _, .ins _ _, r => absurd rfl (h _ _)
 | _, _, _, _, _, _, .qe _ _, r => fun n hd => by cases hd
 | _, _, _, _, _, _, .val _, r => fun n hd => by cases hd
 | _, _, _, hc, _, _, .tup (a := a) hq rr, r => fun n hd => by
   cases hd with
   | tup hd =>
     cases r
     obtain ⟨its, rv, ⟨o, e, c, k, dt⟩, _⟩ := I.tuple hq
     obtain ⟨as, ra⟩ := readsAll I hd rr rv
     rw [D.toPy]
     exact ⟨as, .tuple e c dt (by simpa using ra)⟩
 | _, _, _, hc, _, _, .lst (a := a) hq rr, r => fun n hd => by
   cases hd with
   | lst hd =>
     cases r
     obtain ⟨its, rv, ⟨o, k, e, c, _, dt⟩, _⟩ := I.list hq
     obtain ⟨as, ra⟩ := readsAll I hd rr rv
     rw [D.toPy]
     exact ⟨_, .list e c dt (by simpa using ra)⟩
theorem readsAll (I : L2.Inv X pins σ H s) : ∀ {n : Nat} {ds : List D} {vs : List V} {us : List Value}, (∀ d ∈ ds, gW n d) -> aC X.K CL H ds vs -> Vals vs us -> ∃ as, ReadsAll s.heap us (D.jG ds) as
 | _, _, _, _, _, .nil, r => by cases r; rw [D.jG]; exact ⟨[], .nil⟩
 | n, d :: _, _, _, h, .cons q qs, r => by
   cases r with
   | cons r rs =>
     have hd := h d aax
     obtain ⟨as, ra⟩ := reads I hd.lay.1 (fun c fs e => by subst e; cases hd) (fun e => by subst e; cases hd) q r n hd
     obtain ⟨bs, rb⟩ := readsAll I (fun e he => h e (aay _ he)) qs rs
     rw [D.jG]
     exact ⟨as ++ bs, .cons ra rb⟩
end
theorem uY (I : L2.Inv X pins σ H s) {n : Nat} {d : D} {v : V} {u : Value} (hd : gW n d) (q : bu X.K CL H d v) (r : RelV v u) : ∃ as, Reads s.heap u d.toPy as :=
 reads I hd.lay.1 (fun c fs e => by subst e; cases hd) (fun e => by subst e; cases hd) q r n hd
end
section
variable {X : Cx} {CL : Str -> Addr} {b : Bx} {δ δ1 δ2 δ3 : List (Option T)} {e e1 e2 e3 : Expr} {d1 d2 : D} {ds : List D} {pos p2 pp : Pos} {n m : Nat} {i : Nat} {x : Str} {t : T} {eW : List Stmt} {DD : cC}
theorem OD (hu : X.A.units + 64 < cLine) : n8 X (compareOp .Eq) (fun x y H Q => ∃ a c, bu X.K CL H a x /\ bu X.K CL H c y /\ gW 60 a /\ gW 60 c /\ Q (.bl (C9 a c)) H) := by
 intro pins s σ H x y v u Q I rx ry h
 obtain ⟨a, c, ra, rc, da, dc, q⟩ := h
 obtain ⟨as, r1⟩ := uY I da ra rx
 obtain ⟨bs, r2⟩ := uY I dc rc ry
 exact SeqAt.rcAt_reads r1 r2 da.lay.1 dc.lay.1 (by have := da.lay.2; omega) X.prog X.w X.xe _ ⟨.bl _, H, I, rfl, q⟩
theorem OG (hu : X.A.units + 64 < cLine) : n8 X (compareOp .NotEq) (fun x y H Q => ∃ a c, bu X.K CL H a x /\ bu X.K CL H c y /\ gW 60 a /\ gW 60 c /\ Q (.bl (!C9 a c)) H) := by
 intro pins s σ H x y v u Q I rx ry h
 obtain ⟨a, c, ra, rc, da, dc, q⟩ := h
 obtain ⟨as, r1⟩ := uY I da ra rx
 obtain ⟨bs, r2⟩ := uY I dc rc ry
 exact SeqAt.rcNeAt_reads r1 r2 da.lay.1 dc.lay.1 (by have := da.lay.2; omega) X.prog X.w X.xe _ ⟨.bl _, H, I, rfl, q⟩
theorem Ss {op : CmpOp} {f : Bool -> Bool} (ho : n8 X (compareOp op) (fun x y H Q => ∃ a c, bu X.K CL H a x /\ bu X.K CL H c y /\ gW 60 a /\ gW 60 c /\ Q (.bl (f (C9 a c))) H)) (h1 : cA X CL b e1 δ d1 δ1) (h2 : cA X CL b e2 δ1 d2 δ2) (k1 : gW 60 d1) (k2 : gW 60 d2)
   (hm : behindInMarks op e2 = false) : mH X CL b (.Compare e1 [op] [e2] pos) δ (f (C9 d1 d2)) δ2 /\ bX X CL b (.Compare e1 [op] [e2] pos) δ (.sh (.bl (f (C9 d1 d2)))) δ2 := by
 constructor
 . intro H Z σ ts vs Q S k
   refine Al (mE ho dR dR hm) (h1 H Z σ ts vs _ S fun v1 H1 Z1 z1 VX S1 r1 => h2 H1 Z1 σ ts vs _ S1 fun v2 H2 Z2 z2 Sv S2 r2 => ?_)
   exact ⟨d1, d2, r1.mono Sv, r2, k1, k2, _, rfl, k H2 Z2 (z1.trans z2) (VX.trans Sv) S2⟩
 . intro H Z σ ts vs Q S k
   refine cV (mD ho dR dR hm) (h1 H Z σ ts vs _ S fun v1 H1 Z1 z1 VX S1 r1 => h2 H1 Z1 σ ts vs _ S1 fun v2 H2 Z2 z2 Sv S2 r2 => ?_)
   exact ⟨d1, d2, r1.mono Sv, r2, k1, k2, k _ H2 Z2 (z1.trans z2) (VX.trans Sv) (S2.push (.bl _))⟩
theorem OI (hu : X.A.units + 64 < cLine) (h1 : cA X CL b e1 δ d1 δ1) (h2 : cA X CL b e2 δ1 d2 δ2) (k1 : gW 60 d1) (k2 : gW 60 d2) : mH X CL b (.Compare e1 [.Eq] [e2] pos) δ (C9 d1 d2) δ2 /\ bX X CL b (.Compare e1 [.Eq] [e2] pos) δ (.sh (.bl (C9 d1 d2))) δ2 :=
 Ss (f := fun b => b) (OD hu) h1 h2 k1 k2 (iO _)
theorem uZ (hu : X.A.units + 64 < cLine) (h1 : cA X CL b e1 δ d1 δ1) (h2 : cA X CL b e2 δ1 d2 δ2) (k1 : gW 60 d1) (k2 : gW 60 d2) : mH X CL b (.Compare e1 [.NotEq] [e2] pos) δ (!C9 d1 d2) δ2 /\ bX X CL b (.Compare e1 [.NotEq] [e2] pos) δ (.sh (.bl (!C9 d1 d2))) δ2 :=
 Ss (f := fun b => !b) (OG hu) h1 h2 k1 k2 (iO _)
def cutD {α : Type} (xs : List α) (lo hi : Option Int) : List α := (xs.drop (HT.pU xs.length 0 lo)).take (HT.pU xs.length xs.length hi - HT.pU xs.length 0 lo)
theorem aC.drop {K : PySem.W.Frag} {Z : Hp} : ∀ {ds : List L3.D} {vs : List V} (n : Nat), aC K CL Z ds vs -> aC K CL Z (ds.drop n) (vs.drop n)
 | _, _, 0, r => r
 | _, _, _ + 1, .nil => .nil
 | _, _, n + 1, .cons _ t => aC.drop n t
theorem aC.take {K : PySem.W.Frag} {Z : Hp} : ∀ {ds : List L3.D} {vs : List V} (n : Nat), aC K CL Z ds vs -> aC K CL Z (ds.take n) (vs.take n)
 | _, _, 0, _ => .nil
 | _, _, _ + 1, .nil => .nil
 | _, _, n + 1, .cons r t => .cons r (aC.take n t)
theorem aC.cut {K : PySem.W.Frag} {Z : Hp} {ds : List L3.D} {vs : List V} (r : aC K CL Z ds vs) (lo hi : Option Int) : aC K CL Z (cutD ds lo hi) (CY vs lo hi) := by
 unfold cutD CY
 rw [r.length]
 exact (r.drop _).take _
theorem yK : ∀ {ds : List L3.D}, D.bO ds = true -> ∀ d ∈ ds, d.iP = true
 | [], _, _, h => by cases h
 | d :: ds, k, e, h => by
   rw [D.bO, aa8] at k
   rcases aau.mp h with h | h
   . subst h; exact k.1
   . exact yK k.2 e h
theorem mP : ∀ {ds : List L3.D}, (∀ d ∈ ds, d.iP = true) -> D.bO ds = true
 | [], _ => rfl
 | d :: ds, h => by rw [D.bO, h d aax, mP fun e he => h e (aay _ he)]; rfl
theorem IB {α : Type} {xs : List α} {lo hi : Option Int} {x : α} (h : x ∈ cutD xs lo hi) : x ∈ xs := List.mem_of_mem_drop (List.mem_of_mem_take h)
def Rb (X : Cx) (CL : Str -> Addr) (b : Bx) (e : Option Expr) (δ : List (Option T)) (k : Option Int) (δ' : List (Option T)) : Prop :=
 ∃ t, PO X e t /\ ∀ (H Z : Hp) (σ : L2.St) (ts : List T) (vs : List V) (Q : Option Int -> Hp -> Prop), bP X.K CL b H Z δ σ ts vs -> (∀ H' Z', aA Z Z' -> aA H H' -> bP X.K CL b H' Z' δ' σ ts vs -> Q k H') -> t σ H Q
theorem u0 : Rb X CL b none δ none δ := ⟨_, HW, fun H Z σ ts vs Q S k => k H Z (.refl _) (.refl _) S⟩
theorem u5 {k : Int} (h : cA X CL b e δ (.int k) δ1) : Rb X CL b (some e) δ (some k) δ1 := ⟨_, HX dR, fun H Z σ ts vs Q S kk => h H Z σ ts vs _ S fun v H1 Z1 z1 k1 S1 r => ⟨k, r.sc rfl, kk H1 Z1 z1 k1 S1⟩⟩
theorem yL {lo hi : Option Expr} {l h : Option Int} (h1 : cA X CL b e δ (.lst ds) δ1) (YD : D.bO ds = true) (h2 : Rb X CL b lo δ1 l δ2) (h3 : Rb X CL b hi δ2 h δ3) : bX X CL b (.Subscript e (.Slice lo hi none p2) pos) δ (.lst ((cutD ds l h).map T.sh)) δ3 := fun H Z σ ts vs Q S k => by
 obtain ⟨t2, VY, w2⟩ := h2
 obtain ⟨t3, VZ, w3⟩ := h3
 refine cV (yr HZ dR VY VZ) (h1 H Z σ ts vs _ S fun v H1 Z1 z1 k1 S1 r => w2 H1 Z1 σ ts vs _ S1 fun H2 Z2 z2 k2 S2 => w3 H2 Z2 σ ts vs _ S2 fun H3 Z3 z3 k3 S3 => ?_)
 have r' := r.mono (k2.trans k3)
 cases r' with
 | lst hq rr =>
   refine ⟨_, _, rfl, hq, fun p hp => ?_⟩
   have rc := aC.iP S3.tp (mP fun d hd => yK YD d (IB hd)) (rr.cut l h)
   obtain ⟨c, S4⟩ := (bP.qT rc S3).oh (g0 := []) (by simp [rc.length]) hp
   exact k _ _ _ (z1.trans (z2.trans z3)) (k1.trans (k2.trans (k3.trans c))) S4
theorem Dc (hm : X.mg "tuple" = none) (h : cA X CL b e δ (.lst ds) δ1) (hi : D.bO ds = true) (hg : Gl X "tuple") (hs : starEach [e] X.env = (false, eval e X.env) :: starEach [] X.env := by exact bN rfl) : bX X CL b (.Call (.Name "tuple" pp) [e] [] pos) δ (.sh (.tup ds)) δ1 := fun H Z σ ts vs Q S k =>
 cV (j6 tH hg hm yG (cz dR eU hs) (he := hs)) (h H Z σ ts vs _ S fun v H1 Z1 z1 k1 S1 r => by
   cases r with
   | lst hq rr =>
     refine ⟨_, _, rfl, .inl ⟨hq, fun l hl => ?_⟩⟩
     obtain ⟨a, c, S2⟩ := (bP.qT (aC.iP S1.tp hi rr) S1).EG (by simp [rr.length]) hl
     obtain ⟨Z3, z3, S3⟩ := S2.EE
     rw [T.cZ, fX] at S3
     exact k _ _ Z3 (z1.trans (a.trans z3)) (k1.trans c) S3)
theorem ju {tl Iv : List T} {pa pb : Pos} (n : Vn X i x) (h0 : δ[i]? = some (some (.lst Iv))) (h : bX X CL b e δ t δ1) (h1 : δ1[i]? = some (some (.lst tl))) (hl : tl.length <= 1000000) (k : d9 X CL b eW (δ1.set i (some (.lst (tl ++ [t])))) DD)
   (qO : attributeBase (.Name x pp) "append" X.env (eval (.Name x pp) X.env) = eval (.Name x pp) X.env := by rfl)
   (Aj : ((backTo pb (starEach [e] X.env)).all (fun x => !x.1) && (backToKw pb (keywordEach [] X.env)).all (fun x => x.1.isSome) && decide ([e].length + ([] : List Keyword).length + (if ([] : List Keyword).isEmpty then 0 else 1) < 30)) = true := by rfl)
   (hline : (pa.endLine == pb.line) = true := by rfl) (hs : starEach [e] X.env = (false, eval e X.env) :: starEach [] X.env := by exact bN rfl) (C6 : swapsWith (.Call (.Attribute (.Name x pp) "append" pa) [e] [] pb) none pos.line X.env = pure false := by rfl) :
   d9 X CL b (.Expr (.Call (.Attribute (.Name x pp) "append" pa) [e] [] pb) pos :: eW) δ DD :=
 dH (Ot i h0 h h1 (Nat.lt_of_le_of_lt hl (by rw [aaX]; decide)) k n.hi n.hv n.hd n.gI qO Aj hline hs C6)
theorem My {tl : List T} {k : Int} {j : Nat} {ps : Pos} (n : Vn X i x) (h : bX X CL b e δ t δ1) (h2 : cA X CL b e2 δ1 (.int k) δ1) (h1 : δ1[i]? = some (some (.lst tl))) (hk : CZ tl.length k = some j) (kk : d9 X CL b eW (δ1.set i (some (.lst (tl.set j t)))) DD)
   (ha : ∀ v, assign (.Subscript (.Name x pp) e2 ps) X.env v = (do
     let ov ← holding [v] (eval (.Name x pp) X.env)
     let iv ← holding [v, ov] (eval e2 X.env)
     standAt ps
     holding [v, ov, iv] (setItem ov iv v)
     release [v, ov, iv] []) := by intro _; rfl)
   (hs : swapsWithSole [.Subscript (.Name x pp) e2 ps] e pos.line X.env = pure false := by rfl) (hw : swappedStores [.Subscript (.Name x pp) e2 ps] e X.env = pure none := by rfl) (YF : (assignEach [.Subscript (.Name x pp) e2 ps] X.env).map (·.2) = [assign (.Subscript (.Name x pp) e2 ps) X.env] := by rfl) :
   d9 X CL b (.Assign [.Subscript (.Name x pp) e2 ps] e pos :: eW) δ DD := by
 refine dH fun H Z σ ts vs E S M => uU (Nq dR (Np (lQ n.hi n.hv n.hd n.gI) dR set_list ha) hs hw YF) (h H Z σ ts vs _ S fun v H1 Z1 z1 k1 S1 => ?_)
 have hj : j < tl.length := (uP hk).2.1
 obtain ⟨v0, e0, _⟩ := S1.look h1
 refine ⟨v0, e0, ?_⟩
 refine h2 H1 Z1 σ _ _ _ S1 fun v2 H2 Z2 z2 k2 S2 r2 => ?_
 obtain ⟨a, us, ea, EF, hu, S3⟩ := S2.setAt h1 hj
 rw [e0] at ea
 cases ea
 exact ⟨a, us, k, j, rfl, r2.sc rfl, EF, by rw [hu]; exact hk, M.nx _ σ _ Z2 (z1.trans z2) S3 kk⟩
theorem cJ {n : Nat} (hn : ds.length = n) (hm : X.mg "len" = none) (h : cA X CL b e δ (.lst ds) δ1) (hg : Gl X "len") (hs : starEach [e] X.env = (false, eval e X.env) :: starEach [] X.env := by exact bN rfl) : bX X CL b (.Call (.Name "len" pp) [e] [] pos) δ (.sh (.int n)) δ1 := by
 subst hn
 exact mK hm h hg hs
theorem cL (h : bX X CL b e δ (.lst (ds.map T.sh)) δ1) : cA X CL b e δ (.lst ds) δ1 := by
 have := Ms h
 rwa [T.cZ, fX] at this
end
theorem iS {α : Type} {f : α -> D} {l : List α} {k : Int} (z : α) (h0 : 0 <= k) (h1 : k < l.length) : sZ (l.map f) k = some (f (l.getD k.toNat z)) := by
 obtain ⟨j, rfl⟩ : ∃ j : Nat, k = j := ⟨k.toNat, by omega⟩
 refine fC ?_
 have hl : j < l.length := by omega
 rw [aa0, aaq hl]
 simp [List.getD, hl]
theorem EW {α β : Type} {f : α -> β} {l : List α} {lo hi : Option Int} : cutD (l.map f) lo hi = (cutD l lo hi).map f := by
 unfold cutD
 rw [aaz, List.map_take, List.map_drop]
theorem iA {α : Type} {f : α -> D} (h : ∀ a, (f a).iP = true) : ∀ (l : List α), D.bO (l.map f) = true
 | [] => rfl
 | a :: l => by rw [aa3, D.bO, h a, iA h l]; rfl
section
variable {X : Cx} {CL : Str -> Addr} {b : Bx} {δ δ1 δ2 δ3 : List (Option T)} {e e1 e2 e3 : Expr} {es : List Expr} {d d1 d2 : D} {ds : List D} {pos p2 pp : Pos} {n m : Nat} {i : Nat} {x : Str} {t : T} {eW : List Stmt} {DD : cC}
theorem IC {k : Int} {u : Tok} (hm : X.mg x = some (.int k u)) (hg : Gl X x) (hd : (x == ("__debug__" : Str)) = false := by decide) : bX X CL b (.Name x pos) δ (.sh (.int k)) δ := fun H Z σ ts vs Q S kk =>
 cV (HC (v := .int k) hg hm ⟨u, rfl⟩ hd) (kk _ H Z (.refl _) (.refl _) (S.push (.int k)))
theorem mQ {k : Int} (hm : ∃ u, X.mg x = some (.int k u)) (hg : Gl X x) (hd : (x == ("__debug__" : Str)) = false := by decide) : bX X CL b (.Name x pos) δ (.sh (.int k)) δ := by
 obtain ⟨u, hm⟩ := hm
 exact IC hm hg hd
theorem vE (n : Vn X i x) (h : δ[i]? = some (some t)) (e : t.cZ = d) : cA X CL b (.Name x pos) δ d δ := e ▸ vB n h
theorem u6 (x : Str) : ∀ l : List Str, Ml (.str x) (l.map V.str) = decide (x ∈ l)
 | [] => by simp [Ml]
 | y :: l => by
   have ih := u6 x l
   unfold Ml at ih ⊢
   rw [aa3, List.any_cons, ih]
   by_cases h : y = x
   . subst h; simp [D5]
   . have h' : ¬ x = y := fun e => h e.symm
     simp [D5, h, h']
theorem aC.strs {K : PySem.W.Frag} {Z : Hp} : ∀ {l : List Str} {vs : List V}, aC K CL Z (l.map D.str) vs -> vs = l.map V.str
 | [], _, r => by
   have r' : aC K CL Z [] _ := r
   cases r'; rfl
 | y :: l, _, r => by
   have r' : aC K CL Z (D.str y :: l.map D.str) _ := r
   cases r' with
   | cons r1 r2 => rw [r1.sc rfl, aC.strs r2]; rfl
theorem iT : ∀ l : List Str, (l.map V.str).all lE = true
 | [] => rfl
 | y :: l => by rw [aa3, List.all_cons, iT l]; rfl
theorem Sw {l : List Str} (h1 : cA X CL b e1 δ (.str x) δ1) (h2 : cA X CL b e2 δ1 (.tup (l.map .str)) δ2) (hm : behindInMarks .In e2 = false) :
   mH X CL b (.Compare e1 [.In] [e2] pos) δ (decide (x ∈ l)) δ2 /\ bX X CL b (.Compare e1 [.In] [e2] pos) δ (.sh (.bl (decide (x ∈ l)))) δ2 := by
 constructor
 . intro H Z σ ts vs Q S k
   refine Al (mE j7 dR dR hm) (h1 H Z σ ts vs _ S fun v1 H1 Z1 z1 k1 S1 r1 => h2 H1 Z1 σ ts vs _ S1 fun v2 H2 Z2 z2 k2 S2 r2 => ?_)
   cases r2 with
   | tup hq rr =>
     have e := rr.strs
     subst e
     refine ⟨_, _, rfl, .inr hq, by rw [r1.sc rfl]; rfl, iT l, _, rfl, ?_⟩
     rw [aap aaB, r1.sc rfl, u6]
     exact k H2 Z2 (z1.trans z2) (k1.trans k2) S2
 . intro H Z σ ts vs Q S k
   refine cV (mD j7 dR dR hm) (h1 H Z σ ts vs _ S fun v1 H1 Z1 z1 k1 S1 r1 => h2 H1 Z1 σ ts vs _ S1 fun v2 H2 Z2 z2 k2 S2 r2 => ?_)
   cases r2 with
   | tup hq rr =>
     have e := rr.strs
     subst e
     refine ⟨_, _, rfl, .inr hq, by rw [r1.sc rfl]; rfl, iT l, ?_⟩
     rw [aap aaB, r1.sc rfl, u6]
     exact k _ H2 Z2 (z1.trans z2) (k1.trans k2) (S2.push (.bl _))
theorem EX {l : List Str} {j : Nat} (h1 : cA X CL b e1 δ (.str x) δ1) (h2 : An X CL b es δ1 ((l.map D.str).map T.sh) δ2) (hl : (l.map D.str).length <= sizeLine := by exact aF rfl) :
   mH X CL b (.Compare e1 [.In] [.Tuple es j p2] pos) δ (decide (x ∈ l)) δ2 /\ bX X CL b (.Compare e1 [.In] [.Tuple es j p2] pos) δ (.sh (.bl (decide (x ∈ l)))) δ2 := Sw h1 (ah (cB h2 hl)) rfl
theorem IE {p : Bool} (hm : X.mg "int" = none) (h : cA X CL b e δ (.bl p) δ1) (hg : Gl X "int") (hs : starEach [e] X.env = (false, eval e X.env) :: starEach [] X.env := by exact bN rfl) : bX X CL b (.Call (.Name "int" pp) [e] [] pos) δ (.sh (.int (if p then 1 else 0))) δ1 := fun H Z σ ts vs Q S k =>
 cV (j6 CP hg hm t8 (cz dR eU hs) (he := hs)) (h H Z σ ts vs _ S fun v H1 Z1 z1 k1 S1 r => .inr ⟨p, by rw [r.sc rfl], k _ H1 Z1 z1 k1 (S1.push (.int _))⟩)
def qY : Expr -> Option Str
 | .Constant (.str x) _ _ => some x
 | _ => none
def om : List Expr -> Option (List Str)
 | [] => some []
 | e :: es => (qY e).bind fun x => (om es).map (x :: ·)
theorem yM {e : Expr} {x : Str} (h : qY e = some x) : ∃ j p, e = .Constant (.str x) j p := by
 unfold qY at h
 split at h
 . cases h; exact ⟨_, _, rfl⟩
 . cases h
theorem qh : ∀ {es : List Expr} {l : List Str}, om es = some l -> An X CL b es δ ((l.map D.str).map T.sh) δ
 | [], l, h => by
   have e : l = [] := (aaH h).symm
   subst e
   exact di
 | e :: es, l, h => by
   rw [om] at h
   obtain ⟨x, hx, h⟩ := Option.bind_eq_some_iff.mp h
   obtain ⟨l', hl, rfl⟩ := Option.map_eq_some_iff.mp h
   obtain ⟨j, p, rfl⟩ := yM hx
   exact eG aY (qh hl)
end
theorem EY {α : Type} {l : List α} {k : Int} (z : α) (h0 : 0 <= k) (h1 : k < l.length) : sZ l k = some (l.getD k.toNat z) := by
 obtain ⟨j, rfl⟩ : ∃ j : Nat, k = j := ⟨k.toNat, by omega⟩
 refine fC ?_
 have hl : j < l.length := by omega
 rw [aaq hl]
 simp [List.getD, hl]
theorem str_len (x y : Str) : (x ++ y).length = x.length + y.length := by
 show (x.cps ++ y.cps).size = _
 rw [Array.size_append]; rfl
theorem oq (x y : Str) (h1 : PyData.strOk x = true) (h2 : PyData.strOk y = true) : PyData.strOk (x ++ y) = true := by
 unfold PyData.strOk at *
 show (x.cps ++ y.cps).all _ = true
 rw [Array.all_append, h1, h2]; rfl
theorem pI (l : List Int) : T.dG ((l.map D.int).map T.sh) = true := by
 rw [abh]
 induction l with
 | nil => rfl
 | cons i r ih => rw [aa3, T.dG, ih]; rfl
section
variable {X : Cx} {tg : Expr}
end
section
variable {X : Cx} {CL : Str -> Addr} {b : Bx} {δ δ1 : List (Option T)} {e : Expr} {ds : List D} {tg : Expr} {pr pc : Pos}
end
section
variable {K : PySem.W.Frag} {CL : Str -> Addr} {b : Bx} {H Z : Hp} {δ : List (Option T)} {σ : L2.St} {ts tt : List T} {vs : List V} {t : T}
end
section
variable {X : Cx} {CL : Str -> Addr} {b : Bx} {δ : List (Option T)} {tt : List T} {t : T} {i : Nat} {x : Str} {pp pc ps : Pos} {kj : Nat}
end
section
variable {X : Cx} {CL : Str -> Addr} {b : Bx} {δ δ1 : List (Option T)} {e : Expr} {ds : List D} {t : T} {i : Nat} {x : Str} {pos pp p2 : Pos} {kj : Nat}
theorem YG (n : Vn X i x) (h : δ[i]? = some (some (.lst (ds.map T.sh)))) : bX X CL b (.Name x pos) δ (.sh (.lst ds)) (δ.set i (some (.sh (.lst ds)))) := by
 have := vF (CL := CL) (b := b) (pos := pos) n h
 rwa [T.cZ, fX] at this
end
section
variable {K : PySem.W.Frag} {CL : Str -> Addr} {b : Bx} {H H' Z Z' : Hp} {δ δ' : List (Option T)} {σ σ' : L2.St} {ts tl : List T} {vs us : List V} {t : T} {v : V}
theorem iy.get : ∀ {fs : List (Str × D)} {gs : List (Str × V)} {f : Str} {d : D}, iy K CL Z fs gs -> fs.lookup f = some d -> ∃ v, gs.lookup f = some v /\ bu K CL Z d v
 | _, _, _, _, .nil, e => by simp at e
 | _, _, f, d, .cons (x := x) r t, e => by
   rw [aaS] at e ⊢
   cases h : f == x with
   | true => rw [h] at e; cases e; exact ⟨_, rfl, r⟩
   | false => rw [h] at e; exact iy.get t e
def tL (f : Str) (t : T) : List (Str × T) -> List (Str × T)
 | [] => [(f, t)]
 | (g, x) :: r => if g = f then (g, t) :: r else (g, x) :: tL f t r
theorem bS.length : ∀ {fs : List (Str × T)} {gs : List (Str × V)} {fp : List Addr}, bS K CL H Z fs gs fp -> fs.length = gs.length
 | _, _, _, .nil => rfl
 | _, _, _, .cons _ r => by rw [aaL, aaL, bS.length r]
theorem bS.put {f : Str} {g : List Addr} (q : ck K CL H Z t v g) : ∀ {fs : List (Str × T)} {gs : List (Str × V)} {fp : List Addr}, bS K CL H Z fs gs fp →
   ∃ BG f', bS K CL H Z (tL f t fs) (gn f v gs) BG /\ f'.Sublist fp /\ BG.Perm (g ++ f')
 | _, _, _, .nil => ⟨g ++ [], [], .cons q .nil, aaZ _, ace _⟩
 | _, _, _, .cons (x := x) (fp := fp) (gp := gp) r rs => by
   rw [tL, gn]
   by_cases h : x = f
   . rw [aar h, aar h]
     exact ⟨g ++ gp, gp, .cons q rs, abo _ _, ace _⟩
   . rw [aap h, aap h]
     obtain ⟨p, p', h1, h2, h3⟩ := bS.put (f := f) q rs
     refine ⟨fp ++ p, fp ++ p', .cons r h1, aa2 (aaZ _) h2, (abf fp h3).trans ?_⟩
     rw [← aav, ← aav]
     exact aa7.append_right p'
theorem bP.OJ {a : Addr} {o : HO} {BG gp fp Oq : List Addr} {δ2 : List (Option T)} (hm : gq o = false) (S : bP K CL b H Z δ σ ts vs) (own : ∀ c ∈ fp ++ gp, Z c = none /\ b.B c = none) (ha : a ∈ fp ++ gp)
   (e' : d8 K CL (upd H a o) Z δ2 σ BG) (r' : aN K CL (upd H a o) Z tl us Oq) (pm : (BG ++ Oq).Nodup) (sub : ∀ c ∈ BG ++ Oq, c ∈ fp ++ gp) :
   bP K CL b (upd H a o) Z δ2 σ tl us := by
 have oa := own a ha
 refine ⟨⟨_, _, e', r', pm, fun c hc => own c (sub c hc)⟩, fun c u q => ?_, S.zz, fun c u q => ?_, S.new, fun c u q i => ?_, S.tab⟩
 . rw [au (aD q oa.2)]; exact S.bh c u q
 . rw [au (aD q oa.1)]; exact S.zh c u q
 . by_cases hc : c = a
   . subst hc; rw [aL] at q; cases q; rw [hm] at i; cases i
   . rw [au hc] at q; exact S.tp c u q i
theorem bP.setField {i : Nat} {x : Addr} {c f : Str} {fs : List (Str × T)} (S : bP K CL b H Z δ σ (t :: ts) (v :: vs)) (hi : δ[i]? = some (some (.pin x (.ins c fs)))) :
   ∃ dx gs, σ[i]? = some (some (.ref x)) /\ H x = some (.ins (CL c) dx gs) /\ gs.length = fs.length /\ bP K CL b (upd H x (.ins (CL c) dx (gn f v gs))) Z (δ.set i (some (.pin x (.ins c (tL f t fs))))) σ ts vs := by
 obtain ⟨fp, gp, e, r, nd, k⟩ := S.rep
 obtain ⟨v0, f1, f2, f3, hv, qf, rt, put, _⟩ := e.get hi
 subst qf
 cases rt with
 | pin rt =>
 cases rt with
 | @ins a dx _ gs _ g ha rs =>
   cases r with
   | @cons _ _ _ _ ft gr q1 q2 =>
     have ne : ∀ c ∈ (f1 ++ (g ++ f3)) ++ (ft ++ gr), c ≠ x := fun c hc e => by
       subst e
       have hp : ((f1 ++ ((c :: g) ++ f3)) ++ (ft ++ gr)).Perm (c :: ((f1 ++ (g ++ f3)) ++ (ft ++ gr))) := by
         rw [aaQ, ← aaQ]
         exact (List.perm_middle.append_right _)
       exact (abA.mp (hp.nodup_iff.mp nd)).1 hc
     refine ⟨dx, gs, hv, ha, rs.length.symm, ?_⟩
     have YH := q1.mono (H' := upd H x (.ins (CL c) dx (gn f v gs))) (.refl _) fun c hc => au (ne c (by simp [hc]))
     have YJ := rs.mono (H' := upd H x (.ins (CL c) dx (gn f v gs))) (.refl _) fun c hc => au (ne c (by simp [hc]))
     obtain ⟨p, p', h1, h2, h3⟩ := bS.put (f := f) YH YJ
     have r1 : ck K CL (upd H x (.ins (CL c) dx (gn f v gs))) Z (.pin x (.ins c (tL f t fs))) (.ref x) (x :: p) := .pin (.ins aL h1)
     have e2 := put (H' := upd H x (.ins (CL c) dx (gn f v gs))) (.refl _) (fun c hc => au (ne c (by
       rcases aaG.mp hc with h | h
       . simp [h]
       . simp [h]))) r1
     rw [qV hv] at e2
     have hp : ((f1 ++ ((x :: p) ++ f3)) ++ gr).Perm ((f1 ++ ((x :: p') ++ f3)) ++ (ft ++ gr)) := by
       have h4 : ((f1 ++ ((x :: p) ++ f3)) ++ gr).Perm ((f1 ++ ((x :: (ft ++ p')) ++ f3)) ++ gr) := ((h3.cons x).append_right f3).append_left f1 |>.append_right gr
       refine h4.trans ?_
       simp only [aaQ, aav]
       refine abf f1 (List.Perm.cons x ?_)
       have := (aa7 (l₁ := ft) (l₂ := p' ++ f3)).append_right gr
       simp only [aav] at this
       exact this
     have sb : ((f1 ++ ((x :: p') ++ f3)) ++ (ft ++ gr)).Sublist ((f1 ++ ((x :: g) ++ f3)) ++ (ft ++ gr)) :=
       aa2 (aa2 (aaZ _) (aa2 (List.Sublist.cons₂ x h2) (aaZ _))) (aaZ _)
     exact S.OJ rfl k (by simp) e2 (q2.mono (.refl _) fun c hc => au (ne c (by simp [hc]))) (hp.nodup_iff.mpr (nd.sublist sb)) fun c hc => sb.subset (hp.mem_iff.mp hc)
end
section
variable {X : Cx} {CL : Str -> Addr} {b : Bx} {δ δ1 δ2 : List (Option T)} {e : Expr} {es : List Expr} {t : T} {d : D} {c f x : Str} {fs : List (Str × D)} {pos pp : Pos} {DD : cC} {i : Nat}
theorem jH (hc : uO X.K (CL c)) (n : aX X.K (CL c) f) (h : cA X CL b e δ (.ins c fs) δ1) (hl : fs.lookup f = some d) (hb : attributeBase e f X.env (eval e X.env) = eval e X.env := by rfl) :
   cA X CL b (.Attribute e f pos) δ d δ1 := fun H Z σ ts vs Q S k =>
 cV (Ep dR hb) (h H Z σ ts vs _ S fun v H' Z' z s S' r => by
   cases r with
   | @ins a dx _ gs _ ha rf =>
     obtain ⟨w, hw, NW⟩ := rf.get hl
     exact ⟨a, CL c, dx, gs, w, rfl, ha, hc, n, hw, k w H' Z' z s S' NW⟩)
theorem EZ (hc : uO X.K (CL c)) (n : aX X.K (CL c) f) (h : bX X CL b e δ (.sh (.ins c fs)) δ1) (hl : fs.lookup f = some d) (hb : attributeBase e f X.env (eval e X.env) = eval e X.env := by rfl) :
   bX X CL b (.Attribute e f pos) δ (.sh d) δ1 := fun H Z σ ts vs Q S k =>
 cV (Ep dR hb) (h H Z σ ts vs _ S fun v H' Z' z s S' => by
   obtain ⟨fp, gp, _, r, _, _⟩ := S'.rep
   cases r with
   | cons r _ =>
     cases r with
     | sh r =>
       cases r with
       | @ins a dx _ gs _ ha rf =>
         obtain ⟨w, hw, NW⟩ := rf.get hl
         exact ⟨a, CL c, dx, gs, w, rfl, S'.zh _ _ ha, hc, n, hw, k w H' Z' z s (S'.pop.push NW)⟩)
theorem mR {eW : List Stmt} {a : Addr} {gs : List (Str × T)} {pa pb pc : Pos} (hc : uO X.K (CL c)) (n : aX X.K (CL c) f) (nm : Vn X i x) (h : bX X CL b e δ t δ1) (h1 : δ1[i]? = some (some (.pin a (.ins c gs)))) (hl : gs.length < 1000)
   (k : d9 X CL b eW (δ1.set i (some (.pin a (.ins c (tL f t gs))))) DD) (hs : swapsWith e (some (.Attribute (.Name x pa) f pb)) pc.line X.env = pure false := by rfl) :
   d9 X CL b (.Assign [.Attribute (.Name x pa) f pb] e pc :: eW) δ DD := dH fun H Z σ ts vs E S M =>
 uU (NQ (lQ nm.hi nm.hv nm.hd nm.gI) dR hs) (h H Z σ ts vs _ S fun v H' Z' z s S' => by
   obtain ⟨dx, ws, hv, hx, hlen, S2⟩ := S'.setField (f := f) h1
   exact ⟨.ref a, hv, a, CL c, dx, ws, rfl, hx, hc, n, by rw [hlen]; exact hl, M.nx _ σ _ Z' z S2 k⟩)
end
def Sx (K : PySem.W.Frag) (CL : Str -> Addr) {A : Type} (c : Str) (n : Nat) (arg : A -> List D) (Pre : A -> Prop) (res : A -> List (Str × T)) : Sp := fun vs H Q _ =>
 ∃ (W H0 : Hp) (a : A) (x dx : Addr) (us : List V), vs = .ref x :: us /\ H0 x = none /\ H0 dx = none /\ dx ≠ x /\ H = upd (upd H0 dx (.own x)) x (.ins (CL c) dx []) ∧
   aA W H0 /\ (∀ c o, H0 c = some o -> gq o = true -> W c = some o) /\ aC K CL W (arg a) us /\ (arg a).length + 1 = n /\ Pre a /\ jC CL W ∧
   ∀ H' W' fp, aA H0 H' -> aA W W' -> aA W' H' -> (∀ c o, W' c = some o -> W c = none -> H0 c = none) -> (∀ c o, H' c = some o -> gq o = true -> W' c = some o) →
     ck K CL H' W' (.ins c (res a)) (.ref x) fp -> fp.Nodup -> (∀ c ∈ fp, W' c = none /\ H0 c = none) -> Q .non H'
section
variable {X : Cx} {CL : Str -> Addr} {b : Bx} {δ δ1 δ2 : List (Option T)} {e o : Expr} {es : List Expr} {pos pp apos : Pos}
variable {A : Type} {k n : Nat} {f : Addr} {fd : FuncData} {ps : List Str} {arg : A -> List D} {Pre : A -> Prop} {x c m : Str}
theorem IG {res : A -> List (Str × T)} (a : A) (M : Mk X.K (CL c) f) (F : bR X.prog X.w X.K X.mg X.base fQ k f fd ps (Sx X.K CL c n arg Pre res)) (hr : dF (k + 1) X.A) (hm : X.mg x = some (.ref (CL c))) (hb : Binds X.K fd ps [])
   (h : Mq X CL b (e :: es) δ (arg a) δ1) (hn : (arg a).length + 1 = n) (hp : Pre a) (hc : T.aV (res a) = true) (hg : Gl X x)
   (tE : (x == ("__debug__" : Str)) = false := by decide) (he : starEach (e :: es) X.env = (false, eval e X.env) :: starEach es X.env := by exact bN rfl) (tF : (backTo pos (starEach es X.env)).any (·.1) = false := by rfl) :
   bX X CL b (.Call (.Name x pp) (e :: es) [] pos) δ (.ins c (res a)) δ1 := fun H Z σ ts vs Q S kk =>
 cV (BD M F hr hg hm hb .nil BE Ii tE he tF) (h H Z σ ts vs _ S fun us H1 Z1 z1 k1 S1 r x dx hx Sy ne => by
   rw [aa1]
   refine ⟨H1, H1, a, x, dx, us, rfl, hx, Sy, ne, rfl, .refl _, fun _ _ q _ => q, r, hn, hp, S1.C4, fun H' W' fp hh ww wh nw tp rt nd own => ⟨rfl, ?_⟩⟩
   obtain ⟨Z', z', S'⟩ := S1.back hh S1.zh ww wh nw tp rt nd own (.inr (by rw [T.clean]; exact hc))
   exact kk _ H' Z' (z1.trans z') (k1.trans hh) S')
end
theorem BH {P : Program} {w : World} {K : PySem.W.Frag} {mg : Str -> Option Value} {base : Heap} {CL : Str -> Addr} {x qual c : Str} {st : Stmt} {f : Addr} {fd : FuncData} {N ps : List Str} {k : Nat} {A : Type} {arg : A -> List D} {Pre : A -> Prop} {res : A -> List (Str × T)} (F : jx K x qual st f fd) (S : aP N ps (aq st))
   (hb : ∀ (c6 : Value) (Ar : Around) (outer : List Env) (s : Shared) (H : Hp) (E : XK) (b : Bx) (a : A) (y : Addr), dF k (Ar.deeper (envOfC qual (aq st) s.heap.objs.size f c6)) -> Pre a →
     d9 (qM fQ P w K mg base N qual (aq st) f c6 Ar outer s H E).Hs CL b (eF st) (some (.pin y (.ins c [])) :: ((arg a).map (fun d => some (T.sh d)) ++ List.replicate (N.length - ((arg a).length + 1)) none))
       { nx := fun δ => δ[0]? = some (some (.pin y (.ins c (res a)))), rt := fun _ _ => False }) :
   bR P w K mg base fQ (k + 1) f fd ps (Sx K CL c ps.length arg Pre res) := by
 refine F.ok S (fun vs H Q E h => ?_) (fun c6 Ar outer s H vs Q E hr h => ?_)
 . obtain ⟨W, H0, a, y, dx, us, rfl, _, _, _, _, _, _, r, hl, _⟩ := h
   rw [aaL, ← r.length]; exact hl
 . obtain ⟨W, H0, a, y, dx, us, rfl, hy, Sy, ne, rfl, wh, tp, r, hl, hp, tb, kk⟩ := h
   have old : ∀ {d : Addr} {o : HO}, H0 d = some o -> upd (upd H0 dx (.own y)) y (.ins (CL c) dx []) d = some o := fun {d o} q => by
     rw [au (aD q hy), au (aD q Sy)]; exact q
   refine ⟨_, Ij, hb c6 Ar outer s _ E ⟨H0, W⟩ a y hr hp _ W _ [] [] _ ⟨⟨[y] ++ [], [], ?_, .nil, by simp, fun d hd => ?_⟩, fun d o q => old q, .refl _, fun d o q => old (wh d o q), fun d o q z => ?_, fun d o q i => ?_, tb⟩ ⟨fun δ' σ' H' Z' s' S' e => ?_, fun t v H' Z' δ' σ' s' S' e => e.elim, fun _ _ _ _ _ _ e => e.elim, fun _ _ _ _ _ _ e => e.elim⟩⟩
   . unfold L2.start
     rw [aa3, aaL, aaQ, ← r.length]
     exact .cons (.pin (.ins aL .nil)) (gu _ r)
   . have : d = y := by simpa using hd
     subst this
     exact ⟨N8 wh hy, hy⟩
   . have q' : W d = some o := q
     have z' : W d = none := z
     rw [q'] at z'; cases z'
   . by_cases h1 : d = y
     . subst h1; rw [aL] at q; cases q; cases i
     . rw [au h1] at q
       by_cases h2 : d = dx
       . subst h2; rw [aL] at q; cases q; cases i
       . rw [au h2] at q; exact tp d o q i
   . obtain ⟨fp, gp, eE, _, nd, own⟩ := S'.rep
     obtain ⟨v, f1, f2, f3, hv, qf, rt, _, _⟩ := eE.get e
     subst qf
     cases rt with
     | pin rt =>
       refine kk H' Z' f2 S'.bh S'.zz S'.zh S'.new S'.tp rt ?_ fun d hd => own d (by simp [hd])
       have h1 := (aa9.mp nd).1
       exact (aa9.mp (aa9.mp h1).2.1).1
section
variable {X : Cx} {CL : Str -> Addr} {b : Bx} {δ δ1 δ2 : List (Option T)} {e e1 e2 : Expr} {es : List Expr} {t : T} {d : D} {ds D7 : List D} {x : Str} {pos pp : Pos} {DD : cC} {i : Nat} {eW body : List Stmt}
theorem BI (g : Gx X) (P : Nat -> List (Option T) -> Prop) (m : Nat) (h0 : P m δ)
   (hs : ∀ m δ, P m δ -> ∃ p δ1, mH X CL b e δ p δ1 ∧
     (p = true -> d9 X CL b body δ1 { nx := fun δ2 => ∃ m', m' < m /\ P m' δ2, rt := DD.rt, bk := fun δ2 => d9 X CL b eW δ2 DD, ct := fun δ2 => ∃ m', m' < m /\ P m' δ2 }) /\ (p = false -> d9 X CL b eW δ1 DD)) :
   d9 X CL b (.While e body [] pos :: eW) δ DD := dH fun H Z σ ts vs E S M =>
 uU (Ei (by rw [g.xe]; exact PassesOwn.never) N7 Ij) (by
   refine ⟨fun m σ H => ∃ Z2 δ2, aA Z Z2 /\ bP X.K CL b H Z2 δ2 σ ts vs /\ P m δ2, ⟨m, Z, δ, .refl _, S, h0⟩, ?_⟩
   rintro m σ H ⟨Z2, δ2, z2, S2, p2⟩
   obtain ⟨p, δ3, ht, h1, h2⟩ := hs m δ2 p2
   refine ht H Z2 σ ts vs _ S2 fun H3 Z3 z3 k3 S3 => ?_
   cases p with
   | true =>
     rw [aar rfl]
     refine ⟨fun σ' H' => ∃ m', m' < m /\ ∃ Z2 δ2, aA Z Z2 /\ bP X.K CL b H' Z2 δ2 σ' ts vs /\ P m' δ2, fun σ' H' q => q, ?_⟩
     refine h1 rfl H3 Z3 σ ts vs _ S3 ⟨fun δ' σ' H' Z' s' S' ⟨m', l, q⟩ => ⟨m', l, Z', δ', z2.trans (z3.trans s'), S', q⟩, fun t v H' Z' δ' σ' s' S' q => M.rt t v H' Z' δ' σ' (z2.trans (z3.trans s')) S' q,
       fun δ' σ' H' Z' s' S' q => M.nx δ' σ' H' Z' (z2.trans (z3.trans s')) S' q, fun δ' σ' H' Z' s' S' ⟨m', l, q⟩ => ⟨m', l, Z', δ', z2.trans (z3.trans s'), S', q⟩⟩
   | false =>
     rw [aap (by decide)]
     exact M.nx δ3 σ H3 Z3 (z2.trans z3) S3 (h2 rfl))
def Sz (K : PySem.W.Frag) : R2 := fun x y H Q => ∃ l b xs zs, x = .ref l /\ y = .ref b /\ j5 K H l xs /\ j5 K H b zs /\ xs.length + zs.length <= sizeLine /\ ∀ p, H p = none -> Q (.ref p) (upd H p (.lst (xs ++ zs)))
theorem II : n8 X (binaryOp .Add) (Sz X.K) := by
 intro pins s σ H x y v u Q I rx ry h
 obtain ⟨l, b, xs, zs, rfl, rfl, hH, hB, hz, q⟩ := h
 cases rx
 cases ry
 obtain ⟨its, r, pl, _⟩ := I.list hH
 obtain ⟨OL, r2, YK, _⟩ := I.list hB
 have e1 := r.length
 have e2 := r2.length
 obtain ⟨⟨c1, dd, YL, sl⟩, ho, hc, n, hd⟩ := pl.isList
 obtain ⟨⟨c2, YM, Z0, YN⟩, Xo, OO, n2, hd2⟩ := YK.isList
 cases hc; cases OO; cases hd; cases hd2
 refine concat_meets ⟨_, ho, rfl⟩ ⟨_, Xo, rfl⟩ noFill_list_add seq_list_add PySem.F.slot_list_add PySem.F.entry_list_add (PySem.F.args_list_add_2 (Value.ref l) (Value.ref b))
   (list_addW l b its.toArray OL.toArray n n2 dd YM sl YN (by rw [aaO, aaO]; omega)) ⟨ho, Xo, ?_⟩
 have ea : its.toArray ++ OL.toArray = (its ++ OL).toArray := by simp
 rw [ea]
 exact ⟨.ref _, _, I.R8 (t' := s.toks) (r.append r2) (by rw [aaM]; omega), rfl, q _ I.fresh⟩
theorem aC.app {K : PySem.W.Frag} {Z : Hp} : ∀ {ds D7 : List L3.D} {vs Xp : List V}, aC K CL Z ds vs -> aC K CL Z D7 Xp -> aC K CL Z (ds ++ D7) (vs ++ Xp)
 | _, _, _, _, .nil, r2 => r2
 | _, _, _, _, .cons r t, r2 => .cons r (aC.app t r2)
theorem qi (h1 : cA X CL b e1 δ (.lst ds) δ1) (h2 : cA X CL b e2 δ1 (.lst D7) δ2) (i1 : D.bO ds = true) (i2 : D.bO D7 = true) (hz : ds.length + D7.length <= sizeLine) :
   bX X CL b (.BinOp e1 .Add e2 pos) δ (.lst ((ds ++ D7).map T.sh)) δ2 := fun H Z σ ts vs Q S k =>
 cV (El II dR dR) (h1 H Z σ ts vs _ S fun v1 H1 Z1 z1 k1 S1 r1 => h2 H1 Z1 σ ts vs _ S1 fun v2 H2 Z2 z2 k2 S2 r2 => by
   have Ol := r1.mono k2
   cases Ol with
   | lst V0 Rc =>
     cases r2 with
     | lst YQ V1 =>
       refine ⟨_, _, _, _, rfl, rfl, V0, YQ, by rw [← Rc.length, ← V1.length]; exact hz, fun p hp => ?_⟩
       have rc := aC.app (aC.iP S2.tp i1 Rc) (aC.iP S2.tp i2 V1)
       obtain ⟨c, S4⟩ := (bP.qT rc S2).oh (g0 := []) (by simp [rc.length, Rc.length, V1.length]) hp
       exact k _ _ _ (z1.trans z2) (k1.trans (k2.trans c)) S4)
theorem boot_str : bootBuiltins "str" = some (.type "str") := by decide +kernel
theorem BJ {i : Int} (hm : X.mg "str" = none) (hg : Gl X "str") (h : cA X CL b e δ (.int i) δ1) (hi : i.natAbs.log2 < 1920) (hs : starEach [e] X.env = (false, eval e X.env) :: starEach [] X.env := by exact bN rfl) :
   bX X CL b (.Call (.Name "str" pp) [e] [] pos) δ (.sh (.str (toString i))) δ1 := fun H Z σ ts vs Q S k =>
 cV (j6 uN hg hm boot_str (cz dR eU hs) (he := hs)) (h H Z σ ts vs _ S fun v H1 Z1 z1 k1 S1 r => by
   rw [r.sc rfl]
   exact ⟨i, rfl, hi, k _ H1 Z1 z1 k1 (S1.push (.str _))⟩)
end
structure Fm (X : Cx) (CL : Str -> Addr) (x : Str) (k n : Nat) {A : Type} (arg : A -> List D) (Pre : A -> Prop) (res : A -> List (Str × T)) : Prop where
 ex : ∃ f fd ps, Mk X.K (CL x) f /\ bR X.prog X.w X.K X.mg X.base fQ k f fd ps (Sx X.K CL x n arg Pre res) /\ X.mg x = some (.ref (CL x)) /\ Binds X.K fd ps []
 room : dF (k + 1) X.A
def E1 (N : List Str) (y : Addr) (c : Str) (ds : List D) : List (Option T) := some (.pin y (.ins c [])) :: (ds.map (fun d => some (T.sh d)) ++ List.replicate (N.length - (ds.length + 1)) none)
section
variable {X : Cx} {CL : Str -> Addr} {b : Bx} {δ δ1 δ2 : List (Option T)} {e e1 e2 o : Expr} {es : List Expr} {d : L3.D} {t : T} {i : Nat} {x c m : Str} {pos pp apos : Pos} {D : cC} {eW : List Stmt} {ds : List L3.D}
theorem YR {k n : Nat} {A : Type} {arg : A -> List L3.D} {Pre : A -> Prop} {res : A -> List (Str × T)} (a : A) (F : Fm X CL x k n arg Pre res) (hg : Gl X x) (h : Mq X CL b (e :: es) δ (arg a) δ1) (hp : Pre a) (hc : T.aV (res a) = true) (hn : (arg a).length + 1 = n := by rfl)
   (tE : (x == ("__debug__" : Str)) = false := by decide) (he : starEach (e :: es) X.env = (false, eval e X.env) :: starEach es X.env := by exact bN rfl) (tF : (backTo pos (starEach es X.env)).any (·.1) = false := by rfl) :
   bX X CL b (.Call (.Name x pp) (e :: es) [] pos) δ (.ins x (res a)) δ1 := by
 obtain ⟨f, fd, ps, M, F1, m, b⟩ := F.ex
 exact IG a M F1 F.room m b h hn hp hc hg tE he tF
end
theorem mS {α : Type} {f : Str} {d : α} {fs : List (Str × α)} : ((f, d) :: fs).lookup f = some d := by
 rw [aaS, abF]
theorem fD {α : Type} {f g : Str} {d : α} {fs : List (Str × α)} (h : (f == g) = false) : ((g, d) :: fs).lookup f = fs.lookup f := by
 rw [aaS, h]
theorem eX {f : Str} {t : T} : tL f t [] = [(f, t)] := rfl
theorem bB {f g : Str} {t u : T} {fs : List (Str × T)} (h : ¬ g = f) : tL f t ((g, u) :: fs) = (g, u) :: tL f t fs := by
 rw [tL, aap h]
section
variable {X : Cx} {CL : Str -> Addr} {b : Bx} {δ δ1 δ2 : List (Option T)} {e1 e2 : Expr} {x : Str} {pos : Pos} {d : L3.D}
theorem mU (x : Int) : ∀ l : List Int, Ml (.int x) (l.map V.int) = decide (x ∈ l)
 | [] => by simp [Ml]
 | y :: l => by
   have ih := mU x l
   unfold Ml at ih ⊢
   rw [aa3, List.any_cons, ih]
   by_cases h : y = x
   . subst h; simp [D5]
   . have h' : ¬ x = y := fun e => h e.symm
     simp [D5, h, h']
theorem aC.ints {K : PySem.W.Frag} {Z : Hp} : ∀ {l : List Int} {vs : List V}, aC K CL Z (l.map D.int) vs -> vs = l.map V.int
 | [], _, r => by
   have r' : aC K CL Z [] _ := r
   cases r'; rfl
 | y :: l, _, r => by
   have r' : aC K CL Z (D.int y :: l.map D.int) _ := r
   cases r' with
   | cons r1 r2 => rw [r1.sc rfl, aC.ints r2]; rfl
theorem eY : ∀ l : List Int, (l.map V.int).all lE = true
 | [] => rfl
 | y :: l => by rw [aa3, List.all_cons, eY l]; rfl
def yN (d : L3.D) : Option (List L3.D) := match d with
 | .lst ds => some ds
 | .tup ds => some ds
 | _ => none
theorem bu.yN {K : PySem.W.Frag} {Z : Hp} {v : V} {ds : List L3.D} (r : bu K CL Z d v) (h : L3.yN d = some ds) : ∃ p us, v = .ref p /\ (j5 K Z p us \/ qJ K Z p us) /\ aC K CL Z ds us := by
 cases r with
 | tup hq rr => cases h; exact ⟨_, _, rfl, .inr hq, rr⟩
 | lst hq rr => cases h; exact ⟨_, _, rfl, .inl hq, rr⟩
 | non => cases h
 | bl => cases h
 | int => cases h
 | str => cases h
 | any => cases h
 | val => cases h
 | qe => cases h
 | ins => cases h
theorem kg {l : List Int} {i : Int} (h1 : cA X CL b e1 δ (.int i) δ1) (h2 : cA X CL b e2 δ1 d δ2) (hd : L3.yN d = some (l.map .int)) (hm : behindInMarks .In e2 = false) :
   mH X CL b (.Compare e1 [.In] [e2] pos) δ (decide (i ∈ l)) δ2 /\ bX X CL b (.Compare e1 [.In] [e2] pos) δ (.sh (.bl (decide (i ∈ l)))) δ2 := by
 constructor
 . intro H Z σ ts vs Q S k
   refine Al (mE j7 dR dR hm) (h1 H Z σ ts vs _ S fun v1 H1 Z1 z1 k1 S1 r1 => h2 H1 Z1 σ ts vs _ S1 fun v2 H2 Z2 z2 k2 S2 r2 => ?_)
   obtain ⟨p, us, rfl, hq, rr⟩ := bu.yN r2 hd
   have e := rr.ints
   subst e
   refine ⟨_, _, rfl, hq, by rw [r1.sc rfl]; rfl, eY l, _, rfl, ?_⟩
   rw [aap aaB, r1.sc rfl, mU]
   exact k H2 Z2 (z1.trans z2) (k1.trans k2) S2
 . intro H Z σ ts vs Q S k
   refine cV (mD j7 dR dR hm) (h1 H Z σ ts vs _ S fun v1 H1 Z1 z1 k1 S1 r1 => h2 H1 Z1 σ ts vs _ S1 fun v2 H2 Z2 z2 k2 S2 r2 => ?_)
   obtain ⟨p, us, rfl, hq, rr⟩ := bu.yN r2 hd
   have e := rr.ints
   subst e
   refine ⟨_, _, rfl, hq, by rw [r1.sc rfl]; rfl, eY l, ?_⟩
   rw [aap aaB, r1.sc rfl, mU]
   exact k _ H2 Z2 (z1.trans z2) (k1.trans k2) (S2.push (.bl _))
theorem BK {l : List Int} {i : Int} (h1 : cA X CL b e1 δ (.int i) δ1) (h2 : cA X CL b e2 δ1 d δ2) (hd : L3.yN d = some (l.map .int)) (hm : behindInMarks .NotIn e2 = false) :
   mH X CL b (.Compare e1 [.NotIn] [e2] pos) δ (!decide (i ∈ l)) δ2 /\ bX X CL b (.Compare e1 [.NotIn] [e2] pos) δ (.sh (.bl (!decide (i ∈ l)))) δ2 := by
 constructor
 . intro H Z σ ts vs Q S k
   refine Al (mE mG dR dR hm) (h1 H Z σ ts vs _ S fun v1 H1 Z1 z1 k1 S1 r1 => h2 H1 Z1 σ ts vs _ S1 fun v2 H2 Z2 z2 k2 S2 r2 => ?_)
   obtain ⟨p, us, rfl, hq, rr⟩ := bu.yN r2 hd
   have e := rr.ints
   subst e
   refine ⟨_, _, rfl, hq, by rw [r1.sc rfl]; rfl, eY l, _, rfl, ?_⟩
   rw [aar rfl, r1.sc rfl, mU]
   exact k H2 Z2 (z1.trans z2) (k1.trans k2) S2
 . intro H Z σ ts vs Q S k
   refine cV (mD mG dR dR hm) (h1 H Z σ ts vs _ S fun v1 H1 Z1 z1 k1 S1 r1 => h2 H1 Z1 σ ts vs _ S1 fun v2 H2 Z2 z2 k2 S2 r2 => ?_)
   obtain ⟨p, us, rfl, hq, rr⟩ := bu.yN r2 hd
   have e := rr.ints
   subst e
   refine ⟨_, _, rfl, hq, by rw [r1.sc rfl]; rfl, eY l, ?_⟩
   rw [aar rfl, r1.sc rfl, mU]
   exact k _ H2 Z2 (z1.trans z2) (k1.trans k2) (S2.push (.bl _))
end
section
variable {X : Cx} {CL : Str -> Addr} {b : Bx} {δ δ1 δ2 : List (Option T)} {e : Expr} {es : List Expr} {d : L3.D} {ds : List L3.D} {t : T} {i : Nat} {x : Str} {pos pp : Pos} {DD : cC} {eW : List Stmt}
theorem bZ : An X CL b [] δ (([] : List L3.D).map T.sh) δ := di
theorem aH (h1 : bX X CL b e δ (.sh d) δ1) (h2 : An X CL b es δ1 (ds.map T.sh) δ2) (hs : starEach (e :: es) X.env = (false, eval e X.env) :: starEach es X.env := by exact bN rfl) : An X CL b (e :: es) δ ((d :: ds).map T.sh) δ2 := eG h1 h2 hs
theorem gM (h : An X CL b es δ (ds.map T.sh) δ1) (hl : ds.length <= sizeLine) : bX X CL b (.List es pos) δ (.lst (ds.map T.sh)) δ1 := dm h (by simpa using hl)
theorem iB (l : List Str) : D.bO (l.map L3.D.str) = true := iA (fun _ => rfl) _
theorem BL (h : bX X CL b e δ (.lst (ds.map T.sh)) δ1) : bX X CL b e δ (.sh (.lst ds)) δ1 := by
 have := Ao h
 rwa [T.cZ, fX] at this
theorem BO {d2 : L3.D} (h : cA X CL b e δ d δ1) (q : d = d2) : cA X CL b e δ d2 δ1 := q ▸ h
theorem aZ {t2 : T} (h : bX X CL b e δ t δ1) (q : t = t2) : bX X CL b e δ t2 δ1 := q ▸ h
end
structure u9 (Z H Z' H' : Hp) : Prop where
 z : aA Z Z'
 h : aA H H'
 zh : aA Z' H'
 new : ∀ a o, Z' a = some o -> Z a = none -> H a = none
 tp : ∀ a o, H' a = some o -> gq o = true -> Z' a = some o
theorem u9.refl {Z H : Hp} (zh : aA Z H) (tp : ∀ a o, H a = some o -> gq o = true -> Z a = some o) : u9 Z H Z H := ⟨.refl _, .refl _, zh, fun a o q z => (by rw [q] at z; cases z), tp⟩
theorem u9.tup {Z H : Hp} {p : Addr} {xs : List V} (zh : aA Z H) (tp : ∀ a o, H a = some o -> gq o = true -> Z a = some o) (hp : H p = none) : u9 Z H (upd Z p (.tup xs)) (upd H p (.tup xs)) := by
 have zp : Z p = none := zh.free hp
 refine ⟨aA.upd zp, aA.upd hp, fun a o q => ?_, fun a o q z => ?_, fun a o q i => ?_⟩
 . by_cases e : a = p
   . subst e; rw [aL] at q ⊢; exact q
   . rw [au e] at q ⊢; exact zh a o q
 . by_cases e : a = p
   . subst e; exact hp
   . rw [au e, z] at q; cases q
 . by_cases e : a = p
   . subst e; rw [aL] at q ⊢; exact q
   . rw [au e] at q ⊢; exact tp a o q i
section
variable {K : PySem.W.Frag} {CL : Str -> Addr} {b : Bx} {H H' Z Z' : Hp} {δ : List (Option T)} {σ : L2.St} {ts : List T} {vs : List V}
theorem bP.grow (S : bP K CL b H Z δ σ ts vs) (g : u9 Z H Z' H') : bP K CL b H' Z' δ σ ts vs := by
 obtain ⟨fp, gp, e, r, nd, k⟩ := S.rep
 have old : ∀ a ∈ fp ++ gp, ∃ o, H a = some o := fun a ha => (aaG.mp ha).elim (e.there a) (r.there a)
 have keep : ∀ a ∈ fp ++ gp, H' a = H a := fun a ha => by
   obtain ⟨o, q⟩ := old a ha
   rw [q]; exact g.h a o q
 refine ⟨⟨fp, gp, e.mono g.z (fun a ha => keep a (aaJ _ ha)), r.mono g.z (fun a ha => keep a (aao _ ha)), nd, fun a ha => ⟨?_, (k a ha).2⟩⟩, S.bh.trans g.h, S.zz.trans g.z, g.zh, fun a o q z => ?_, g.tp, S.tab⟩
 . cases q : Z' a with
   | none => rfl
   | some o =>
     obtain ⟨u, hu⟩ := old a ha
     rw [g.new a o q (k a ha).1] at hu; cases hu
 . cases e2 : Z a with
   | none => exact S.bh.free (g.new a o q e2)
   | some u =>
     have := g.z a u e2
     rw [q] at this; cases this
     exact S.new a o e2 z
def BP (δ : List (Option T)) : List Nat -> List D -> List (Option T)
 | i :: is, d :: ds => BP (δ.set i (some (.sh d))) is ds
 | _, _ => δ
def qZ (σ : L2.St) : List Nat -> List V -> L2.St
 | i :: is, v :: vs => qZ (σ.set i (some v)) is vs
 | _, _ => σ
theorem bP.sets {ps : List D} {ys : List V} : ∀ {is : List Nat} {δ : List (Option T)} {σ : L2.St}, bP K CL b H Z δ σ ts vs -> aC K CL Z ps ys -> (∀ i ∈ is, i < δ.length) -> bP K CL b H Z (BP δ is ps) (qZ σ is ys) ts vs := by
 intro is
 induction is generalizing ps ys with
 | nil =>
   intro δ σ S r _
   cases ps <;> cases ys <;> exact S
 | cons i is ih =>
   intro δ σ S r hl
   cases r with
   | nil => exact S
   | cons r rr => exact ih ((S.push r).set (hl i aax)) rr (fun j hj => by rw [List.length_set]; exact hl j (aay _ hj))
end
section
variable {X : Cx} {CL : Str -> Addr} {b : Bx} {δ δ1 : List (Option T)} {ds : List D} {iter tg : Expr} {pos : Pos}
structure vd (X : Cx) (CL : Str -> Addr) (b : Bx) (δ1 : List (Option T)) (σ : L2.St) (ts : List T) (vs : List V) (Z H : Hp) (ds : List D) (J : It) (H1 : Hp) : Prop where
 ex : ∃ Z1, aA Z Z1 /\ aA H H1 /\ bP X.K CL b H1 Z1 δ1 σ ts vs /\ (∀ i H2, aA Z1 H2 -> i < ds.length -> J.go i H2) ∧
   (∀ i Z2 H2 x H', aA Z1 Z2 -> aA Z2 H2 -> (∀ a o, H2 a = some o -> gq o = true -> Z2 a = some o) -> i < ds.length -> J.Mh i H2 x H' -> ∃ Z3 d, ds[i]? = some d /\ u9 Z2 H2 Z3 H' /\ bu X.K CL Z3 d x) /\ (∀ H2, aA Z1 H2 -> J.stop ds.length H2)
def Mz (X : Cx) (CL : Str -> Addr) (b : Bx) (tg e : Expr) (δ : List (Option T)) (ds : List D) (δ1 : List (Option T)) : Prop :=
 ∃ wi, PI X tg e wi /\ ∀ (H Z : Hp) (σ : L2.St) (ts : List T) (vs : List V) (R : It -> Hp -> Prop), bP X.K CL b H Z δ σ ts vs -> (∀ J H1, vd X CL b δ1 σ ts vs Z H ds J H1 -> R J H1) -> wi σ H R
theorem MA (h : Iw X CL b tg iter δ ds δ1) : Mz X CL b tg iter δ ds δ1 := by
 obtain ⟨wi, pi, hw⟩ := h
 refine ⟨wi, pi, fun H Z σ ts vs R S k => hw H Z σ ts vs R S fun J H1 ⟨Z1, us, z1, k1, S1, rr, go, yl, st⟩ => k J H1 ⟨Z1, z1, k1, S1, go, fun i Z2 H2 x H' s1 s2 tp hi hy => ?_, st⟩⟩
 obtain ⟨e, hu⟩ := yl i H2 x H' (s1.trans s2) hi hy
 subst e
 obtain ⟨d, hd, rd⟩ := rr.EC hu
 exact ⟨Z2, d, hd, .refl s2 tp, rd.mono s1⟩
def SD (X : Cx) (CL : Str -> Addr) (tg : Expr) (is : List Nat) (parts : D -> Option (List D)) : Prop :=
 ∃ t : TG, PG X tg t /\ ∀ (Z H : Hp) (d : D) (ps : List D) (x : V) (σ : L2.St) (Q : L2.St -> Hp -> Prop), aA Z H -> bu X.K CL Z d x -> parts d = some ps -> (∀ ys, aC X.K CL Z ps ys -> Q (qZ σ is ys) H) -> t x σ H Q
def part1 (d : D) : Option (List D) := some [d]
def part2 : D -> Option (List D)
 | .tup [a, c] => some [a, c]
 | _ => none
theorem Dd {d : D} {ps : List D} (h : part2 d = some ps) : ∃ d1 d2, d = .tup [d1, d2] /\ ps = [d1, d2] := by
 unfold part2 at h
 split at h
 . cases h; exact ⟨_, _, rfl, rfl⟩
 . cases h
theorem Au {K : PySem.W.Frag} {i j : Nat} {Z H : Hp} {d : D} {ps : List D} {x : V} {σ : L2.St} {Q : L2.St -> Hp -> Prop} (zh : aA Z H) (r : bu K CL Z d x) (e : part2 d = some ps) (k : ∀ ys, aC K CL Z ps ys -> Q (qZ σ [i, j] ys) H) : Nm K 2 (yi (pC i) (yi (pC j) Nk)) x σ H Q := by
 obtain ⟨d1, d2, rfl, rfl⟩ := Dd e
 cases r with
 | tup hq rr =>
   cases rr with
   | cons r1 rr =>
     cases rr with
     | cons r2 rr =>
       cases rr
       exact ⟨_, _, rfl, aA.Q9 zh hq, rfl, _, _, rfl, _, _, rfl, rfl, k _ (.cons r1 (.cons r2 .nil))⟩
theorem E2 {i : Nat} {x : Str} {px : Pos} (hN : X.N.Nodup) (n : Ln X i x) : SD X CL (.Name x px) [i] part1 :=
 ⟨pC i, mC hN n.hi n.loc n.hf, fun Z H d ps x σ Q zh r e k => by
   cases e
   exact k [x] (.cons r .nil)⟩
theorem IJ {i j k : Nat} {x y : Str} {px py pt : Pos} (hN : X.N.Nodup) (hc : X.calm = true) (n : Ln X i x) (m : Ln X j y) (hs : (assignEach [.Name x px, .Name y py] X.env).map (·.2) = assign (.Name x px) X.env :: (assignEach [.Name y py] X.env).map (·.2) := by rfl) (CM : (assignEach [.Name y py] X.env).map (·.2) = assign (.Name y py) X.env :: (assignEach [] X.env).map (·.2) := by rfl)
   (hn : (assignEach [.Name x px, .Name y py] X.env).length = 2 := by rfl) (Eh : (assignEach [.Name x px, .Name y py] X.env).findIdx? (·.1) = none := by rfl) : SD X CL (.Tuple [.Name x px, .Name y py] k pt) [i, j] part2 :=
 ⟨Nm X.K 2 (yi (pC i) (yi (pC j) Nk)), Nn hc (yj (mC hN n.hi n.loc n.hf) (yj (mC hN m.hi m.loc m.hf) HK CM) hs) hn Eh, fun Z H d ps x σ Q zh r e k => Au zh r e k⟩
theorem IK {D : cC} {eW : List Stmt} (is : List Nat) (parts : L3.D -> Option (List L3.D)) (P : Nat -> List (Option T) -> Prop) (h : Mz X CL b tg iter δ ds δ1) (ht : SD X CL tg is parts) (h0 : P 0 δ1) (hl : ∀ j δ, P j δ -> ∀ i ∈ is, i < δ.length)
   (hs : ∀ j d δ, ds[j]? = some d -> P j δ -> ∃ ps, parts d = some ps /\ d9 X CL b eW (BP δ is ps) { nx := P (j + 1), rt := D.rt, bk := D.nx, ct := P (j + 1) }) (hd : ∀ δ, P ds.length δ -> D.nx δ)
   (hp : PassesOwn (model X.prog X.w) X.A X.env X.xe) (hc : X.calm = true) (hq : ∀ x, foldedSetIterable iter X.env x = pure x := by intro _; rfl) :
   Mr X CL b (.For tg iter eW [] pos) δ D := fun H Z σ ts vs E S M => by
 obtain ⟨wi, pi, hw⟩ := h
 obtain ⟨t, pg, ht⟩ := ht
 refine uU (Ek hp hc pi pg Ij hq) (hw H Z σ ts vs _ S fun J H1 ⟨Z1, z1, k1, S1, go, yl, st⟩ => ?_)
 refine ⟨fun j m σ H2 => m = ds.length - j /\ j <= ds.length /\ ∃ Z2 δ2, aA Z1 Z2 /\ bP X.K CL b H2 Z2 δ2 σ ts vs /\ P j δ2, ⟨_, rfl, aaY _, Z1, δ1, .refl _, S1, h0⟩, ?_⟩
 rintro j m σ H2 ⟨rfl, hj, Z2, δ2, s, S2, p2⟩
 by_cases mL : j < ds.length
 . refine .inr ⟨go j H2 (s.trans S2.zh) mL, fun σ' H' => ∃ Z2 δ2, aA Z1 Z2 /\ bP X.K CL b H' Z2 δ2 σ' ts vs /\ P (j + 1) δ2, fun σ' H' h => ⟨ds.length - (j + 1), by omega, rfl, mL, h⟩, fun y H' hy => ?_⟩
   obtain ⟨Z3, d, HB, gr, rd⟩ := yl j Z2 H2 y H' s S2.zh S2.tp mL hy
   obtain ⟨ps, V2, hb⟩ := hs j d δ2 HB p2
   have S3 := S2.grow gr
   refine ht Z3 H' d ps y σ _ S3.zh rd V2 fun ys UN => ?_
   have S4 := S3.sets (is := is) UN (hl j δ2 p2)
   have s3 := s.trans gr.z
   exact hb _ Z3 _ ts vs _ S4 ⟨fun δ' σ' H' Z' s' S' k => ⟨Z', δ', s3.trans s', S', k⟩, fun t v H' Z' δ' σ' s' S' k => M.rt t v H' Z' δ' σ' (z1.trans (s3.trans s')) S' k, fun δ' σ' H' Z' s' S' k => M.nx δ' σ' H' Z' (z1.trans (s3.trans s')) S' k, fun δ' σ' H' Z' s' S' k => ⟨Z', δ', s3.trans s', S', k⟩⟩
 . have e : j = ds.length := by omega
   subst e
   exact .inl ⟨st H2 (s.trans S2.zh), M.nx δ2 σ H2 Z2 (z1.trans s) S2 (hd δ2 p2)⟩
theorem OQ {D : cC} {body eW : List Stmt} {is : List Nat} {parts : L3.D -> Option (List L3.D)} (g : Gx X) (ht : SD X CL tg is parts) (P : Nat -> List (Option T) -> Prop) (h : Mz X CL b tg iter δ ds δ1) (h0 : P 0 δ1) (hl : ∀ j δ, P j δ -> ∀ i ∈ is, i < δ.length)
   (hs : ∀ j d δ, ds[j]? = some d -> P j δ -> ∃ ps, parts d = some ps /\ d9 X CL b body (BP δ is ps) { nx := P (j + 1), rt := D.rt, bk := fun δ2 => d9 X CL b eW δ2 D, ct := P (j + 1) }) (hd : ∀ δ, P ds.length δ -> d9 X CL b eW δ D) (hq : ∀ x, foldedSetIterable iter X.env x = pure x := by intro _; rfl) :
   d9 X CL b (.For tg iter body [] pos :: eW) δ D :=
 dH (IK (D := { D with nx := fun δ1 => d9 X CL b eW δ1 D }) is parts P h ht h0 hl hs hd (by rw [g.xe]; exact PassesOwn.never) g.calm hq)
end
structure jI (X : Cx) (scope : Scope) (xs : List Str) (Nc : List Str) (ix : List Nat) : Prop where
 kind : scope.kind = .function
 oi : ∀ y ∈ scope.names, y.2 ≠ .cell
 nd : Nc.Nodup
 names : ∀ y ∈ scope.names, y.2 = .local -> scope.names.lookup y.1 = some .local
 own : ∀ x ∈ xs, scope.names.lookup x = some .local
 frees : ∀ y ∈ scope.names, y.2 = .free -> scope.names.lookup y.1 = some .free /\ (X.env.kindOf y.1 = some .cell \/ X.env.kindOf y.1 = some .free)
 hd : Nc = xs ++ ix.filterMap (X.N[·]?)
 Mx : ∀ i ∈ ix, ∃ y, X.N[i]? = some y /\ scope.names.lookup y = some .free
def De (σ : L2.St) (ix : List Nat) (os : List (Option V)) : L2.St := os ++ ix.map fun i => (σ[i]?).getD none
section
variable {X : Cx} {scope : Scope} {xs : List Str} {Nc : List Str} {ix : List Nat} {pins : List (Addr × Obj)} {σ : L2.St} {H : Hp} {s : Shared}
theorem yO {fp : List Addr} (sc : jI X scope xs Nc ix) (I : Inv X pins σ H s) (qf : ∀ b ∈ fp, fW X pins H b /\ b < s.heap.objs.size) {h' : Heap} {m : Str -> Option Value} {tk : Nat}
   (hn : h'.Ns s.heap.objs.size m) (hk : ∀ b o, s.heap.get? b = some o -> h'.get? b = some o) :
   Inv (cF X scope Nc s.heap.objs.size s H fp) [] (De σ ix (List.replicate xs.length none)) H { s with heap := h', toks := tk } := by
 have frees : ∀ y ∈ scope.names, y.2 = .free -> ∃ c, X.env.cells.lookup y.1 = some c := fun y hy e => I.ok.has y.1 (sc.frees y hy e).2
 have sub : ∀ {y : Str} {c : Addr}, (bU X.env scope.names []).lookup y = some c -> X.env.cells.lookup y = some c := fun {y c} e => iR frees (fun _ _ z => by cases z) e
 have hlen : (De σ ix (List.replicate xs.length none)).length = Nc.length := by
   have all : ∀ l : List Nat, (∀ i ∈ l, ∃ y, X.N[i]? = some y /\ scope.names.lookup y = some .free) -> (l.filterMap (X.N[·]?)).length = l.length := by
     intro l
     induction l with
     | nil => intro _; rfl
     | cons i r ih =>
       intro h
       obtain ⟨y, e, _⟩ := h i aax
       rw [abl, e]
       show _ + 1 = _ + 1
       rw [ih fun j hj => h j (aay _ hj)]
   unfold De
   rw [sc.hd, aaM, aaM, aaz, aby, all ix sc.Mx]
 have C0 : s.heap.get? s.heap.objs.size = none := Heap.get?_none_of_le (aas _)
 refine ⟨⟨I.ok.mod, sc.kind, I.ok.glob, I.ok.blt, aas _, fun y z c h1 h2 => I.ok.inj y z c (sub h1) (sub h2), fun y hy => ?_, fun y c hf _ => (by cases (show false = true from hf)), I.ok.hd, I.ok.frames, .inl rfl, fun b hb => ⟨aaV (qf b hb).2, fun y c e => (qf b hb).1.2.2.2.2.1 y c (sub e)⟩, I.bs, abb I.ok.Hr I.sz, fun b o e hb => ?_, fun b hb hf => ?_, I.stack, I.uL⟩,
   rfl, I.bare, Un.kept hk, ⟨m, hn, fun i y v h1 h2 h3 => ?_⟩, fun y c e => ?_, I.cU.fresh (aas _), fun y c e => I.jy y c (sub e), fun p hp => absurd (show p ∈ ([] : List (Addr × Obj)) from hp) (by simp), I.cU.kept hk, hlen⟩
 . 
   have UO : (relabel scope X.env).names.lookup y = some .cell \/ (relabel scope X.env).names.lookup y = some .free := hy
   cases e : scope.names.lookup y with
   | none => 
     have := fS (env := X.env) e
     rcases UO with q | q <;> (rw [show (relabel scope X.env).names.lookup y = none from this] at q; cases q)
   | some k =>
     have q := dI (env := X.env) e
     have hk : k = .free := by
       by_cases hk : k = .free
       . exact hk
       . have hb : (k == NameKind.free) = false := by simpa using hk
         rw [aap (by rw [hb]; simp)] at q
         have nc : k ≠ .cell := fun z => by
           subst z
           exact sc.oi _ (abj e) rfl
         rcases UO with z | z
         . rw [show (relabel scope X.env).names.lookup y = some k from q] at z
           exact absurd (aaH z) nc
         . rw [show (relabel scope X.env).names.lookup y = some k from q] at z
           exact absurd (aaH z) hk
     subst hk
     exact gw e
 . 
   rcases (qf b hb).1.2.2.2.1 with z | z
   . exact I.ok.Ec b o e z
   . exact absurd (aaT (aaE e) (abb I.ok.Hr z)) (ab4 _)
 . rcases aau.mp (I.uK b hf) with z | z
   . exact (qf b hb).1.2.1 z
   . exact (qf b hb).1.2.2.1 z
 . 
   unfold De at h2
   by_cases hi : i < xs.length
   . rw [ab7 (by rw [aby]; exact hi), List.getElem?_replicate, aar hi] at h2
     cases h2
   . obtain ⟨n, rfl⟩ : ∃ n, i = xs.length + n := ⟨i - xs.length, by omega⟩
     rw [abx (by rw [aby]; omega), aby, Nat.add_sub_cancel_left, aa0] at h2
     cases ei : ix[n]? with
     | none => rw [ei] at h2; cases h2
     | some j =>
       rw [ei] at h2
       have E3 : (σ[j]?).getD none = some v := aaH h2
       have hj : σ[j]? = some (some v) := by
         cases q : σ[j]? with
         | none => rw [q] at E3; cases E3
         | some o => rw [q] at E3; exact congrArg some E3
       obtain ⟨y', SG, OS⟩ := sc.Mx j (aa5 ei)
       have V3 : Nc[xs.length + n]? = some y' := by
         have all : ∀ (l : List Nat) (i : Nat), (∀ j ∈ l, ∃ y, X.N[j]? = some y /\ scope.names.lookup y = some .free) -> l[i]? = some j -> (l.filterMap (X.N[·]?))[i]? = some y' := by
           intro l
           induction l with
           | nil => intro i _ h; simp at h
           | cons a r ih =>
             intro i h hi
             obtain ⟨ya, ea, _⟩ := h a aax
             rw [abl, ea]
             cases i with
             | zero =>
               simp at hi
               subst hi
               rw [SG] at ea
               cases ea
               rfl
             | succ i => exact ih i (fun j hj => h j (List.mem_cons_of_mem _ hj)) (by simpa using hi)
         rw [sc.hd, abx (by omega), Nat.add_sub_cancel_left]
         exact all ix n sc.Mx ei
       have ey : y' = y := by
         have MB : Nc[xs.length + n]? = some y := h1
         rw [V3] at MB
         exact aaH MB
       subst ey
       have qN := (sc.frees (y', .free) (abj OS) rfl).2
       have OU : MZ X.env.scope y' := qN.elim (fun z => .inr (.inl z)) (fun z => .inr (.inr z))
       obtain ⟨m0, V4, UQ⟩ := I.loc
       obtain ⟨u, ru, lk⟩ := UQ j y' v SG hj OU
       refine ⟨u, ru, ?_⟩
       rcases lk with ⟨kk, _⟩ | ⟨_, c, hc, pB⟩
       . rcases qN with z | z
         . rw [kk] at z; cases z
         . rw [kk] at z; cases z
       . obtain ⟨c', Ed⟩ := gw (env := X.env) (cs := []) OS
         have : c' = c := by
           have := sub Ed
           rw [hc] at this
           exact (aaH this).symm
         subst this
         obtain ⟨o, ho, hd⟩ := pB
         refine .inr ⟨?_, c', Ed, o, hk _ _ ho, hd⟩
         have q := dI (env := X.env) OS
         show (relabel scope X.env).names.lookup y' = some .cell \/ (relabel scope X.env).names.lookup y' = some .free
         rw [show (relabel scope X.env).names.lookup y' = _ from q]
         split
         . exact .inl rfl
         . exact .inr rfl
 . obtain ⟨v, o, ho, hd⟩ := I.cell y c (sub e)
   exact ⟨v, o, hk _ _ ho, hd⟩
def E4 (X : Cx) (tg elt : Expr) (ifs : List Expr) (n : Nat) (σ : L2.St) (ix : List Nat) (D : Addr) (N : Hp -> Prop) (xv : V) (os : List (Option V)) (H3 : Hp) : Prop :=
 ∃ t : TG, PG X tg t /\ t xv (De σ ix os) H3 fun σ8 H4 => ∃ Q6, Q6.length = n /\ σ8 = De σ ix Q6 /\ Oo X ifs σ8 H4 fun ok H5 =>
   if ok = true then yx X elt σ8 H5 fun y H6 => ∃ acc, H6 D = some (.lst acc) /\ acc.length < sizeLine /\ N (upd H6 D (.lst (acc ++ [y]))) else N H5
theorem Av {elt iter tg : Expr} {pos : Pos} {ifs : List Expr} {J : It} {fp : List Addr} {it : Addr} {tn : Nat -> Heap -> Prop} {G : Addr -> Hp -> Prop} {RR : Value -> Addr -> Result -> Shared -> Prop} {E : Value -> Shared -> Prop}
   (sc : jI X scope xs Nc ix) (hc : X.calm = true) (I : Inv X pins σ H s) (Tn : Turn X.prog X.w X.K tg J fp it tn) (st : tn 0 s.heap) (hf : ∀ b ∈ fp, fW X pins H b)
   (loop : ∀ D, H D = none -> ∃ W : Nat -> Nat -> Hp -> Prop, (∃ m, W 0 m (upd H D (.lst []))) /\ ∀ i m H2, W i m H2 -> (J.stop i H2 /\ G D H2) ∨
     (J.go i H2 /\ ∃ N : Hp -> Prop, (∀ H', N H' -> ∃ m', m' < m /\ W (i + 1) m' H') /\ ∀ xv H3, J.Mh i H2 xv H3 -> ∀ C s0 H0 f0 os, os.length = xs.length -> E4 (cF X scope Nc C s0 H0 f0) tg elt ifs xs.length σ ix D N xv os H3))
   (V5 : ∀ D C s' H', (∃ m, s'.heap.Ns C m) -> (∃ o, s'.heap.get? C = some o /\ ∀ v, o.data ≠ .cell v) -> H' C = none -> (C ≠ X.env.locals /\ C ∉ X.fs /\ X.s₀.heap.objs.size <= C /\ (∀ y c, X.env.cells.lookup y = some c -> c ≠ C) /\ ∀ q ∈ X.pn ++ pins, q.1 ≠ C) -> (∀ h', Heap.SameBut C s'.heap h' -> Inv X pins σ H' { s' with heap := h' }) -> G D H' -> RR (.ref D) C (.ok .next) s') :
   wpAny (model X.prog X.w) X.A (newList []) (fun acc s₃ => wpAny (model X.prog X.w) X.A (newFunctionEnv scope X.env.globals (bU X.env scope.names []) [] X.env.qual none .none (some X.env)) (fun E5 s₄ =>
     codeAny (model X.prog X.w) X.A (.compStart (.ListComp elt [⟨tg, iter, ifs, 0⟩] scope pos) 0 (.ref it) acc { E5 with scope := relabel scope X.env }) (RR acc E5.locals) s₄) E s₃) E s := by
 refine wpAny_newObj_type ?_
 have I3 : Inv X pins σ (upd H s.heap.objs.size (.lst [])) { s with heap := s.heap.push { cls := .type "list", dict := none, data := .seq ([] : List Value).toArray } } :=
   I.laid (t' := s.toks) (fun b u e => aaA _ e) (aas _) ⟨by show 0 <= sizeLine; exact aaY _, [], 0, .nil, aaR _ rfl⟩
 have hD : H s.heap.objs.size = none := I.cU.fresh (aas _)
 obtain ⟨W, ⟨m0, w0⟩, turn⟩ := loop _ hD
 have E6 : ∀ b ∈ fp, fW X pins (upd H s.heap.objs.size (.lst [])) b /\ b < (s.heap.push { cls := .type "list", dict := none, data := .seq ([] : List Value).toArray }).objs.size := fun b hb => by
   obtain ⟨f0, f1⟩ := hf b hb
   obtain ⟨o, ho, _⟩ := Tn.obj 0 _ st b hb
   have mL := aaE ho
   refine ⟨⟨by rw [au (aaV mL)]; exact f0, f1⟩, ?_⟩
   rw [Heap.size_push]; exact Nat.lt_succ_of_lt mL
 have RL : tn 0 (s.heap.push { cls := .type "list", dict := none, data := .seq ([] : List Value).toArray }) := Tn.keep 0 _ _ st fun b _ o e => aaA _ e
 generalize YS : ({ s with heap := s.heap.push { cls := .type "list", dict := none, data := .seq ([] : List Value).toArray } } : Shared) = s3 at I3 ⊢
 have OV : s3.heap = s.heap.push { cls := .type "list", dict := none, data := .seq ([] : List Value).toArray } := by rw [← YS]
 rw [← OV] at E6 RL
 refine wpAny_newFunctionEnv sc.oi (by intro y hy; simp at hy) (fun h₁ OW OX => ?_) sc.kind
 have old : ∀ b o, s3.heap.get? b = some o -> h₁.get? b = some o := fun b o e => (OX.2 b (aaV (aaE e))).trans (aaA _ e)
 have J0 := yO (tk := s3.toks + ([] : List (Str × Value)).length) sc I3 E6 OW old
 have Xq : tn 0 h₁ := Tn.keep 0 _ _ RL fun b _ o e => old b o e
 have MC : ∀ s4 : Shared, s4 = { s3 with heap := h₁, toks := s3.toks + ([] : List (Str × Value)).length } -> codeAny (model X.prog X.w) X.A (.compLoop (.ListComp elt [⟨tg, iter, ifs, 0⟩] scope pos) 0 (.ref it) (.ref s.heap.objs.size) (compEnvC scope (bU X.env scope.names []) s3.heap.objs.size X.env)) (RR (.ref s.heap.objs.size) s3.heap.objs.size) s4 := by
   rintro s4 rfl
   have stat : ∀ {H' : Hp}, (∀ b ∈ fp, H' b = none) -> ∀ b ∈ fp, fW (cF X scope Nc s3.heap.objs.size s3 (upd H s.heap.objs.size (.lst [])) fp) [] H' b := fun {H'} hn b hb => by
     obtain ⟨⟨f0, f1, f2, f3, f4, f5⟩, mL⟩ := E6 b hb
     refine ⟨hn b hb, aaV mL, fun z => ?_, .inl hb, fun y c e => f4 y c (iR (fun y hy e => I.ok.has y.1 (sc.frees y hy e).2) (fun _ _ z => by cases z) e), fun p hp => absurd (show p ∈ ([] : List (Addr × Obj)) from hp) (by simp)⟩
     rcases aau.mp (I3.uK b z) with q | q
     . exact f1 q
     . exact f2 q
   refine uW (fun n s' => ∃ i o H', o.length = xs.length /\ Inv (cF X scope Nc s3.heap.objs.size s3 (upd H s.heap.objs.size (.lst [])) fp) [] (De σ ix o) H' s' /\ tn i s'.heap /\ (∀ b ∈ fp, H' b = none) /\ W i n H') ?_ m0 ⟨0, _, _, aby, J0, Xq, fun b hb => (E6 b hb).1.1, w0⟩
   rintro n s5 ⟨i, o5, H5, YT, I5, Q5, UH, w5⟩
   rcases turn i n H5 w5 with ⟨stop, g⟩ | ⟨go, N, hN, step⟩
   . refine c9 (Tn.done (cF X scope Nc s3.heap.objs.size s3 (upd H s.heap.objs.size (.lst [])) fp) rfl rfl rfl hc i [] s5 _ H5 _ I5 (stat UH) Q5 stop) fun r s6 ⟨hr, I6⟩ => ?_
     subst hr
     obtain ⟨m6, Xr, _⟩ := I6.loc
     obtain ⟨oc, Z6, Z7, Q0, V6, _⟩ := id Xr
     have UR := I3.uM (aas s3.heap.objs.size) (H' := fun _ => none) rfl
     refine V5 _ _ s6 H5 ⟨m6, Xr⟩ ⟨oc, Q0, fun v z => by rw [V6] at z; cases z⟩ I6.free ⟨UR.2.1, UR.2.2.1, ?_, UR.2.2.2.2.1, UR.2.2.2.2.2⟩ (fun h' SJ => C5 I3 (fun b hb => (E6 b hb).1) I6 SJ) g
     exact I3.sz
   . refine c9 (Tn.item (cF X scope Nc s3.heap.objs.size s3 (upd H s.heap.objs.size (.lst [])) fp) rfl rfl rfl hc i [] s5 _ H5 _ I5 (stat UH) Q5 go) fun r s6 ⟨u, hr, h6⟩ => ?_
     subst hr
     refine c9 h6 fun _ s7 ⟨xv, H7, I7, r7, y7, V7, YV⟩ => ?_
     have YW := I7.pinned (stat YV) (Tn.obj _ _ V7)
     obtain ⟨t, hg, ht⟩ := step xv _ y7 s3.heap.objs.size s3 (upd H s.heap.objs.size (.lst [])) fp o5 YT
     refine c9 (hg _ s7 _ H7 xv u _ YW r7 ht) fun _ s8 ⟨σ8, H8, I8, Xs, YX, e8, h8⟩ => ?_
     subst e8
     refine c9 (EJ I8 h8 rfl) fun ok s9 ⟨H9, I9, q9⟩ => ?_
     have again : ∀ {Ha : Hp} {sa : Shared}, Inv (cF X scope Nc s3.heap.objs.size s3 (upd H s.heap.objs.size (.lst [])) fp) ([] ++ qK fp s7.heap) (De σ ix Xs) Ha sa -> N Ha -> ∃ m, m < n /\ ∃ i o H', o.length = xs.length /\ Inv (cF X scope Nc s3.heap.objs.size s3 (upd H s.heap.objs.size (.lst [])) fp) [] (De σ ix o) H' sa /\ tn i sa.heap /\ (∀ b ∈ fp, H' b = none) /\ W i m H' := fun {Ha sa} Ia na => by
       obtain ⟨m', hm, wa⟩ := hN Ha na
       refine ⟨m', hm, i + 1, Xs, Ha, YX, Ia.jA, Tn.keep _ _ _ V7 fun b hb o e => (Ia.pin (b, o) (aao _ (aao _ (fu hb e)))).1, fun b hb => ?_, wa⟩
       obtain ⟨o, e, d⟩ := Tn.obj _ _ V7 b hb
       exact (Ia.pin (b, o) (aao _ (aao _ (fu hb e)))).2.1
     cases ok with
     | false =>
       rw [aap aaB] at q9 ⊢
       exact again I9 q9
     | true =>
       rw [aar rfl] at q9 ⊢
       refine c9 (q9 _ s9 I9) fun v sa ⟨y, Ha, Ia, ra, acc, V8, hlen, na⟩ => ?_
       refine c9 (tZ (X := cF X scope Nc s3.heap.objs.size s3 (upd H s.heap.objs.size (.lst [])) fp) _ sa _ Ha (.ref s.heap.objs.size) [y] (.ref s.heap.objs.size) [v] (fun _ Hb => Hb = upd Ha s.heap.objs.size (.lst (acc ++ [y]))) Ia rfl (.cons ra .nil) ⟨_, acc, y, rfl, rfl, V8, hlen, rfl⟩) fun _ sb ⟨_, Hb, Ib, _, eb⟩ => ?_
       subst eb
       exact again Ib na
 exact codeAny_compStart_list (MC _ rfl) (Tn.self _ 0 _ _ _ Xq (MC _ rfl))
end
def E7 (ps : List D) : List (Option T) := ps.map fun p => some (.sh p)
theorem t9 : ∀ {ys : List V} {os : List (Option V)} {pre r : L2.St}, os.length = ys.length -> qZ (pre ++ (os ++ r)) (List.range' pre.length ys.length) ys = pre ++ (ys.map some ++ r)
 | [], os, pre, r, h => by
   have : os = [] := List.length_eq_zero_iff.mp h
   subst this
   rfl
 | y :: ys, os, pre, r, h => by
   match os, h with
   | o :: os, h =>
     show qZ ((pre ++ (o :: (os ++ r))).set pre.length (some y)) (List.range' (pre.length + 1) ys.length) ys = _
     rw [List.set_append_right _ _ (aas _), Nat.sub_self, List.set_cons_zero]
     have := t9 (ys := ys) (os := os) (pre := pre ++ [some y]) (r := r) (by simpa using h)
     simp only [aaM, aaL, abB, aav, List.singleton_append] at this
     rw [this]
     simp
theorem BQ {K : PySem.W.Frag} {CL : Str -> Addr} {H Z : Hp} : ∀ {ps : List D} {ys : List V} {δc : List (Option T)} {σc : L2.St}, aC K CL Z ps ys -> d8 K CL H Z δc σc [] -> d8 K CL H Z (E7 ps ++ δc) (ys.map some ++ σc) []
 | _, _, _, _, .nil, e => e
 | _, _, _, _, .cons r rr, e => .cons (fp := []) (gp := []) (.sh r) (BQ rr e)
section
variable {X : Cx} {CL : Str -> Addr} {b : Bx} {H Z W1 : Hp} {δ δc : List (Option T)} {σ : L2.St} {ts : List T} {vs : List V} {ds : List D} {scope : Scope} {Nc : List Str} {n : Nat} {ix : List Nat} {elt tg : Expr} {ifs : List Expr} {p : D -> Bool} {g : D -> T} {J : It} {parts : D -> Option (List D)}
def ou (X : Cx) (CL : Str -> Addr) (scope : Scope) (Nc : List Str) (n : Nat) (tg : Expr) (parts : D -> Option (List D)) (ifs : List Expr) (elt : Expr) (δc : List (Option T)) (ds : List D) (p : D -> Bool) (g : D -> T) : Prop :=
 ∀ C s0 H0 f0 b', SD (cF X scope Nc C s0 H0 f0) CL tg (List.range' 0 n) parts /\ ∀ d, d ∈ ds -> ∃ ps, parts d = some ps /\ ps.length = n /\ UM (cF X scope Nc C s0 H0 f0) CL b' ifs (E7 ps ++ δc) (p d) /\ (p d = true -> bX (cF X scope Nc C s0 H0 f0) CL b' elt (E7 ps ++ δc) (g d) (E7 ps ++ δc))
theorem q8 (S : bP X.K CL b H Z δ σ ts vs) (zw : aA Z W1) (wh : aA W1 H) (tp : ∀ a o, H a = some o -> gq o = true -> W1 a = some o)
   (cap : ∀ H', d8 X.K CL H' W1 δc (ix.map fun i => (σ[i]?).getD none) []) (inner : ou X CL scope Nc n tg parts ifs elt δc ds p g)
   (Xu : ∀ i H2, aA W1 H2 -> i < ds.length -> J.go i H2)
   (hy : ∀ i Z2 H2 x H', aA W1 Z2 -> aA Z2 H2 -> (∀ a o, H2 a = some o -> gq o = true -> Z2 a = some o) -> i < ds.length -> J.Mh i H2 x H' -> ∃ Z3 d, ds[i]? = some d /\ u9 Z2 H2 Z3 H' /\ bu X.K CL Z3 d x)
   (Eh : ∀ H2, aA W1 H2 -> J.stop ds.length H2) (hlen : ds.length <= sizeLine) (c : W1 = Z \/ ∀ d ∈ ds, (g d).clean = true) :
   ∀ D, H D = none -> ∃ W : Nat -> Nat -> Hp -> Prop, (∃ m, W 0 m (upd H D (.lst []))) /\ ∀ i m H2, W i m H2 -> (J.stop i H2 /\ ∃ Z2, aA Z Z2 /\ aA H H2 /\ bP X.K CL b H2 Z2 δ σ (.lst ((ds.filter p).map g) :: ts) (.ref D :: vs)) ∨
     (J.go i H2 /\ ∃ N : Hp -> Prop, (∀ H', N H' -> ∃ m', m' < m /\ W (i + 1) m' H') /\ ∀ xv H3, J.Mh i H2 xv H3 -> ∀ C s0 H0 f0 os, os.length = n -> E4 (cF X scope Nc C s0 H0 f0) tg elt ifs n σ ix D N xv os H3) := by
 intro D hD
 have wD : W1 D = none := wh.free hD
 refine ⟨fun i m H2 => m = ds.length - i /\ i <= ds.length /\ ∃ Z2 zY fp, aA H H2 /\ aA W1 Z2 /\ aA Z2 H2 /\ Z2 D = none /\ (∀ a o, Z2 a = some o -> W1 a = none -> H a = none) /\ (∀ a o, H2 a = some o -> gq o = true -> Z2 a = some o) ∧
   H2 D = some (.lst zY) /\ aN X.K CL H2 Z2 (((ds.take i).filter p).map g) zY fp /\ fp.Nodup /\ D ∉ fp /\ (∀ a ∈ fp, Z2 a = none /\ H a = none) /\ zY.length <= i, ⟨ds.length, rfl, aaY _, W1, [], [], aA.upd hD, .refl _, wh.trans (aA.upd hD), wD, fun a o q z => ?_, fun a o q i => ?_, aL, .nil, abE, by simp, by simp, by simp⟩, ?_⟩
 . rw [q] at z; cases z
 . by_cases ha : a = D
   . subst ha; rw [aL] at q; cases q; cases i
   . rw [au ha] at q; exact tp a o q i
 . rintro i m H2 ⟨rfl, hi, Z2, zY, fp, hh, wz, zh, zD, nw, V9, UT, ra, nd, nD, own, Z8⟩
   by_cases mL : i < ds.length
   . refine .inr ⟨Xu i H2 (wz.trans zh) mL, fun H' => ∃ Z2 zY fp, aA H H' /\ aA W1 Z2 /\ aA Z2 H' /\ Z2 D = none /\ (∀ a o, Z2 a = some o -> W1 a = none -> H a = none) /\ (∀ a o, H' a = some o -> gq o = true -> Z2 a = some o) ∧
       H' D = some (.lst zY) /\ aN X.K CL H' Z2 (((ds.take (i + 1)).filter p).map g) zY fp /\ fp.Nodup /\ D ∉ fp /\ (∀ a ∈ fp, Z2 a = none /\ H a = none) /\ zY.length <= i + 1, fun H' h => ⟨ds.length - (i + 1), by omega, rfl, mL, h⟩, fun xv H3 y C s0 H0 f0 os YY => ?_⟩
     obtain ⟨Z3, d, hd, gr, rd⟩ := hy i Z2 H2 xv H3 wz zh V9 mL y
     have OY : ∀ a, Z2 a = none -> (∃ o, H2 a = some o) -> Z3 a = none := fun a e ⟨o, e2⟩ => by
       cases q : Z3 a with
       | none => rfl
       | some u => rw [gr.new a u q e] at e2; cases e2
     have Xv : ∀ a o, Z3 a = some o -> W1 a = none -> H a = none := fun a o q z => by
       cases e : Z2 a with
       | none => exact hh.free (gr.new a o q e)
       | some u =>
         have := gr.z a u e
         rw [q] at this; cases this
         exact nw a o e z
     have OZ : aN X.K CL H3 Z3 (((ds.take i).filter p).map g) zY fp := ra.mono gr.z fun a ha => by
       obtain ⟨o, e⟩ := ra.there a ha
       rw [e]; exact gr.h a o e
     have UU : ∀ a ∈ fp, Z3 a = none /\ H a = none := fun a ha => ⟨OY a (own a ha).1 (ra.there a ha), (own a ha).2⟩
     have Wa : Z3 D = none := OY D zD ⟨_, UT⟩
     have MD : H3 D = some (.lst zY) := gr.h D _ UT
     have OV := hh.trans gr.h
     have UW := wz.trans gr.z
     have Xw := gr.zh
     have YZ := gr.tp
     clear own nw ra zD UT hh wz zh V9 gr OY
     have O1 : d ∈ ds := aa5 hd
     have MF : ds.take (i + 1) = ds.take i ++ [d] := by rw [abr, hd]; rfl
     obtain ⟨tgt, Y0⟩ := inner C s0 H0 f0 ⟨H3, Z3⟩
     obtain ⟨ps, V2, tF, it, ie⟩ := Y0 d O1
     obtain ⟨t, pg, ht⟩ := tgt
     refine ⟨t, pg, ht Z3 H3 d ps xv _ _ Xw rd V2 fun ys UN => ?_⟩
     have Wb : ys.length = n := by rw [← UN.length]; exact tF
     have es : qZ (De σ ix os) (List.range' 0 n) ys = De σ ix (ys.map some) := by
       have := t9 (ys := ys) (os := os) (pre := []) (r := ix.map fun i => (σ[i]?).getD none) (by rw [YY, Wb])
       rw [Wb] at this
       exact this
     refine ⟨ys.map some, by rw [aaz]; exact Wb, es, ?_⟩
     rw [es]
     have S0 : bP X.K CL ⟨H3, Z3⟩ H3 Z3 (E7 ps ++ δc) (De σ ix (ys.map some)) [] [] :=
       ⟨⟨[], [], BQ UN ((cap H3).mono UW fun a ha => by cases ha), .nil, abE, fun a ha => by cases ha⟩, .refl _, .refl _, Xw, fun a o q z => (by have z' : Z3 a = none := z; rw [show Z3 a = some o from q] at z'; cases z'), YZ, (S.Se.mono zw).mono UW⟩
     refine it.Yv S0 fun H4 Z4 z4 k4 S4 => ?_
     have Wc : ∀ a ∈ fp, H4 a = H3 a := fun a ha => by
       obtain ⟨o, e⟩ := OZ.there a ha
       rw [e]; exact k4 a o e
     have E8 : ∀ a, Z3 a = none -> (∃ o, H3 a = some o) -> Z4 a = none := fun a e ⟨o, e2⟩ => by
       cases q : Z4 a with
       | none => rfl
       | some u =>
         have := S4.new a u q e
         rw [show H3 a = none from this] at e2; cases e2
     cases hp : p d with
     | false =>
       refine EA ⟨Z4, zY, fp, OV.trans k4, UW.trans z4, S4.zh, E8 D Wa ⟨_, MD⟩, fun a o q z => ?_, S4.tp, k4 D _ MD, ?_, nd, nD, fun a ha => ⟨E8 a (UU a ha).1 (OZ.there a ha), (UU a ha).2⟩, by omega⟩
       . cases e : Z3 a with
         | none => exact OV.free (S4.new a o q e)
         | some u => 
           have := z4 a u e
           rw [q] at this; cases this
           exact Xv a o e z
       . rw [MF, ab9, acf (by simp [hp]), List.filter_nil, aa1]
         exact OZ.mono z4 Wc
     | true =>
       refine EB ((ie hp) H4 Z4 (De σ ix (ys.map some)) [] [] _ S4 fun yv H5 Z5 z5 k5 S5 => ⟨zY, k5 D _ (k4 D _ MD), by omega, ?_⟩)
       obtain ⟨f1, g1, e1, r1, Sf, SK⟩ := S5.rep
       cases r1 with
       | @cons _ _ _ _ fy fn ry rn =>
         cases rn
         rw [aa1] at Sf SK
         have Y3 : fy.Nodup := (aa9.mp Sf).2.1
         have IL : ∀ a ∈ fy, Z5 a = none /\ H3 a = none := fun a ha => SK a (aao _ ha)
         have Aw : ∀ a, Z3 a = none -> (∃ o, H3 a = some o) -> Z5 a = none := fun a e ⟨o, e2⟩ => by
           cases q : Z5 a with
           | none => rfl
           | some u =>
             have := S5.new a u q e
             rw [show H3 a = none from this] at e2; cases e2
         have yD : ∀ a ∈ fy, a ≠ D := fun a ha e => by
           subst e
           rw [(IL a ha).2] at MD; cases MD
         have Z9 : H5 D = some (.lst zY) := k5 D _ (k4 D _ MD)
         have sD : aA H (upd H5 D (.lst (zY ++ [yv]))) := fun a o q => by
           rw [au (aD q hD)]
           exact k5 a o (k4 a o (OV a o q))
         refine ⟨Z5, zY ++ [yv], fp ++ fy, sD, UW.trans (z4.trans z5), fun a o q => ?_, Aw D Wa ⟨_, MD⟩, fun a o q z => ?_, fun a o q im => ?_, aL, ?_, ?_, ?_, fun a ha => ?_, ?_⟩
         . rw [au (aD q (Aw D Wa ⟨_, MD⟩))]; exact S5.zh a o q
         . cases e : Z3 a with
           | none => exact OV.free (S5.new a o q e)
           | some u =>
             have := z5 a u (z4 a u e)
             rw [q] at this; cases this
             exact Xv a o e z
         . by_cases ha : a = D
           . subst ha; rw [aL] at q; cases q; cases im
           . rw [au ha] at q; exact S5.tp a o q im
         . rw [MF, ab9, List.filter_cons_of_pos hp, List.filter_nil, List.map_append]
           refine aN.app (OZ.mono (z4.trans z5) fun a ha => ?_) (by
             have := aN.cons (fp := fy) (gp := []) (ry.mono (.refl _) fun a ha => au (yD a ha)) (aN.nil (H := upd H5 D (.lst (zY ++ [yv]))) (Z := Z5))
             rwa [aa1] at this)
           have : a ≠ D := fun e => nD (e ▸ ha)
           rw [au this]
           obtain ⟨o, e⟩ := OZ.there a ha
           rw [e]; exact k5 a o (k4 a o e)
         . refine aa9.mpr ⟨nd, Y3, fun a ha a' EF e => ?_⟩
           subst e
           obtain ⟨o, e⟩ := OZ.there a ha
           rw [(IL a EF).2] at e; cases e
         . intro h
           rcases aaG.mp h with h | h
           . exact nD h
           . exact yD D h rfl
         . rcases aaG.mp ha with h | h
           . exact ⟨Aw a (UU a h).1 (OZ.there a h), (UU a h).2⟩
           . exact ⟨(IL a h).1, OV.free (IL a h).2⟩
         . rw [aaM, List.length_singleton]; omega
   . have e : i = ds.length := by omega
     subst e
     refine .inl ⟨Eh H2 (wz.trans zh), ?_⟩
     rw [ab3] at ra
     obtain ⟨Z', z', S'⟩ := S.back (H' := H2) (W := W1) (W' := Z2) (t := .lst ((ds.filter p).map g)) (v := .ref D) (fp := D :: fp) hh zw wz zh nw V9 (.lst UT ra) (abA.mpr ⟨nD, nd⟩) (fun a ha => by
       rcases aau.mp ha with h | h
       . subst h; exact ⟨zD, hD⟩
       . exact own a h) (c.imp id fun c => by
         rw [gi]
         exact qU fun d hd => c d (abn.mp hd).1)
     exact ⟨Z', z', hh, S'⟩
end
section
variable {X : Cx} {CL : Str -> Addr} {b : Bx} {δ δ1 : List (Option T)} {scope : Scope} {xs : List Str} {Nc : List Str} {ix : List Nat} {elt iter tg : Expr} {ifs : List Expr} {pos : Pos} {ds : List D} {p : D -> Bool} {g : D -> T} {δc : List (Option T)} {parts : D -> Option (List D)}
theorem ua {J : It} {fp : List Addr} {it : Addr} {tn : Nat -> Heap -> Prop} {pins : List (Addr × Obj)} {σ : L2.St} {H H1 Z : Hp} {s : Shared} {ts : List T} {vs : List V} {RR : Value -> Addr -> Result -> Shared -> Prop} {E : Value -> Shared -> Prop}
   (sc : jI X scope xs Nc ix) (hc : X.calm = true) (C : vd X CL b δ1 σ ts vs Z H ds J H1) (I : L2.Inv X pins σ H1 s) (Tn : Turn X.prog X.w X.K tg J fp it tn) (st : tn 0 s.heap) (hf : ∀ b ∈ fp, fW X pins H1 b)
   (hb : (δc = tK δ1 ix /\ ∀ d ∈ ds, (g d).clean = true) \/ δc = yC δ1 ix) (inner : ou X CL scope Nc xs.length tg parts ifs elt δc ds p g) (hlen : ds.length <= sizeLine)
   (V5 : ∀ D C s' H' Z', (∃ m, s'.heap.Ns C m) -> (∃ o, s'.heap.get? C = some o /\ ∀ v, o.data ≠ .cell v) -> H' C = none -> (C ≠ X.env.locals /\ C ∉ X.fs /\ X.s₀.heap.objs.size <= C /\ (∀ y c, X.env.cells.lookup y = some c -> c ≠ C) /\ ∀ q ∈ X.pn ++ pins, q.1 ≠ C) -> (∀ h', Heap.SameBut C s'.heap h' -> L2.Inv X pins σ H' { s' with heap := h' }) -> aA Z Z' -> aA H H' -> bP X.K CL b H' Z' δ1 σ (.lst ((ds.filter p).map g) :: ts) (.ref D :: vs) -> RR (.ref D) C (.ok .next) s') :
   wpAny (model X.prog X.w) X.A (newList []) (fun acc s₃ => wpAny (model X.prog X.w) X.A (newFunctionEnv scope X.env.globals (bU X.env scope.names []) [] X.env.qual none .none (some X.env)) (fun E5 s₄ =>
     codeAny (model X.prog X.w) X.A (.compStart (.ListComp elt [⟨tg, iter, ifs, 0⟩] scope pos) 0 (.ref it) acc { E5 with scope := relabel scope X.env }) (RR acc E5.locals) s₄) E s₃) E s := by
 obtain ⟨Z1, z1, k1, S1, go, yl, Xx⟩ := C.ex
 have lp : ∀ D, H1 D = none -> ∃ W : Nat -> Nat -> Hp -> Prop, (∃ m, W 0 m (upd H1 D (.lst []))) /\ ∀ i m H2, W i m H2 -> (J.stop i H2 /\ ∃ Z2, aA Z1 Z2 /\ aA H1 H2 /\ bP X.K CL b H2 Z2 δ1 σ (.lst ((ds.filter p).map g) :: ts) (.ref D :: vs)) ∨
     (J.go i H2 /\ ∃ N : Hp -> Prop, (∀ H', N H' -> ∃ m', m' < m /\ W (i + 1) m' H') /\ ∀ xv H3, J.Mh i H2 xv H3 -> ∀ C s0 H0 f0 os, os.length = xs.length -> E4 (cF X scope Nc C s0 H0 f0) tg elt ifs xs.length σ ix D N xv os H3) := by
   rcases hb with ⟨e, cl⟩ | e
   . subst e
     exact q8 (W1 := H1) S1 S1.zh (.refl _) (fun _ _ q _ => q) (qW S1 ix) inner (fun i H2 s => go i H2 (S1.zh.trans s)) (fun i Z2 H2 y H' s => yl i Z2 H2 y H' (S1.zh.trans s)) (fun H2 s => Xx H2 (S1.zh.trans s)) hlen (.inr cl)
   . subst e
     exact q8 (W1 := Z1) S1 (.refl _) S1.zh S1.tp (yE S1 ix) inner go yl Xx hlen (.inl rfl)
 exact Av sc hc I Tn st hf lp fun D C s' H' m io nC ch ci ⟨Z', z', k', S'⟩ => V5 D C s' H' Z' m io nC ch ci (z1.trans z') (k1.trans k') S'
theorem pJ (sc : jI X scope xs Nc ix) {pins : List (Addr × Obj)} {σ : L2.St} {H : Hp} {s : Shared} (I : L2.Inv X pins σ H s) : closureFor scope X.env = pure (bU X.env scope.names []) :=
 gT fun y hy e => I.ok.has y.1 (sc.frees y hy e).2
theorem yP (sc : jI X scope xs Nc ix) (hc : X.calm = true) (h : Mz X CL b tg iter δ ds δ1) (hb : (δc = tK δ1 ix /\ ∀ d ∈ ds, (g d).clean = true) \/ δc = yC δ1 ix) (inner : ou X CL scope Nc xs.length tg parts ifs elt δc ds p g) (hlen : ds.length <= sizeLine)
   (hs : ∀ x, foldedSetIterable iter X.env x = pure x := by intro _; rfl) : bX X CL b (.ListComp elt [⟨tg, iter, ifs, 0⟩] scope pos) δ (.lst ((ds.filter p).map g)) δ1 := fun H Z σ ts vs Q S k pins s I => by
 obtain ⟨wi, pi, hw⟩ := h
 rw [eval_ListComp]
 refine wpAny_comprehension_free (use := none) rfl hs (pJ sc I) sc.kind sc.names ?_
 refine c9 (pi pins s σ H _ I (hw H Z σ ts vs (fun J H1 => vd X CL b δ1 σ ts vs Z H ds J H1) S fun J H1 C => C)) fun v s1 h1 => c9 h1 fun UE s2 ⟨it, fp, tn, J, H1, e, I1, Tn, st, hf, C⟩ => ?_
 subst e
 refine ua (RR := fun acc C => compPost (model X.prog X.w) X.A X.xe none (EP X pins σ Q) acc C) sc hc C I1 Tn st hf hb inner hlen fun D C' s' H' Z' m io nC ch ci z' k' S' => ?_
 obtain ⟨m, hn⟩ := m
 exact ⟨m, hn, fun h' SJ => ⟨.ref D, H', ci h' SJ, rfl, k _ H' Z' z' k' S'⟩⟩
theorem IQ {D : cC} {y : Str} {py SM : Pos} (i : Nat) (sc : jI X scope xs Nc ix) (hc : X.calm = true) (h : Mz X CL b tg iter δ ds δ1) (hb : (δc = tK δ1 ix /\ ∀ d ∈ ds, (g d).clean = true) \/ δc = yC δ1 ix) (inner : ou X CL scope Nc xs.length tg parts ifs elt δc ds p g) (hlen : ds.length <= sizeLine)
   (k : D.nx (δ1.set i (some (.lst ((ds.filter p).map g))))) (hl : i < δ1.length) (hN : X.N.Nodup) (hi : X.N[i]? = some y) (hx : Loc X.env.scope y) (Y4 : X.fn y = true \/ X.env.scope.names.lookup y = some .local)
   (C6 : swapsWith (.ListComp elt [⟨tg, iter, ifs, 0⟩] scope pos) (some (.Name y py)) SM.line X.env = pure true)
   (hs : ∀ x, foldedSetIterable iter X.env x = pure x := by intro _; rfl) : Mr X CL b (.Assign [.Name y py] (.ListComp elt [⟨tg, iter, ifs, 0⟩] scope pos) SM) δ D := fun H Z σ ts vs E S M pins s I => by
 obtain ⟨wi, pi, hw⟩ := h
 rw [exec_Assign_Name_used _ _ _ _ C6]
 refine aaC (wpAny_standAt (aaC ?_))
 show wpAny _ X.A (do let _ ← comprehension (.ListComp elt [⟨tg, iter, ifs, 0⟩] scope pos) scope X.env _ (newList []) false (eval iter X.env) (some (assign (.Name y py) X.env))) _ _ s
 refine aaC (abw (wpAny_comprehension_free (use := some (assign (.Name y py) X.env)) (Q := fun _ s' => SP X pins E .next s') rfl hs (pJ sc I) sc.kind sc.names ?_) (fun _ s' hq => aa4 (aa4 hq)) fun _ _ e => e)
 refine c9 (pi pins s σ H _ I (hw H Z σ ts vs (fun J H1 => vd X CL b δ1 σ ts vs Z H ds J H1) S fun J H1 C => C)) fun v s1 h1 => c9 h1 fun UE s2 ⟨it, fp, tn, J, H1, e, I1, Tn, st, hf, C⟩ => ?_
 subst e
 refine ua (RR := fun acc C => compPost (model X.prog X.w) X.A X.xe (some (assign (.Name y py) X.env)) (fun _ s' => SP X pins E .next s') acc C) sc hc C I1 Tn st hf hb inner hlen fun D' C' s' H' Z' m io nC ch ci z' k' S' => ?_
 obtain ⟨m, hn⟩ := m
 obtain ⟨o, ho, pB⟩ := io
 have I' : L2.Inv X pins σ H' s' := ci s'.heap (.refl ..)
 have I2 : L2.Inv X (pins ++ [(C', o)]) σ H' s' := I'.qa fun q hq => by
   rcases aaG.mp hq with z | z
   . exact I'.pin q (aao _ z)
   . have e : q = (C', o) := by simpa using z
     subst e
     exact ⟨ho, nC, ch.1, ch.2.1, pB⟩
 show wpAny _ X.A (assign (.Name y py) X.env (.ref D')) _ _ s'
 have hg : PG X (.Name y py) (pC i) := mC hN hi hx Y4
 refine c9 (hg _ s' σ H' (.ref D') (.ref D') (fun σ8 H8 => σ8 = σ.set i (some (.ref D')) /\ H8 = H') I2 rfl ⟨rfl, rfl⟩) fun _ s8 ⟨σ8, H8, I8, e8, Y5⟩ => ?_
 subst e8
 subst Y5
 obtain ⟨Y6, Y7, _⟩ := I8.pin (C', o) (aao _ (aao _ (by simp)))
 refine ⟨m, hn.at' fun o' e' => by rw [ho] at e'; cases e'; exact Y6, fun h' SJ => ?_⟩
 have I9 : L2.Inv X pins (σ.set i (some (.ref D'))) _ s8 := I8.qa fun q hq => I8.pin q (aao _ (aaJ _ hq))
 have Y8 := I9.turned (it := C') (h' := h') (t' := s8.toks) (fun b o hb e => (SJ.2 b hb).trans e) Y7 ch.1.symm.symm (.inr ch.2.2.1) ch.2.2.2.1 ch.2.2.2.2
 exact ⟨_, _, Y8, M.nx _ _ _ Z' z' (S'.set hl) k⟩
theorem O2 {D : cC} {eW : List Stmt} {i : Nat} {x : Str} {pos' pc : Pos} (gx : Gx X) (n : Ln X i x) (sc : jI X scope xs Nc ix) (h : Mz X CL b tg iter δ ds δ1)
   (hb : (δc = tK δ1 ix /\ ∀ d ∈ ds, (g d).clean = true) \/ δc = yC δ1 ix) (inner : ou X CL scope Nc xs.length tg parts ifs elt δc ds p g) (hlen : ds.length <= sizeLine) (k : d9 X CL b eW (δ1.set i (some (.lst ((ds.filter p).map g)))) D) (hl : i < δ1.length)
   (C6 : swapsWith (.ListComp elt [⟨tg, iter, ifs, 0⟩] scope pc) (some (.Name x pos')) pos.line X.env = pure true \/ swapsWith (.ListComp elt [⟨tg, iter, ifs, 0⟩] scope pc) (some (.Name x pos')) pos.line X.env = pure false) (hs : ∀ x, foldedSetIterable iter X.env x = pure x := by intro _; rfl) :
   d9 X CL b (.Assign [.Name x pos'] (.ListComp elt [⟨tg, iter, ifs, 0⟩] scope pc) pos :: eW) δ D := by
 rcases C6 with C6 | C6
 . exact dH (IQ i sc gx.calm h hb inner hlen k hl gx.nd n.hi n.loc n.hf C6 hs)
 . exact dH (EI i (yP sc gx.calm h hb inner hlen hs) k hl gx.nd n.hi n.loc C6 n.hf)
theorem O4 {i : Nat} {x : Str} {C : Addr} {s : Shared} {H : Hp} {fp : List Addr} (h1 : Nc[i]? = some x) (h2 : scope.names.lookup x = some .local) (hd : (x == ("__debug__" : Str)) = false := by decide) (gI : (x == ("__classdict__" : Str)) = false := by decide) : Ln (cF X scope Nc C s H fp) i x :=
 ⟨gA h1 h2 hd gI, .inl (lookup_relabel_local h2), .inr (lookup_relabel_local h2)⟩
end
def Xy (K : PySem.W.Frag) (a : Addr) : It :=
 ⟨fun i H => ∃ xs x, j5 K H a xs /\ xs[i]? = some x, fun i H x H' => ∃ T y, H T = none /\ x = .ref T /\ (∀ xs, j5 K H a xs -> xs[i]? = some y) /\ H' = upd H T (.tup [.int i, y]), fun i H => ∃ xs, j5 K H a xs /\ xs.length <= i⟩
theorem Df {P : Program} {w : World} {K : PySem.W.Frag} {elts : List Expr} {kk : Nat} {pt : Pos} (a e it : Addr) (uc : e ≠ it) : Turn P w K (.Tuple elts kk pt) (Xy K a) [e, it] e (fun i h => (∃ old, PySem.IsEnum h e it i old) /\ h.IsListIter it a i) where
 mem := by simp
 obj := fun i h st b hb => by
   obtain ⟨⟨old, he⟩, hit⟩ := st
   rcases aau.mp hb with z | z
   . subst z
     exact ⟨_, he, fun v z => by
       have z' : Data.fields _ = Data.cell v := z
       cases z'⟩
   . have z : b = it := by simpa using z
     subst z
     obtain ⟨o, e, c, d⟩ := hit
     exact ⟨o, e, fun v z => by rw [d] at z; cases z⟩
 keep := fun i h h' st k => by
   obtain ⟨⟨old, he⟩, hit⟩ := st
   exact ⟨⟨old, k e (by simp) _ he⟩, hit.at fun o q => k it (by simp) o q⟩
 item := by
   intro X hP hw hK hc i pins s σ H E I hf st hg
   subst hP hw hK
   obtain ⟨xs, x, hq, hx⟩ := hg
   obtain ⟨its, rv, p, hz⟩ := I.list hq
   obtain ⟨u, hu, ru⟩ := rv.get hx
   obtain ⟨⟨old, he⟩, hit⟩ := st
   have fe := hf e (by simp)
   have fi := hf it (by simp)
   have Wd : H s.heap.objs.size = none := I.cU.fresh (aas _)
   have fT := I.uM (aas s.heap.objs.size) Wd
   refine PySem.wpAny_pyNext_enum_item he hit p.isList (x := u) (by simpa using hu) uc fun h' ho Wf hT Ab hk => ⟨_, rfl, ?_⟩
   refine PySem.wpAny_letOwnedTupleGo_enum ho fun h2 Y9 CM => ?_
   replace CM : Heap.SameBut e h' h2 := CM
   have eT : e < s.heap.objs.size := aaE he
   have keep : ∀ b o, b ≠ e -> b ≠ it -> s.heap.get? b = some o -> h2.get? b = some o := fun b o h1 h3 q => (CM.2 b h1).trans (hk b o h1 h3 q)
   have Za : h2.get? s.heap.objs.size = some { cls := .type "tuple", data := .seq #[.int i s.toks, u] } := (CM.2 _ (Nat.ne_of_gt eT)).trans hT
   have nH : ∀ b o, H b = some o -> b ≠ e /\ b ≠ it /\ b ≠ s.heap.objs.size := fun b o q => ⟨fun z => (by rw [z, fe.1] at q; cases q), fun z => (by rw [z, fi.1] at q; cases q), fun z => (by rw [z, Wd] at q; cases q)⟩
   have I' : L2.Inv X pins σ (upd H s.heap.objs.size (.tup [.int i, x])) { s with heap := h2, toks := s.toks + 1 } := by
     refine I.step (g' := s.gens) (d' := s.drawn) (ch := [e, it, s.heap.objs.size]) (fun b hb => ?_) (fun b o _ _ hc q _ => ?_) (fun b o _ _ hc q _ => ⟨o.slots, ?_⟩) (fun b o hc q n => ?_) (fun b o hc q => ⟨o, ?_⟩) (fun b ys q => ?_) (fun b o u q => ?_) (fun b ps q => ⟨#[], ?_⟩) (fun m hm => ?_) (fun b o q => ?_) I.bare
     . rcases aau.mp hb with z | hb
       . subst z; exact ⟨fe.2.2.2.1, fe.2.1, fe.2.2.2.2.1, fe.2.2.2.2.2⟩
       . rcases aau.mp hb with z | hb
         . subst z; exact ⟨fi.2.2.2.1, fi.2.1, fi.2.2.2.2.1, fi.2.2.2.2.2⟩
         . have z : b = s.heap.objs.size := by simpa using hb
           subst z; exact ⟨fT.2.2.2.1, fT.2.1, fT.2.2.2.2.1, fT.2.2.2.2.2⟩
     . exact keep b o (fun z => hc (by simp [z])) (fun z => hc (by simp [z])) q
     . exact keep b o (fun z => hc (by simp [z])) (fun z => hc (by simp [z])) q
     . rw [au (fun z => hc (by simp [z]))]; exact n
     . exact keep b o (fun z => hc (by simp [z])) (fun z => hc (by simp [z])) q
     . rw [au (nH b _ q).2.2]; exact q
     . rw [au (nH b _ q).2.2]; exact q
     . rw [au (nH b _ q).2.2, q]; simp
     . obtain ⟨o, es, ep, ho, r⟩ := hm
       exact ⟨o, es, ep, keep _ o (Ne.symm fe.2.1) (Ne.symm fi.2.1) ho, r⟩
     . by_cases hb : b = s.heap.objs.size
       . subst hb
         rw [aL] at q
         cases q
         exact ⟨abp (cO (aat rfl)), [.int i s.toks, u], .cons ⟨s.toks, rfl⟩ (.cons ru .nil), ⟨_, Za, rfl, _, rfl⟩⟩
       . rw [au hb] at q
         refine (I.cU b o q).uH (fun c v hc z => keep c v ?_ ?_ z) (fun c z => by rw [au (nH c _ z).2.2]; exact z) (fun c ys z => by rw [au (nH c _ z).2.2]; exact z) fun c ys z => by rw [au (nH c _ z).2.2]; exact z
         . rcases hc with z | z
           . rw [z]; exact (nH b _ q).1
           . exact (nH c _ z).1
         . rcases hc with z | z
           . rw [z]; exact (nH b _ q).2.1
           . exact (nH c _ z).2.1
   have ei : ((i + 1 : Nat) : Int) = (i : Int) + 1 := by omega
   refine ⟨.ref s.heap.objs.size, _, I', rfl, ⟨_, x, Wd, rfl, fun ys hy => by rw [I.yh hy hq]; exact hx, rfl⟩, ⟨⟨u, by rw [ei]; exact Y9⟩, Wf.at fun o q => (CM.2 it (Ne.symm uc)).trans q⟩, fun b hb => ?_⟩
   have Zb := hf b hb
   obtain ⟨o, Hz, _⟩ : ∃ o, s.heap.get? b = some o /\ True := by
     rcases aau.mp hb with z | z
     . subst z; exact ⟨_, he, trivial⟩
     . have z : b = it := by simpa using z
       subst z
       obtain ⟨o, q, _⟩ := hit
       exact ⟨o, q, trivial⟩
   rw [au (aaV (aaE Hz))]
   exact Zb.1
 done := by
   intro X hP hw hK hc i pins s σ H E I hf st hg
   subst hP hw hK
   obtain ⟨xs, hq, hx⟩ := hg
   obtain ⟨its, rv, p, hz⟩ := I.list hq
   obtain ⟨⟨old, he⟩, hit⟩ := st
   obtain ⟨f0, f1, f2, f3, f4, f5⟩ := hf it (by simp)
   have hl := rv.length
   exact PySem.wpAny_pyNext_enum_end (I.ok.hd hc) he hit p.isList (by simp; omega) fun h' eb => ⟨rfl, I.turned (t' := s.toks) (fun b o hb e => eb b o hb e) f0 f1 f3 f4 f5⟩
 self := fun _ _ _ _ _ st h => by
   obtain ⟨⟨old, he⟩, _⟩ := st
   exact PySem.wpAny_pyIter_enum he h
section
variable {X : Cx} {elts : List Expr} {kk : Nat} {pt : Pos}
def SN (K : PySem.W.Frag) (ta : TA) : TI := fun σ H R => ta σ H fun vs H1 => ∃ a xs, vs = [.ref a] /\ j5 K H1 a xs /\ R (Xy K a) H1
theorem IU {a : Expr} {ta : TA} {p pos : Pos} (hg : Gl X "enumerate") (hm : X.mg "enumerate" = none) (ha : PA X [a] ta) (hs : starEach [a] X.env = (false, eval a X.env) :: starEach [] X.env) : PI X (.Tuple elts kk pt) (.Call (.Name "enumerate" p) [a] [] pos) (SN X.K ta) := by
 intro pins s σ H R I h
 refine Call_ (lR I hg hm boot_enumerate (abI (c9 (ha pos pins s σ H _ I h) fun us s1 ⟨vs, H1, I1, r1, q1⟩ => ?_) hs rfl))
 obtain ⟨l, xs, e, hq, q⟩ := q1
 subst e
 cases r1 with
 | cons r rr =>
   cases rr
   cases r
   obtain ⟨its, rv, p, hz⟩ := I1.list hq
   refine PySem.call_enumerate_list p.isList fun h' he hit Ab hk => ?_
   have I2 : L2.Inv X pins σ H1 { s1 with heap := h' } := I1.kept (t' := s1.toks) fun b o e => hk b o e
   refine PySem.wpAny_pyIter_enum he ?_
   refine ⟨s1.heap.objs.size + 1, [s1.heap.objs.size + 1, s1.heap.objs.size], _, _, H1, rfl, I2, Df l _ _ (Nat.succ_ne_self _), ⟨⟨_, he⟩, hit⟩, fun b hb => ?_, q⟩
   rcases aau.mp hb with z | z
   . subst z
     exact I1.uM (ab5 _) (I1.cU.fresh (ab5 _))
   . have z : b = s1.heap.objs.size := by simpa using z
     subst z
     exact I1.uM (aas _) (I1.cU.fresh (aas _))
end
def rg (ds : List D) : List D := (List.range ds.length).map fun (i : Nat) => .tup [.int i, ds.getD i .non]
theorem ow (ds : List D) : (rg ds).length = ds.length := by simp [rg]
theorem Dg {ds : List D} {i : Nat} {d : D} (h : ds[i]? = some d) : (rg ds)[i]? = some (.tup [.int i, d]) := by
 have hi : i < ds.length := (aaP.mp h).1
 unfold rg
 rw [aa0, abu hi]
 show some (D.tup [.int i, ds.getD i .non]) = _
 rw [aaw, h]
 rfl
section
variable {X : Cx} {CL : Str -> Addr} {b : Bx} {δ δ1 : List (Option T)} {e : Expr} {ds : List D} {elts : List Expr} {kk : Nat} {pt pr pc : Pos}
theorem IV (hm : X.mg "enumerate" = none) (h : bX X CL b e δ (.sh (.lst ds)) δ1) (hg : Gl X "enumerate") (hs : starEach [e] X.env = (false, eval e X.env) :: starEach [] X.env := by exact bN rfl) : Mz X CL b (.Tuple elts kk pt) (.Call (.Name "enumerate" pr) [e] [] pc) δ (rg ds) δ1 := by
 refine ⟨_, IU hg hm (cz dR eU hs) hs, fun H Z σ ts vs R S k => h H Z σ ts vs _ S fun v H1 Z1 z1 k1 S1 => ?_⟩
 obtain ⟨fp, gp, _, r, _, _⟩ := S1.rep
 cases r with
 | cons r _ =>
   cases r with
   | sh r =>
     cases r with
     | @lst a us _ hq rr =>
       have hl := rr.length
       refine ⟨a, us, rfl, S1.zh.seq hq, k _ _ ⟨Z1, z1, k1, S1.pop, fun i H2 s hi => ?_, fun i Z2 H2 x H' s1 s2 tp hi hy => ?_, fun H2 s => ?_⟩⟩
       . rw [ow] at hi
         have D6 : i < us.length := by rw [← hl]; exact hi
         exact ⟨us, us[i], s.seq hq, aaq D6⟩
       . rw [ow] at hi
         obtain ⟨T, y, hT, rfl, hx, rfl⟩ := hy
         obtain ⟨d, hd, rd⟩ := rr.EC (hx us ((s1.trans s2).seq hq))
         have gr : u9 Z2 H2 _ _ := u9.tup (xs := [.int i, y]) s2 tp hT
         exact ⟨_, _, Dg hd, gr, .tup (qJ.of aL) (.cons (.int _) (.cons ((rd.mono s1).mono gr.z) .nil))⟩
       . rw [ow]
         exact ⟨us, s.seq hq, by rw [← hl]; exact aas _⟩
end
section
variable {X : Cx}
theorem ve : bootBuiltins "sorted" = some (.builtin "sorted") := by decide +kernel
end
section
variable {X : Cx} {CL : Str -> Addr} {b : Bx} {δ δ1 : List (Option T)} {e : Expr} {pos pp : Pos}
theorem ud {K : PySem.W.Frag} {Z : Hp} : ∀ {l : List Int} {us : List V}, aC K CL Z (l.map D.int) us -> us = l.map V.int
 | [], _, .nil => rfl
 | _ :: _, _, .cons (.int _) r => by rw [ud r]; rfl
end
section
variable {X : Cx}
end
section
variable {X : Cx} {CL : Str -> Addr} {b : Bx} {δ δ1 : List (Option T)} {e : Expr} {pos pp : Pos}
end
section
variable {prog : Program} {w : World} {A : Around} {s : Shared}
end
section
variable {prog : Program} {w : World} {A : Around} {s : Shared}
end
section
variable {X : Cx}
end
section
variable {X : Cx} {CL : Str -> Addr} {b : Bx} {δ δ1 : List (Option T)} {e : Expr} {ds : List D} {pos pp pq pr : Pos}
end
theorem vf {α β : Type} {f : α -> β} {l : List α} {j : Nat} {d : β} (h : (l.map f)[j]? = some d) : ∃ x, d = f x /\ l[j]? = some x /\ x ∈ l /\ j < l.length /\ l.drop j = x :: l.drop (j + 1) /\ l.take (j + 1) = l.take j ++ [x] := by
 rw [aa0] at h
 cases hx : l[j]? with
 | none => rw [hx] at h; cases h
 | some x =>
   rw [hx] at h
   cases h
   have hj : j < l.length := (aaP.mp hx).1
   have e : l[j] = x := (aaP.mp hx).2
   exact ⟨x, rfl, rfl, aa5 hx, hj, by rw [List.drop_eq_getElem_cons hj, e], by rw [abr, hx]; rfl⟩
theorem O5 (n : Nat) {l : List Str} (h : ∀ x ∈ l, PyData.strOk x = true) : gW (n + 1) (.lst (l.map L3.D.str)) := .lst fun d hd => by
 obtain ⟨i, hi, rfl⟩ := aaW.mp hd
 exact .str _ _ (h i hi)
def D.Zc : L3.D -> L3.D
 | .tup (a :: _) => a
 | d => d
section
variable {X : Cx} {CL : Str -> Addr} {b : Bx} {δ δ1 : List (Option T)} {e : Expr} {elts : List Expr} {kk : Nat} {pt pr pc : Pos}
theorem Dh {α : Type} (f : α -> L3.D) (z : α) (l : List α) : rg (l.map f) = (List.range l.length).map fun (i : Nat) => L3.D.tup [.int i, f (l.getD i z)] := by
 unfold rg
 rw [aaz]
 apply abv
 intro i hi
 have hi : i < l.length := abk.mp hi
 have : (l.map f).getD i .non = f (l.getD i z) := by
   rw [aaw, aaw, aa0, aaq hi]
   rfl
 rw [this]
theorem E9 {α : Type} {f : α -> L3.D} {l : List α} (z : α) (hm : X.mg "enumerate" = none) (h : bX X CL b e δ (.sh (.lst (l.map f))) δ1) (hg : Gl X "enumerate") (hs : starEach [e] X.env = (false, eval e X.env) :: starEach [] X.env := by exact bN rfl) :
   Mz X CL b (.Tuple elts kk pt) (.Call (.Name "enumerate" pr) [e] [] pc) δ ((List.range l.length).map fun (i : Nat) => L3.D.tup [.int i, f (l.getD i z)]) δ1 := by
 have := IV (elts := elts) (kk := kk) (pt := pt) (pr := pr) (pc := pc) hm h hg hs
 rwa [Dh f z l] at this
end
section
variable {K : PySem.W.Frag} {CL : Str -> Addr} {b : Bx} {H H' Z Z' : Hp} {δ δ' : List (Option T)} {σ σ' : L2.St} {ts tl : List T} {vs us : List V} {t : T} {v : V}
end
section
variable {X : Cx} {CL : Str -> Addr} {b : Bx} {δ δ1 δ2 : List (Option T)} {e e2 : Expr} {t : T} {tl Iv tt Xm : List T} {D : cC} {pos pp pa pb : Pos}
end
section
variable {X : Cx} {CL : Str -> Addr} {b : Bx} {δ δ1 : List (Option T)} {e : Expr} {t : T} {i : Nat} {x : Str} {pos pp : Pos} {DD : cC} {eW : List Stmt}
end
section
variable {X : Cx}
end
section
variable {K : PySem.W.Frag} {CL : Str -> Addr} {b : Bx} {H Z : Hp} {δ : List (Option T)} {σ : L2.St} {ts tl : List T} {vs : List V} {t : T} {v : V}
end
section
variable {X : Cx} {CL : Str -> Addr} {b : Bx} {δ δ1 : List (Option T)} {e : Expr} {t : T} {tl Iv : List T} {D : cC} {pos pp pa pb pc : Pos} {kj i : Nat} {x : Str} {eW : List Stmt}
end
section
variable {X : Cx} {CL : Str -> Addr} {b : Bx} {δ δ1 : List (Option T)} {e : Expr} {pos pp : Pos}
end
section
variable {K : PySem.W.Frag} {CL : Str -> Addr} {b : Bx} {H Z : Hp} {δ : List (Option T)} {σ : L2.St} {ts tl Xz : List T} {vs : List V} {v : V}
end
section
variable {X : Cx} {CL : Str -> Addr} {b : Bx} {δ δ1 : List (Option T)} {e : Expr} {tl Iv Xz : List T} {D : cC} {pos pp pa pb : Pos} {i : Nat} {x : Str} {eW : List Stmt}
end
section
variable {X : Cx} {CL : Str -> Addr} {b : Bx} {e1 e2 : Expr} {δ δ1 δ2 : List (Option T)} {ds : List L3.D} {pos : Pos}
def SQ (K : PySem.W.Frag) : R2 := fun x y H Q => ∃ l k xs, x = .ref l /\ y = .int k /\ j5 K H l xs /\ -(2 ^ 63) <= k /\ k < 2 ^ 63 /\ xs.length * k.toNat <= sizeLine ∧
 ∀ p, H p = none -> Q (.ref p) (upd H p (.lst (List.replicate k.toNat xs).flatten))
theorem IW : n8 X (binaryOp .Mult) (SQ X.K) := by
 intro pins s σ H x y v u Q I rx ry h
 obtain ⟨l, k, xs, rfl, rfl, hH, h1, h2, hz, q⟩ := h
 cases rx
 obtain ⟨t, rfl⟩ := ry
 obtain ⟨its, r, pl, _⟩ := I.list hH
 have hl := r.length
 obtain ⟨⟨c1, dd, YL, sl⟩, e, hc, n, hd⟩ := pl.isList
 cases hc; cases hd
 have hlen : its.toArray.size * k.toNat <= sizeLine := by rw [aaO, ← hl]; exact hz
 have Wg : ¬ its.toArray.size * k.toNat > (2 ^ 63 - 1) / 8 := by
   have : (sizeLine : Nat) <= (2 ^ 63 - 1) / 8 := by decide
   omega
 have Wh : ¬ (!Builtin.List.listFitsIndex k) = true := by
   rw [fitsIndex_both h1 h2]
   exact aaB
 have SR : ¬ Builtin.List.listTooLong (its.toArray.size * k.toNat) = true := by
   rw [Ez hlen]
   exact aaB
 have Wi : List.foldl (fun x1 x2 => x1 ++ x2) #[] (List.replicate (if its.toArray.isEmpty = true then 0 else k.toNat) its.toArray) = (List.replicate k.toNat its).flatten.toArray := by
   have f0 : ∀ m : Nat, List.foldl (fun x1 x2 => x1 ++ x2) #[] (List.replicate m its.toArray) = (List.replicate m its).flatten.toArray := fun m => by
     have := foldl_rep its m []
     rw [ab8] at this
     exact this
   rw [f0]
   cases its with
   | nil => simp
   | cons a r' => rw [aap (by simp)]
 refine wpAny_binaryOp_repeat_ref (T := "list") (U := "int") (by decide) ⟨_, e, rfl⟩ (fun s' => typeIs_int s' k t) noFill_list_mul F.fills_int_mul F.slot_int_rmul repeat_list F.slot_int_index.lookup
   (call_meets F.slot_int_rmul (typeIs_int s k t) F.entry_int_rmul (F.args_int_rmul_2 _ _) (lm_int_rmul_list_any k t l its.toArray n dd sl)
     ⟨e, rfl, ⟨_, e, rfl⟩, call_meets F.slot_list_mul ⟨_, e, rfl⟩ F.entry_list_mul (F.args_list_mul_2 _ _) (lm_list_mul_any l its.toArray n dd sl k t Wh Wg SR) ⟨e, ?_⟩⟩)
 rw [Wi]
 exact ⟨.ref _, _, I.R8 (t' := s.toks) (r.rep k.toNat) (by rw [len_rep, Nat.mul_comm]; exact hz), rfl, q _ I.fresh⟩
theorem aC.rep {K : PySem.W.Frag} {Z : Hp} {ds : List L3.D} {vs : List V} (r : aC K CL Z ds vs) : ∀ k : Nat, aC K CL Z (List.replicate k ds).flatten (List.replicate k vs).flatten
 | 0 => .nil
 | k + 1 => by
   rw [abt, abt, abM, abM]
   exact aC.app r (aC.rep r k)
theorem BR {k : Int} (h1 : cA X CL b e1 δ (.lst ds) δ1) (h2 : cA X CL b e2 δ1 (.int k) δ2) (i1 : D.bO ds = true) (k1 : -(2 ^ 63) <= k) (k2 : k < 2 ^ 63) (hz : ds.length * k.toNat <= sizeLine) :
   bX X CL b (.BinOp e1 .Mult e2 pos) δ (.lst ((List.replicate k.toNat ds).flatten.map T.sh)) δ2 := fun H Z σ ts vs Q S kk =>
 cV (El IW dR dR) (h1 H Z σ ts vs _ S fun v1 H1 Z1 z1 q1 S1 r1 => h2 H1 Z1 σ ts vs _ S1 fun v2 H2 Z2 z2 q2 S2 r2 => by
   have Ol := r1.mono q2
   cases Ol with
   | lst V0 Rc =>
     cases r2 with
     | int =>
       refine ⟨_, _, _, rfl, rfl, V0, k1, k2, by rw [← Rc.length]; exact hz, fun p hp => ?_⟩
       have rc := aC.rep (aC.iP S2.tp i1 Rc) k.toNat
       obtain ⟨c, S4⟩ := (bP.qT rc S2).oh (g0 := []) (by rw [aaz, rc.length]) hp
       exact kk _ _ _ (z1.trans z2) (q1.trans (q2.trans c)) S4)
end
section
variable {X : Cx} {CL : Str -> Addr} {b : Bx} {δ : List (Option T)} {x : Str} {pos : Pos}
end
section
variable {X : Cx} {CL : Str -> Addr} {b : Bx} {e1 e2 e iter : Expr} {δ δ1 δ2 : List (Option T)} {pos : Pos}
end
section
variable {X : Cx} {CL : Str -> Addr} {b : Bx} {e : Expr} {δ δ1 δ2 δ3 : List (Option T)} {pos p2 : Pos}
def Wj : V -> Option Int -> Option Int -> Hp -> VK -> Prop := fun x lo hi H Q => ∃ z, x = .str z /\ z.length <= sizeLine /\ Q (.str (Txt.slice z lo hi)) H
theorem O6 : VC X Wj := by
 intro pins s σ H x v vl vu lo hi sl Q I rx hs pl pu h
 obtain ⟨z, rfl, hz, q⟩ := h
 obtain ⟨t, rfl⟩ := rx
 obtain ⟨o, ho, hc, hd⟩ := hs
 have fin : ∀ t' k, EP X pins σ Q (.str (Txt.slice z lo hi) t') { s with toks := k } := fun t' k => ⟨.str _, H, I.tok k, ⟨t', rfl⟩, q⟩
 refine ⟨"str", _, F.slot_str_getitem.lookup, typeIs_str _ _ _, ?_⟩
 cases pl with
 | none =>
   cases pu with
   | none => exact abR (l := none) (u := none) (st := none) ⟨o, ho, hc, hd⟩ rfl (post_val_or_str ⟨abb (Txt.slice_le z _ _) hz, fin⟩)
   | int j uj => exact abR (l := none) (u := some (j, uj)) (st := none) ⟨o, ho, hc, hd⟩ rfl (post_val_or_str ⟨abb (Txt.slice_le z _ _) hz, fin⟩)
 | int i ui =>
   cases pu with
   | none => exact abR (l := some (i, ui)) (u := none) (st := none) ⟨o, ho, hc, hd⟩ rfl (post_val_or_str ⟨abb (Txt.slice_le z _ _) hz, fin⟩)
   | int j uj => exact abR (l := some (i, ui)) (u := some (j, uj)) (st := none) ⟨o, ho, hc, hd⟩ rfl (post_val_or_str ⟨abb (Txt.slice_le z _ _) hz, fin⟩)
theorem Di {lo hi : Option Expr} {l h : Option Int} {z : Str} (h1 : cA X CL b e δ (.str z) δ1) (hz : z.length <= sizeLine) (h2 : Rb X CL b lo δ1 l δ2) (h3 : Rb X CL b hi δ2 h δ3) : bX X CL b (.Subscript e (.Slice lo hi none p2) pos) δ (.sh (.str (Txt.slice z l h))) δ3 := fun H Z σ ts vs Q S k => by
 obtain ⟨t2, VY, w2⟩ := h2
 obtain ⟨t3, VZ, w3⟩ := h3
 refine cV (yr O6 dR VY VZ) (h1 H Z σ ts vs _ S fun v H1 Z1 z1 k1 S1 r => w2 H1 Z1 σ ts vs _ S1 fun H2 Z2 z2 k2 S2 => w3 H2 Z2 σ ts vs _ S2 fun H3 Z3 z3 k3 S3 => ?_)
 exact ⟨z, r.sc rfl, hz, k _ H3 Z3 (z1.trans (z2.trans z3)) (k1.trans (k2.trans k3)) (S3.push (.str _))⟩
end
end L3
namespace L3
open PySem PySem.Spec PyProof.Rows L2 PySem.Builtin PySem.Builtin.Str
section
variable {X : Cx} {CL : Str -> Addr} {b : Bx} {e o : Expr} {δ δ1 δ2 : List (Option T)} {pos apos : Pos}
end
end L3
namespace L3
open PySem PySem.Spec PyProof.Rows L2
section
variable {X : Cx} {CL : Str -> Addr} {b : Bx} {δ : List (Option T)} {pos pp : Pos} {x : Str}
theorem c0 {k n : Nat} {A : Type} {arg : A -> List L3.D} {Pre : A -> Prop} {res : A -> T} (a : A) (F : Fc X CL x k n arg Pre res) (hg : Gl X x) (ha : arg a = []) (hp : Pre a) (hc : (res a).clean = true) (hn : (arg a).length = n := by rfl)
   (tE : (x == ("__debug__" : Str)) = false := by decide) : bX X CL b (.Call (.Name x pp) [] [] pos) δ (res a) δ := by
 obtain ⟨f, fd, ps, F1, m, kk, bb⟩ := F.ex
 intro H Z σ ts vs Q S k
 refine cV (Eu F1 F.room hg m kk bb .nil BE tE) ?_
 refine ⟨H, a, .refl _, fun _ _ q _ => q, by rw [ha]; exact .nil, hn, hp, S.C4, fun v H' W' fp hh ww wh nw tp rt nd own => ?_⟩
 obtain ⟨Z', z', S'⟩ := S.back hh S.zh ww wh nw tp rt nd own (.inr hc)
 exact k v H' Z' z' hh S'
end
section
variable {K : PySem.W.Frag} {CL : Str -> Addr} {b : Bx} {H Z : Hp} {δ : List (Option T)} {σ : L2.St} {ts tl : List T} {vs : List V} {t : T} {v : V} {d : D} {j4 : List (Key × D)} {gs : List (Key × V)}
end
section
variable {X : Cx} {CL : Str -> Addr} {b : Bx} {δ δ1 δ2 : List (Option T)} {e e1 e2 : Expr} {t : T} {d : L3.D} {D : cC} {pos pp ps : Pos} {i : Nat} {x : Str} {eW : List Stmt} {j4 : List (Key × L3.D)} {k : Key}
end
section
variable {K : PySem.W.Frag} {CL : Str -> Addr} {b : Bx} {H Z : Hp} {δ : List (Option T)} {σ : L2.St} {ts : List T} {vs : List V} {t : T} {v w : V} {f c : Str} {D8 : List (Str × T)}
theorem bS.IX {ft : List Addr} (rt : ck K CL H Z t v ft) : ∀ {yQ : List (Str × T)} {gs : List (Str × V)} {fp : List Addr}, bS K CL H Z (yQ ++ (f, .sh (.val v)) :: D8) gs fp -> ∃ BG, bS K CL H Z (yQ ++ (f, t) :: D8) gs BG /\ BG.Perm (fp ++ ft)
 | [], _, _, r => by
   cases r with
   | @cons _ _ v' _ _ f1 gp h r =>
     cases h with
     | sh h =>
       cases h
       exact ⟨ft ++ gp, .cons rt r, aa7⟩
 | (y, u) :: yQ, _, _, r => by
   cases r with
   | @cons _ _ v' _ _ f1 gp h r =>
     obtain ⟨BG, r', p⟩ := bS.IX rt (yQ := yQ) r
     refine ⟨f1 ++ BG, .cons h r', ?_⟩
     rw [aav]
     exact p.append_left f1
theorem bP.IX {yQ : List (Str × T)} (S : bP K CL b H Z δ σ (.ins c (yQ ++ (f, .sh (.val v)) :: D8) :: t :: ts) (w :: v :: vs)) : bP K CL b H Z δ σ (.ins c (yQ ++ (f, t) :: D8) :: ts) (w :: vs) := by
 obtain ⟨fp, gp, e, r, nd, k⟩ := S.rep
 cases r with
 | @cons _ _ _ _ g1 g2 r1 r2 =>
   cases r2 with
   | @cons _ _ _ _ g3 g4 r3 r4 =>
     cases r1 with
     | @ins a dx _ gs _ Zd ha rf =>
       obtain ⟨BG, Ze, p⟩ := bS.IX r3 rf
       have pm : (fp ++ ((a :: BG) ++ g4)).Perm (fp ++ ((a :: Zd) ++ (g3 ++ g4))) := by
         refine abf fp ?_
         rw [← aav]
         refine List.Perm.append_right g4 ?_
         rw [aaQ]
         exact List.Perm.cons a p
       exact ⟨⟨fp, (a :: BG) ++ g4, e, .cons (.ins ha Ze) r4, pm.nodup_iff.mpr nd, fun c hc => k c (pm.mem_iff.mp hc)⟩, S.bh, S.zz, S.zh, S.new, S.tp, S.tab⟩
end
def UX (X : Cx) (CL : Str -> Addr) (b : Bx) (es : List Expr) (δ : List (Option T)) (dv : V -> List D) (t : T) (δ' : List (Option T)) : Prop :=
 ∀ (H Z : Hp) (σ : L2.St) (ts : List T) (vs : List V) (Q : List V -> Hp -> Prop), bP X.K CL b H Z δ σ ts vs →
   (∀ us H' Z' v, aA Z Z' -> aA H H' -> bP X.K CL b H' Z' δ' σ (t :: ts) (v :: vs) -> aC X.K CL H' (dv v) us -> Q us H') -> ED X es σ H Q
theorem T.rj {f : Str} {v : V} {D8 : List (Str × T)} (h2 : T.aV D8 = true) : ∀ {yQ : List (Str × T)}, T.aV yQ = true -> T.aV (yQ ++ (f, .sh (.val v)) :: D8) = true
 | [], _ => by rw [ab8, T.aV, h2]; rfl
 | (x, t) :: yQ, h => by
   rw [T.aV, aa8] at h
   rw [aaQ, T.aV, h.1, T.rj h2 h.2]; rfl
section
variable {X : Cx} {CL : Str -> Addr} {b : Bx} {δ δ1 δ2 : List (Option T)} {e o : Expr} {es : List Expr} {pos pp apos : Pos} {t : T} {ds : List D} {d : D} {dv : V -> List D}
theorem Fb (h : bX X CL b e δ t δ1) (r : Mq X CL b es δ1 ds δ2) (hs : notStar e = true := by rfl) : UX X CL b (e :: es) δ (fun v => .val v :: ds) t δ2 := fun H Z σ ts vs Q S k =>
 C3 (cz dR Ii (bN hs)) (h H Z σ ts vs _ S fun v H1 Z1 z1 k1 S1 => r H1 Z1 σ _ _ _ S1 fun us H2 Z2 z2 k2 S2 r2 => k (v :: us) H2 Z2 v (z1.trans z2) (k1.trans k2) S2 (.cons (.val v) r2))
theorem yR (h : cA X CL b e δ d δ1) (r : UX X CL b es δ1 dv t δ2) (hs : notStar e = true := by rfl) : UX X CL b (e :: es) δ (fun v => d :: dv v) t δ2 := fun H Z σ ts vs Q S k =>
 C3 (cz dR Ii (bN hs)) (h H Z σ ts vs _ S fun v H1 Z1 z1 k1 S1 r1 => r H1 Z1 σ ts vs _ S1 fun us H2 Z2 v2 z2 k2 S2 r2 => k (v :: us) H2 Z2 v2 (z1.trans z2) (k1.trans k2) S2 (.cons (r1.mono k2) r2))
variable {A : Type} {k n : Nat} {arg : A -> List D} {Pre : A -> Prop} {x c m f : Str}
theorem Zf {res : A -> List (Str × T)} (a : V -> A) {yQ D8 : List (Str × T)} (F : Fm X CL x k n arg Pre res) (hg : Gl X x) (h : UX X CL b (e :: es) δ dv t δ1) (ha : ∀ v, arg (a v) = dv v) (hp : ∀ v, Pre (a v)) (hr : ∀ v, res (a v) = yQ ++ (f, .sh (.val v)) :: D8) (hc : T.aV yQ = true) (OO : T.aV D8 = true) (hn : ∀ v, (arg (a v)).length + 1 = n := by exact fun _ => rfl)
   (tE : (x == ("__debug__" : Str)) = false := by decide) (he : starEach (e :: es) X.env = (false, eval e X.env) :: starEach es X.env := by exact bN rfl) (tF : (backTo pos (starEach es X.env)).any (·.1) = false := by rfl) :
   bX X CL b (.Call (.Name x pp) (e :: es) [] pos) δ (.ins x (yQ ++ (f, t) :: D8)) δ1 := fun H Z σ ts vs Q S kk => by
 obtain ⟨f', fd, ps, M, F1, hm, hb⟩ := F.ex
 exact cV (BD M F1 F.room hg hm hb .nil BE Ii tE he tF) (h H Z σ ts vs _ S fun us H1 Z1 v z1 k1 S1 r y dx hx Sy ne => by
   rw [aa1]
   refine ⟨H1, H1, a v, y, dx, us, rfl, hx, Sy, ne, rfl, .refl _, fun _ _ q _ => q, by rw [ha]; exact r, hn v, hp v, S1.C4, fun H' W' fp hh ww wh nw tp rt nd own => ⟨rfl, ?_⟩⟩
   obtain ⟨Z', z', S'⟩ := S1.back hh S1.zh ww wh nw tp rt nd own (.inr (by rw [T.clean, hr]; exact T.rj OO hc))
   rw [hr] at S'
   exact kk _ H' Z' (z1.trans z') (k1.trans hh) S'.IX)
end
section
variable {X : Cx}
end
section
variable {X : Cx} {CL : Str -> Addr} {b : Bx} {δ δ1 : List (Option T)} {e : Expr} {pos pp : Pos} {l : List Bool}
end
namespace Rv
theorem Dj : PySem.Slot "reversed" "__init__" "object.__init__" :=
 .of (owner := "object") (n := "__init__") (by rw [typeLookup_type, builtinLookup_eq_fast]; kernel_rfl) (by decide +kernel) (by decide +kernel) (by decide +kernel)
   (by first | exact .inl (by decide +kernel) | exact .inr (by decide +kernel)) (by rw [isSubtype_type]; kernel_rfl)
theorem called : TypeCalled "reversed" "reversed.__new__" "object.__init__" :=
 ⟨by decide +kernel, by decide +kernel, ⟨_, _, PySem.F.mro_reversed⟩, PySem.F.made_reversed, by decide +kernel, PySem.F.sub_reversed_self, Dj⟩
def obj (t : Addr) (i : Int) : Obj := { cls := .type "reversed", data := .fields #[.ref t, rawInt i] }
section
variable {prog : Program} {w : World} {A : Around} {E : Value -> Shared -> Prop} {s : Shared}
end
end Rv
namespace Rv
section
variable {prog : Program} {w : World} {A : Around} {E : Value -> Shared -> Prop} {s : Shared}
end
end Rv
section
variable {X : Cx} {tg : Expr}
end
section
variable {X : Cx} {CL : Str -> Addr} {b : Bx} {δ δ1 : List (Option T)} {e : Expr} {ds : List D} {tg : Expr} {pr pc : Pos}
end
section
variable {X : Cx} {CL : Str -> Addr} {b : Bx} {δ δ1 : List (Option T)} {e : Expr} {t : T} {tl Iv tt Xm : List T} {D : cC} {pos pp pa pb : Pos}
variable {eW : List Stmt} {i i2 : Nat} {x y : Str} {DD : cC}
end
section
variable {X : Cx} {CL : Str -> Addr} {b : Bx} {δ δ1 : List (Option T)} {e : Expr} {ds : List D} {tg : Expr} {pr pc : Pos} {l : Bool}
end
section
variable {X : Cx} {CL : Str -> Addr} {b : Bx} {δ : List (Option T)}
end
section
variable {K : PySem.W.Frag} {CL : Str -> Addr} {b : Bx} {H Z : Hp} {δ : List (Option T)} {σ : L2.St} {ts tl : List T} {vs : List V} {ds : List D} {us : List V}
end
section
variable {X : Cx} {CL : Str -> Addr} {b : Bx} {δ δ1 : List (Option T)} {e : Expr} {tl Iv : List T} {ds : List L3.D} {D : cC} {pos pp pa pb : Pos} {i : Nat} {x : Str} {eW : List Stmt}
end
section
variable {X : Cx} {CL : Str -> Addr} {b : Bx} {δ δ1 δ2 δ3 : List (Option T)} {e e1 e2 : Expr} {ds D7 : List L3.D} {pos p2 : Pos}
end
section
variable {a₀ xs : Array Keyed} {ι : Nat -> Nat} {n : Nat}
structure Tag (a₀ xs : Array Keyed) (ι : Nat -> Nat) (n : Nat) : Prop where
 pl : ∀ k, k < a₀.size -> xs[k]? = a₀[ι k]?
 lo : ∀ k, k < n -> ι k < n
 hi : ∀ k, n <= k -> ι k = k
def jJ (xs : Array Keyed) (ι : Nat -> Nat) (n : Nat) : Prop := ∀ i j, i < j -> j < n -> PyProof.Rows.K xs i < PyProof.Rows.K xs j \/ (PyProof.Rows.K xs i = PyProof.Rows.K xs j /\ ι i < ι j)
def tM (xs : Array Keyed) (ι : Nat -> Nat) (n : Nat) : Prop := ∀ i j, i < j -> j < n -> PyProof.Rows.K xs j < PyProof.Rows.K xs i \/ (PyProof.Rows.K xs j = PyProof.Rows.K xs i /\ ι j < ι i)
theorem Tag.grow (h : Tag a₀ xs ι n) : Tag a₀ xs ι (n + 1) := ⟨h.pl, fun k hk => by
   by_cases e : k < n
   . have := h.lo k e
     omega
   . have := h.hi k (by omega)
     omega, fun k hk => h.hi k (by omega)⟩
theorem Tag.Wk (h : Tag a₀ xs ι n) {m : Nat} (hm : n <= m) : Tag a₀ xs ι m := ⟨h.pl, fun k hk => by
   by_cases e : k < n
   . have := h.lo k e
     omega
   . have := h.hi k (by omega)
     omega, fun k hk => h.hi k (by omega)⟩
def turned (ι : Nat -> Nat) (i j : Nat) : Nat -> Nat := fun k => if i <= k /\ k < j then ι (i + j - 1 - k) else ι k
theorem Tag.turn (h : Tag a₀ xs ι n) {i j : Nat} (hj : j <= n) (hn : n <= a₀.size) (hs : xs.size = a₀.size) : Tag a₀ (mirror xs i j ((j - i) / 2)) (turned ι i j) n := by
 refine ⟨fun k hk => ?_, fun k hk => ?_, fun k hk => ?_⟩
 . rw [getElem?_mirror_all (by omega)]
   unfold turned
   split
   . exact h.pl _ (by omega)
   . exact h.pl _ hk
 . unfold turned
   split
   . exact h.lo _ (by omega)
   . exact h.lo _ hk
 . unfold turned
   rw [aap (by omega)]
   exact h.hi k hk
def Dk (ι : Nat -> Nat) (k l : Nat) : Nat -> Nat := fun p => if p = l then ι k else if l < p /\ p <= k then ι (p - 1) else ι p
theorem Tag.sink (h : Tag a₀ xs ι n) {l : Nat} (hl : l <= n) (hn : n < a₀.size) (hs : xs.size = a₀.size) : Tag a₀ (bubble xs n (n - l)) (Dk ι n l) (n + 1) := by
 have hg := h.grow
 refine ⟨fun k hk => ?_, fun k hk => ?_, fun k hk => ?_⟩
 . rw [getElem?_bubble (by omega) (n - l) (by omega), show n - (n - l) = l by omega]
   unfold Dk
   split
   . exact h.pl _ (by omega)
   . split
     . exact h.pl _ (by omega)
     . exact h.pl _ hk
 . unfold Dk
   split
   . exact hg.lo _ (by omega)
   . split
     . exact hg.lo _ (by omega)
     . exact hg.lo _ hk
 . unfold Dk
   rw [aap (by omega), aap (by omega)]
   exact hg.hi k hk
theorem jJ.le (h : jJ xs ι n) {i j : Nat} (yS : i <= j) (hj : j < n) : PyProof.Rows.K xs i <= PyProof.Rows.K xs j := by
 by_cases e : i = j
 . subst e; exact Int.le_refl _
 . rcases h i j (by omega) hj with z | z <;> omega
end
section
variable {prog : Program} {w : World} {A : Around} {E : Value -> Shared -> Prop} {s : Shared} {a₀ : Array Keyed}
theorem yT {st : SortSt} {ι : Nat -> Nat} {a eB : Nat} {Q : AscSt -> SortSt -> Prop} (h0 : IntKeys a₀) (hn : eB <= a₀.size) (ha : 1 <= a) (Zg : a <= eB) (hB : SBase a₀ st)
   (ht : Tag a₀ (arrOf st) ι a) (hs : jJ (arrOf st) ι a)
   (h : ∀ n, a <= n -> n <= eB -> Tag a₀ (arrOf st) ι n -> jJ (arrOf st) ι n -> (n = eB \/ PyProof.Rows.K (arrOf st) n < PyProof.Rows.K (arrOf st) (n - 1)) -> Q (none, n) st) :
   wpS (model prog w) A E s (ascLoop a eB) Q st := by
 unfold ascLoop
 refine acd (I := fun x c z => z = st /\ c = (none, x) /\ Tag a₀ (arrOf st) ι x /\ jJ (arrOf st) ι x) ?one ?all ⟨rfl, rfl, ht, hs⟩
 case all =>
   rintro c z ⟨rfl, rfl, t, o⟩
   have e : max a eB = eB := by omega
   rw [e] at t o ⊢
   exact h eB Zg (aas _) t o (.inl rfl)
 case one =>
   rintro x c z Wm Zh ⟨rfl, rfl, t, o⟩
   dsimp only
   refine abd (wpS_ltK hB h0 (by omega) (by omega) ?_)
   by_cases hl : PyProof.Rows.K (arrOf z) x < PyProof.Rows.K (arrOf z) (x - 1)
   . simp only [hl, decide_true, abZ]
     exact abm (h x Wm (by omega) t o (.inr hl))
   . simp only [hl, decide_false, abg, abL]
     refine abm ⟨rfl, rfl, t.grow, fun i j yS hj => ?_⟩
     by_cases Zi : j < x
     . exact o i j yS Zi
     . have e : j = x := by omega
       subst e
       have q := o.le (i := i) (j := j - 1) (by omega) (by omega)
       have l1 := t.lo i yS
       have l2 := t.hi j (aas _)
       omega
theorem yU {st : SortSt} {ι : Nat -> Nat} {n eB : Nat} {Q : Option Nat -> SortSt -> Prop} (h0 : IntKeys a₀) (hn : eB <= a₀.size) (h1 : 1 <= n) (IY : n <= eB) (hB : SBase a₀ st)
   (ht : Tag a₀ (arrOf st) ι n) (hs : tM (arrOf st) ι n)
   (h : ∀ m z κ, SBase a₀ z -> 1 <= m -> m <= eB -> Tag a₀ (arrOf z) κ m -> jJ (arrOf z) κ m -> Q (some m) z) :
   wpS (model prog w) A E s (tail3 n eB) Q st := by
 unfold tail3
 have hz : n <= (arrOf st).size := by rw [hB.size]; omega
 have XA : SBase a₀ (setArr st (mirror (arrOf st) 0 n ((n - 0) / 2))) := hB.setArr (mirror_perm _ _ _ _)
 refine abd (wpS_reverse ?_)
 refine abd (yT (ι := turned ι 0 n) h0 hn h1 IY XA (ht.turn (aas _) (by omega) hB.size) ?_ fun m m1 m2 t o _ => abm (h m _ _ XA (by omega) m2 t o))
 intro i j yS hj
 show PyProof.Rows.K (mirror (arrOf st) 0 n ((n - 0) / 2)) i < PyProof.Rows.K (mirror (arrOf st) 0 n ((n - 0) / 2)) j \/ _
 rw [K_mirror hz, K_mirror hz, aar (by omega), aar (by omega)]
 unfold turned
 rw [aar (by omega), aar (by omega)]
 exact hs _ _ (by omega) (by omega)
structure pX (xs : Array Keyed) (ι : Nat -> Nat) (p x : Nat) : Prop where
 f : tM xs ι p
 l : ∀ i j, i < p -> p <= j -> j < x -> PyProof.Rows.K xs j < PyProof.Rows.K xs i
 e : ∀ i j, p <= i -> i < j -> j < x -> PyProof.Rows.K xs i = PyProof.Rows.K xs j /\ ι i < ι j
theorem pX.one {xs : Array Keyed} {ι : Nat -> Nat} {p : Nat} (h : pX xs ι p (p + 1)) : tM xs ι (p + 1) := fun i j yS hj => by
 by_cases e : j < p
 . exact h.f i j yS e
 . exact .inl (h.l i j (by omega) (by omega) hj)
theorem pX.turn {xs : Array Keyed} {ι : Nat -> Nat} {p x : Nat} (h : pX xs ι p x) (hx : x <= xs.size) : tM (mirror xs p x ((x - p) / 2)) (turned ι p x) x := by
 intro i j yS hj
 rw [K_mirror hx, K_mirror hx]
 unfold turned
 by_cases hi : p <= i
 . rw [aar (by omega), aar (by omega), aar (by omega), aar (by omega)]
   have q := h.e (p + x - 1 - j) (p + x - 1 - i) (by omega) (by omega) (by omega)
   exact .inr ⟨q.1, q.2⟩
 . rw [aap (show ¬ (p <= i /\ i < x) by omega), aap (show ¬ (p <= i /\ i < x) by omega)]
   by_cases hjp : p <= j
   . rw [aar (by omega), aar (by omega)]
     exact .inl (h.l _ _ (by omega) (by omega) (by omega))
   . rw [aap (by omega), aap (by omega)]
     exact h.f i j yS (by omega)
theorem tM.le {xs : Array Keyed} {ι : Nat -> Nat} {n : Nat} (h : tM xs ι n) {i j : Nat} (yS : i <= j) (hj : j < n) : PyProof.Rows.K xs j <= PyProof.Rows.K xs i := by
 by_cases e : i = j
 . subst e; exact Int.le_refl _
 . rcases h i j (by omega) hj with z | z <;> omega
theorem tM.half {xs : Array Keyed} {ι : Nat -> Nat} {x : Nat} (h : tM xs ι x) (hx : 0 < x) (hl : PyProof.Rows.K xs x < PyProof.Rows.K xs (x - 1)) : pX xs ι x (x + 1) :=
 ⟨h, fun i j hi h1 h2 => by
   have e : j = x := by omega
   subst e
   have := h.le (i := i) (j := j - 1) (by omega) (by omega)
   omega, fun i j h1 h2 h3 => by omega⟩
theorem Dl {st : SortSt} {ι : Nat -> Nat} {n eB : Nat} {Q : DescSt -> SortSt -> Prop} (h0 : IntKeys a₀) (hn : eB <= a₀.size) (IY : n + 1 <= eB) (hB : SBase a₀ st)
   (ht : Tag a₀ (arrOf st) ι (n + 1)) (hs : pX (arrOf st) ι n (n + 1))
   (h : ∀ m tu z κ, SBase a₀ z -> n + 1 <= m -> m <= eB -> tu + 1 <= m -> Tag a₀ (arrOf z) κ m -> pX (arrOf z) κ (m - (tu + 1)) m -> Q (none, m, tu) z) :
   wpS (model prog w) A E s (descLoop (n + 1) eB) Q st := by
 unfold descLoop
 refine acd (I := fun x c z => ∃ tu κ, c = (none, x, tu) /\ SBase a₀ z /\ tu + 1 <= x /\ Tag a₀ (arrOf z) κ x /\ pX (arrOf z) κ (x - (tu + 1)) x) ?one ?all ⟨0, ι, rfl, hB, by omega, ht, hs⟩
 case all =>
   rintro c z ⟨tu, κ, rfl, b2, q, t, o⟩
   have e : max (n + 1) eB = eB := by omega
   rw [e] at q t o ⊢
   exact h eB tu z κ b2 IY (aas _) q t o
 case one =>
   rintro x c z Wm Zh ⟨tu, κ, rfl, b2, q, t, o⟩
   dsimp only
   have hz : x <= (arrOf z).size := by rw [b2.size]; omega
   refine abd (wpS_ltK b2 h0 (by omega) (by omega) ?_)
   by_cases hl : PyProof.Rows.K (arrOf z) x < PyProof.Rows.K (arrOf z) (x - 1)
   . simp only [hl, decide_true, abZ]
     by_cases hq : tu > 0
     . rw [aar hq]
       have hm : ∀ k, PyProof.Rows.K (mirror (arrOf z) (x - (tu + 1)) x ((x - (x - (tu + 1))) / 2)) k = PyProof.Rows.K (arrOf z) k := K_mirror_equal hz fun k k1 k2 => by
         by_cases e : k = x - 1
         . rw [e]
         . exact (o.e k (x - 1) k1 (by omega) (by omega)).1
       refine abd (wpS_reverse (abm ⟨0, turned κ (x - (tu + 1)) x, rfl, b2.setArr (mirror_perm _ _ _ _), by omega, (t.turn (aas _) (by omega) b2.size).grow, ?_⟩))
       have hf := o.turn hz
       refine hf.half (by omega) ?_
       rw [hm, hm]
       exact hl
     . rw [aap hq]
       have e0 : tu = 0 := by omega
       subst e0
       obtain ⟨y, rfl⟩ : ∃ y, x = y + 1 := ⟨x - 1, by omega⟩
       have hf : tM (arrOf z) κ (y + 1) := pX.one o
       exact abm ⟨0, κ, rfl, b2, by omega, t.grow, hf.half (by omega) hl⟩
   . simp only [hl, decide_false, abg, abL]
     refine abd (wpS_ltK b2 h0 (by omega) (by omega) ?_)
     by_cases hg : PyProof.Rows.K (arrOf z) (x - 1) < PyProof.Rows.K (arrOf z) x
     . simp only [hg, decide_true, abZ]
       exact abm (h x tu z κ b2 Wm (by omega) q t o)
     . simp only [hg, decide_false, abg, abL]
       have he : PyProof.Rows.K (arrOf z) x = PyProof.Rows.K (arrOf z) (x - 1) := by omega
       refine abm ⟨tu + 1, κ, rfl, b2, by omega, t.grow, ?_⟩
       rw [show x + 1 - (tu + 1 + 1) = x - (tu + 1) by omega]
       refine ⟨o.f, fun i j hi h1 h2 => ?_, fun i j h1 h2 h3 => ?_⟩
       . by_cases e : j = x
         . rw [e, he]
           exact o.l i (x - 1) hi (by omega) (by omega)
         . exact o.l i j hi h1 (by omega)
       . by_cases e : j = x
         . subst e
           have l1 := t.lo i h2
           have l2 := t.hi j (aas _)
           refine ⟨?_, by omega⟩
           rw [he]
           by_cases e2 : i = j - 1
           . rw [e2]
           . exact (o.e i (j - 1) h1 (by omega) (by omega)).1
         . exact o.e i j h1 h2 (by omega)
theorem uf {st : SortSt} {ι : Nat -> Nat} {n eB : Nat} {Q : Option Nat -> SortSt -> Prop} (h0 : IntKeys a₀) (hn : eB <= a₀.size) (IY : n + 1 <= eB) (hB : SBase a₀ st)
   (ht : Tag a₀ (arrOf st) ι (n + 1)) (hs : pX (arrOf st) ι n (n + 1))
   (h : ∀ m z κ, SBase a₀ z -> 1 <= m -> m <= eB -> Tag a₀ (arrOf z) κ m -> jJ (arrOf z) κ m -> Q (some m) z) :
   wpS (model prog w) A E s (descPart n eB) Q st := by
 unfold descPart
 refine abd (wpS_lift (wpAny_rule ⟨rfl, ?_⟩))
 refine abd (Dl h0 hn IY hB ht hs fun m tu z κ b2 m1 m2 q t o => ?_)
 dsimp only
 have hz : m <= (arrOf z).size := by rw [b2.size]; omega
 by_cases hq : tu > 0
 . rw [aar hq]
   exact abd (wpS_reverse (yU h0 hn (by omega) m2 (b2.setArr (mirror_perm _ _ _ _)) (t.turn (aas _) (by omega) b2.size) (o.turn hz) h))
 . rw [aap hq]
   have e0 : tu = 0 := by omega
   subst e0
   obtain ⟨y, rfl⟩ : ∃ y, m = y + 1 := ⟨m - 1, by omega⟩
   exact yU h0 hn (by omega) m2 b2 t (pX.one o) h
theorem Fd {st : SortSt} {eB : Nat} {Q : Option Nat -> SortSt -> Prop} (h0 : IntKeys a₀) (hn : eB <= a₀.size) (h1 : 1 <= eB) (hB : SBase a₀ st) (ht : Tag a₀ (arrOf st) id 0)
   (h : ∀ m z κ, SBase a₀ z -> 1 <= m -> m <= eB -> Tag a₀ (arrOf z) κ m -> jJ (arrOf z) κ m -> Q (some m) z) :
   wpS (model prog w) A E s (countRun' 0 eB) Q st := by
 rw [countRun0_eq]
 refine abd (yT (ι := id) h0 hn (aas 1) h1 hB (ht.Wk (by omega)) (fun i j yS hj => by omega) fun n n1 n2 t o Zj => ?_)
 dsimp only
 by_cases IY : n = eB
 . rw [if_pos (by simpa using IY)]
   exact abm (h n st id hB n1 n2 t o)
 . rw [if_neg (by simpa using IY)]
   have mL := Zj.resolve_left IY
   have hz : n <= (arrOf st).size := by rw [hB.size]; omega
   by_cases XC : n > 1
   . rw [aar XC]
     refine abd (wpS_ltK hB h0 (by omega) (by omega) ?_)
     by_cases hr : PyProof.Rows.K (arrOf st) 0 < PyProof.Rows.K (arrOf st) (n - 1)
     . simp only [hr, decide_true, abZ]
       exact abm (h n st id hB n1 n2 t o)
     . simp only [hr, decide_false, abg, abL]
       have IZ : ∀ k, 0 <= k -> k < n -> PyProof.Rows.K (arrOf st) k = PyProof.Rows.K (arrOf st) (n - 1) := fun k _ hk => by
         have a1 := o.le (i := 0) (j := k) (by omega) hk
         have a2 := o.le (i := k) (j := n - 1) (by omega) (by omega)
         omega
       have hm := K_mirror_equal (i := 0) hz IZ
       refine abd (wpS_reverse (uf (ι := turned id 0 n) h0 hn (by omega) (hB.setArr (mirror_perm _ _ _ _)) (t.turn (aas _) (by omega) hB.size).grow ?_ h))
       have hh : pX (arrOf st) id 0 n := ⟨fun i j _ hj => by omega, fun i j hi => by omega, fun i j i1 i2 i3 => ⟨by rw [IZ i (by omega) (by omega), IZ j (by omega) i3], i2⟩⟩
       refine (hh.turn hz).half (by omega) ?_
       rw [hm, hm]
       exact mL
   . rw [aap XC]
     have e1 : n = 1 := by omega
     subst e1
     exact uf h0 hn (by omega) hB t.grow ((show tM (arrOf st) id 1 from fun i j yS hj => by omega).half (by omega) mL) h
theorem Fe {st : SortSt} {ι : Nat -> Nat} {n ok : Nat} {Q : Bool -> SortSt -> Prop} (h0 : IntKeys a₀) (hn : n <= a₀.size) (cU : ok <= n) (Wn : 1 <= ok) (hB : SBase a₀ st) (ht : Tag a₀ (arrOf st) ι ok) (hs : jJ (arrOf st) ι ok)
   (h : ∀ z κ, SBase a₀ z -> Tag a₀ (arrOf z) κ n -> jJ (arrOf z) κ n -> Q true z) : wpS (model prog w) A E s (binarySort' 0 n ok) Q st := by
 rw [binarySort'_eq]
 simp only [Nat.zero_add]
 refine abd (wpS_mono (acd (I := fun k c z => c = (none, ()) /\ SBase a₀ z /\ ∃ κ, Tag a₀ (arrOf z) κ k /\ jJ (arrOf z) κ k)
   (Q := fun c z => c = (none, ()) /\ SBase a₀ z /\ ∃ κ, Tag a₀ (arrOf z) κ n /\ jJ (arrOf z) κ n) ?one ?all ?new) ?post)
 case post =>
   rintro c z ⟨rfl, b2, κ, t, o⟩
   exact abm (h z κ b2 t o)
 case new =>
   rw [show max ok 1 = ok by omega]
   exact ⟨rfl, hB, ι, ht, hs⟩
 case all =>
   rintro c z ⟨hc, b2, κ, t, o⟩
   rw [show max (max ok 1) n = n by omega] at t o
   exact ⟨hc, b2, κ, t, o⟩
 case one =>
   rintro k c z MG hkn ⟨rfl, b2, κ, t, o⟩
   have hk : k < a₀.size := by omega
   refine abd (wpS_mono (acd (I := fun x c y => y = z /\ ∃ l r, c = (none, l, r) /\ l <= r /\ r <= k /\ r - l <= k - x /\ (∀ i, i < l -> PyProof.Rows.K (arrOf z) i <= PyProof.Rows.K (arrOf z) k) /\ (∀ i, r <= i -> i < k -> PyProof.Rows.K (arrOf z) k < PyProof.Rows.K (arrOf z) i))
     (Q := fun c y => y = z /\ ∃ l r, c = (none, l, r) /\ l <= k /\ (∀ i, i < l -> PyProof.Rows.K (arrOf z) i <= PyProof.Rows.K (arrOf z) k) /\ (∀ i, l <= i -> i < k -> PyProof.Rows.K (arrOf z) k < PyProof.Rows.K (arrOf z) i)) ?two ?fin ?beg) ?Wo)
   case beg => exact ⟨rfl, 0, k, rfl, by omega, by omega, by omega, fun i hi => by omega, fun i g1 g2 => by omega⟩
   case fin =>
     rintro c y ⟨rfl, l, r, rfl, g1, g2, g3, g4, g5⟩
     have e : l = r := by omega
     subst e
     exact ⟨rfl, l, l, rfl, g2, g4, g5⟩
   case two =>
     rintro x c y _ hxk ⟨rfl, l, r, rfl, g1, g2, g3, g4, g5⟩
     dsimp only
     by_cases O7 : l ≥ r
     . rw [aar O7]
       have e : l = r := by omega
       subst e
       exact abm ⟨rfl, l, l, rfl, g2, g4, g5⟩
     . rw [aap O7]
       refine abd (wpS_ltK b2 h0 hk (by omega) ?_)
       by_cases hl : PyProof.Rows.K (arrOf y) k < PyProof.Rows.K (arrOf y) ((l + r) / 2)
       . simp only [hl, decide_true, abZ]
         refine abm ⟨rfl, l, (l + r) / 2, rfl, by omega, by omega, by omega, g4, fun i i1 i2 => ?_⟩
         have := o.le i1 i2
         omega
       . simp only [hl, decide_false, abg, abL]
         refine abm ⟨rfl, (l + r) / 2 + 1, r, rfl, by omega, by omega, by omega, fun i i1 => ?_, g5⟩
         have := o.le (i := i) (j := (l + r) / 2) (by omega) (by omega)
         omega
   case Wo =>
     rintro c y ⟨rfl, l, r, rfl, g2, g4, g5⟩
     show wpS _ _ _ _ (do moveDown' k l; pure (ForInStep.yield (none, ()))) _ _
     rw [moveDown'_eq]
     have Wq : k < (arrOf y).size := by rw [b2.size]; exact hk
     refine abd (wpS_modify (abm ⟨rfl, b2.setArr (bubble_perm _ _ _), Dk κ k l, t.sink g2 hk b2.size, ?_⟩))
     intro i j yS hj
     show PyProof.Rows.K (bubble (arrOf y) k (k - l)) i < PyProof.Rows.K (bubble (arrOf y) k (k - l)) j \/ (PyProof.Rows.K (bubble (arrOf y) k (k - l)) i = PyProof.Rows.K (bubble (arrOf y) k (k - l)) j /\ _)
     rw [K_bubble Wq (by omega), K_bubble Wq (by omega), show k - (k - l) = l by omega]
     unfold Dk
     have tk := t.hi k (aas _)
     by_cases ei : i = l
     . rw [aar ei, aar ei, aap (show ¬ j = l by omega), aap (show ¬ j = l by omega), aar (by omega), aar (by omega)]
       exact .inl (g5 _ (by omega) (by omega))
     . rw [aap ei, aap ei]
       by_cases ej : j = l
       . rw [aar ej, aar ej, aap (by omega), aap (by omega)]
         have := g4 i (by omega)
         have := t.lo i (by omega)
         omega
       . rw [aap ej, aap ej]
         by_cases hi : l < i /\ i <= k
         . rw [aar hi, aar hi, aar (by omega), aar (by omega)]
           exact o _ _ (by omega) (by omega)
         . rw [aap hi, aap hi]
           by_cases UY : l < j /\ j <= k
           . rw [aar UY, aar UY]
             exact o _ _ (by omega) (by omega)
           . rw [aap UY, aap UY]
             exact o _ _ (by omega) (by omega)
def Ff (a₀ : Array Keyed) (st : SortSt) : Prop := failedOf st = none /\ pendingOf st = #[(0, a₀.size, 0)] /\ ∃ κ, Tag a₀ (arrOf st) κ a₀.size /\ jJ (arrOf st) κ a₀.size /\ (arrOf st).size = a₀.size
theorem MH {st : SortSt} {κ : Nat -> Nat} (hB : SBase a₀ st) (t : Tag a₀ (arrOf st) κ a₀.size) (o : jJ (arrOf st) κ a₀.size) : Ff a₀ (setPending st ((pendingOf st).push (0, a₀.size, 0))) :=
 ⟨hB.failed, by show (pendingOf st).push _ = _; rw [hB.pend]; rfl, κ, t, o, hB.size⟩
theorem Dm {st : SortSt} {Q : Unit -> SortSt -> Prop} (h0 : IntKeys a₀) (hB : SBase a₀ st) (ht : Tag a₀ (arrOf st) id 0) (h2 : 2 <= a₀.size) (MJ : a₀.size < 64)
   (h : ∀ z κ, failedOf z = none -> Tag a₀ (arrOf z) κ a₀.size -> jJ (arrOf z) κ a₀.size -> (arrOf z).size = a₀.size -> Q () z) : wpS (model prog w) A E s sortRuns' Q st := by
 rw [sortRuns'_eq]
 refine abd (wpS_get ?_)
 dsimp only
 have Zk : minRun' a₀.size a₀.size 0 = a₀.size := by
   obtain ⟨f, hf⟩ : ∃ f, a₀.size = f + 1 := ⟨a₀.size - 1, by omega⟩
   have q : minRun' (f + 1) a₀.size 0 = a₀.size := by
     rw [minRun'_succ, aar MJ]
     rfl
   rwa [← hf] at q
 simp only [hB.size, Zk]
 refine abd (wpS_mono (acd (I := fun x c z => (x = 0 /\ c = (none, 0) /\ SBase a₀ z /\ Tag a₀ (arrOf z) id 0) \/ (1 <= x /\ c = (none, a₀.size) /\ Ff a₀ z))
   (Q := fun c z => c = (none, a₀.size) /\ Ff a₀ z) ?one ?all (.inl ⟨rfl, rfl, hB, ht⟩)) ?Wo)
 case all =>
   rintro c z (⟨hx, _⟩ | ⟨_, hc, hD⟩)
   . omega
   . exact ⟨hc, hD⟩
 case one =>
   rintro x c z _ hx (⟨rfl, rfl, b2, t0⟩ | ⟨hx1, rfl, hD⟩)
   . dsimp only
     rw [aap (by omega)]
     simp only [Nat.sub_zero, Nat.min_self, Nat.zero_add]
     refine abd (Fd h0 (aas _) (by omega) b2 t0 fun m z2 κ b3 m1 m2 t o => ?_)
     dsimp only
     by_cases hl : m < a₀.size
     . rw [aar hl]
       refine abd (wpS_lift (wpAny_rule ⟨rfl, ?_⟩))
       refine abd (Fe h0 (aas _) m2 m1 b3 t o fun z3 κ3 b4 t4 o4 => ?_)
       simp only [Bool.not_true, abg, abL]
       refine abd (wpS_get ?_)
       have hb : (pendingOf z3).back? = none := by rw [b4.pend]; rfl
       rw [hb]
       dsimp only
       exact abd (wpS_modify (abm (.inr ⟨by omega, rfl, MH b4 t4 o4⟩)))
     . rw [aap hl]
       have hm : m = a₀.size := by omega
       subst hm
       refine abd (wpS_get ?_)
       have hb : (pendingOf z2).back? = none := by rw [b3.pend]; rfl
       rw [hb]
       dsimp only
       exact abd (wpS_modify (abm (.inr ⟨by omega, rfl, MH b3 t o⟩)))
   . dsimp only
     rw [aar (aas _)]
     exact abm ⟨rfl, hD⟩
 case Wo =>
   rintro c z ⟨rfl, hD⟩
   dsimp only
   refine abd (wpS_mono (acd (I := fun _ c y => y = z /\ c = (none, ())) (Q := fun c y => y = z /\ c = (none, ())) ?_ (fun _ _ q => q) ⟨rfl, rfl⟩) ?_)
   . rintro x c y _ _ ⟨rfl, rfl⟩
     refine abd (wpS_get ?_)
     rw [aar (by rw [hD.2.1]; exact aas 1)]
     exact abm ⟨rfl, rfl⟩
   . rintro c y ⟨rfl, rfl⟩
     obtain ⟨κ, t, o, z1⟩ := hD.2.2
     exact abm (h _ κ hD.1 t o z1)
end
section
variable {X : Cx}
end
section
variable {X : Cx} {CL : Str -> Addr} {b : Bx} {δ δ1 : List (Option T)} {e : Expr} {pos pp p1 p2 : Pos} {kj : Nat}
end
section
variable {X : Cx} {i : Nat} {x : Str}
theorem Zm (hi : X.N[i]? = some x) (h : X.env.scope.names.lookup x = some .local) (hf : X.fn x = true) (hd : (x == ("__debug__" : Str)) = false := by decide) (hc : (x == ("__classdict__" : Str)) = false := by decide) : Ln X i x := ⟨⟨hi, .inl h, hd, hc⟩, .inl h, .inl hf⟩
theorem Zn (hi : X.N[i]? = some x) (h : X.env.scope.names.lookup x = some .cell) (hf : X.fn x = true) (hd : (x == ("__debug__" : Str)) = false := by decide) (hc : (x == ("__classdict__" : Str)) = false := by decide) : Ln X i x := ⟨⟨hi, .inr (.inl h), hd, hc⟩, .inr h, .inl hf⟩
end
theorem c7 {P : Program} {w : World} {K : PySem.W.Frag} {mg : Str -> Option Value} {base : Heap} {k : Nat} {f : Addr} {fd : FuncData} {ps : List Str} {sp : Sp} {x : Str} (G : bR P w K mg base fQ k f fd ps sp) (m : mg x = some (.ref f)) (q : PySem.W.keepIn K (.ref f) = true) (b : Binds K fd ps []) :
   ∃ f fd ps, bR P w K mg base fQ k f fd ps sp /\ mg x = some (.ref f) /\ PySem.W.keepIn K (.ref f) = true /\ Binds K fd ps [] := ⟨_, _, _, G, m, q, b⟩
section
variable {X : Cx} {CL : Str -> Addr} {b : Bx} {δ δ1 δc : List (Option T)} {scope : Scope} {y : Str} {Nc : List Str} {ix : List Nat} {elt iter : Expr} {ifs : List Expr} {px pc pos : Pos} {p : L3.D -> Bool} {g : L3.D -> T} {ds : List L3.D}
theorem SV (sc : eK X scope y Nc ix) : jI X scope [y] Nc ix := ⟨sc.kind, sc.oi, sc.nd, sc.names, (fun x hx => by rw [aaU] at hx; subst hx; exact sc.own), sc.frees, sc.hd, sc.Mx⟩
theorem SW (sc : eK X scope y Nc ix) (h : Block X CL scope Nc ifs elt δc ds p g) (h1 : (y == ("__debug__" : Str)) = false) (h2 : (y == ("__classdict__" : Str)) = false) : ou X CL scope Nc [y].length (.Name y px) part1 ifs elt δc ds p g := fun C s0 H0 f0 b' =>
 ⟨E2 (i := 0) sc.nd (O4 (by rw [sc.hd]; rfl) sc.own h1 h2), fun d hd => ⟨[d], rfl, rfl, (h C s0 H0 f0 b' d hd).1, (h C s0 H0 f0 b' d hd).2⟩⟩
theorem I0 (sc : eK X scope y Nc ix) (hc : X.calm = true) (h : Iw X CL b (.Name y px) iter δ ds δ1) (hb : (δc = tK δ1 ix /\ ∀ d ∈ ds, (g d).clean = true) \/ δc = yC δ1 ix) (inner : Block X CL scope Nc ifs elt δc ds p g) (hlen : ds.length <= sizeLine)
   (hs : ∀ x, foldedSetIterable iter X.env x = pure x := by intro _; rfl) (h1 : (y == ("__debug__" : Str)) = false := by decide) (h2 : (y == ("__classdict__" : Str)) = false := by decide) : bX X CL b (.ListComp elt [⟨.Name y px, iter, ifs, 0⟩] scope pos) δ (.lst ((ds.filter p).map g)) δ1 :=
 yP (xs := [y]) (SV sc) hc (MA h) hb (SW sc inner h1 h2) hlen hs
theorem rq {D : cC} {eW : List Stmt} {i : Nat} {x : Str} {pos' : Pos} {gg : L3.D -> T} (g : Gx X) (n : Ln X i x) (sc : eK X scope y Nc ix) (h : Iw X CL b (.Name y px) iter δ ds δ1) (hb : (δc = tK δ1 ix /\ ∀ d ∈ ds, (gg d).clean = true) \/ δc = yC δ1 ix) (inner : Block X CL scope Nc ifs elt δc ds p gg)
   (hlen : ds.length <= sizeLine) (k : d9 X CL b eW (δ1.set i (some (.lst ((ds.filter p).map gg)))) D) (hl : i < δ1.length)
   (C6 : swapsWith (.ListComp elt [⟨.Name y px, iter, ifs, 0⟩] scope pc) (some (.Name x pos')) pos.line X.env = pure true \/ swapsWith (.ListComp elt [⟨.Name y px, iter, ifs, 0⟩] scope pc) (some (.Name x pos')) pos.line X.env = pure false) (hs : ∀ x, foldedSetIterable iter X.env x = pure x := by intro _; rfl)
   (h1 : (y == ("__debug__" : Str)) = false := by decide) (h2 : (y == ("__classdict__" : Str)) = false := by decide) : d9 X CL b (.Assign [.Name x pos'] (.ListComp elt [⟨.Name y px, iter, ifs, 0⟩] scope pc) pos :: eW) δ D :=
 O2 (xs := [y]) g n (SV sc) (MA h) hb (SW sc inner h1 h2) hlen k hl C6 hs
end
section
variable {X : Cx} {CL : Str -> Addr} {b : Bx} {δ : List (Option T)} {i : Nat} {x : Str} {d : L3.D} {pos : Pos}
theorem aJ (n : Ln X i x) (h : δ[i]? = some (some (.sh d)) := by rfl) : cA X CL b (.Name x pos) δ d δ := ah (v_ n.1 h)
end
structure cN (X : Cx) : Prop where
 g : Gx X
 u : X.A.units + 64 < cLine
abbrev aE (X : Cx) (CL : Str -> Addr) (b : Bx) (st : Stmt) (N : List Str) (l : List L3.D) (r : T) : Prop := d9 X CL b (eF st) (entry N l) { nx := fun _ => r = .sh .non, rt := fun Fg _ => Fg = r }
abbrev aB : NameKind := .globalImplicit
abbrev av : NameKind := .local
theorem aW {N P : List Str} {sc : Scope} (h1 : sc.kind = .function := by rfl) (h2 : sc.isCoroutine = false := by rfl) (h3 : sc.isGenerator = false := by rfl) (h4 : N.Nodup := by decide +kernel) (h5 : N.take P.length = P := by rfl) (h6 : ∀ x ∈ P, sc.names.lookup x = some .local \/ sc.names.lookup x = some .cell := by decide +kernel) (h7 : ∀ y ∈ sc.names, y.2 ≠ .free := by decide +kernel) : aP N P sc := ⟨h1, h2, h3, h4, h5, h6, h7⟩
section
variable {X : Cx} {i : Nat} {x : Str} {tb : List (Str × NameKind)}
theorem bE (c : lB X.env.scope tb = true) (j : Nat) (hj : tb[j]? = some (x, .local) := by rfl) (hi : X.N[i]? = some x := by rfl) (hf : X.fn x = true := by rfl) (hd : (x == ("__debug__" : Str)) = false := by decide) (hc : (x == ("__classdict__" : Str)) = false := by decide) : Ln X i x := Zm hi (cX c j hj) hf hd hc
theorem D9 (c : lB X.env.scope tb = true) (j : Nat) (hj : tb[j]? = some (x, .cell) := by rfl) (hi : X.N[i]? = some x := by rfl) (hf : X.fn x = true := by rfl) (hd : (x == ("__debug__" : Str)) = false := by decide) (hc : (x == ("__classdict__" : Str)) = false := by decide) : Ln X i x := Zn hi (cX c j hj) hf hd hc
theorem dX (c : lB X.env.scope tb = true) (j : Nat) (hj : tb[j]? = some (x, .globalImplicit) := by rfl) : Gl X x := cX c j hj
theorem d7 {CL : Str -> Addr} {k n m : Nat} {A : Type} {arg : A -> List D} {Pre : A -> Prop} {res : A -> T} (F : ∃ f fd ps, bR X.prog X.w X.K X.mg X.base fQ k f fd ps (lF X.K CL n arg Pre res) /\ X.mg x = some (.ref f) /\ PySem.W.keepIn X.K (.ref f) = true /\ Binds X.K fd ps []) (r : dF m X.A) (h : k <= m := by decide) : Fc X CL x k n arg Pre res := ⟨F, r.mono h⟩
end
section
variable {K : PySem.W.Frag} {CL : Str -> Addr} {b : Bx} {H H' Z Z' : Hp} {δ δ' : List (Option T)} {σ σ' : L2.St} {ts tl : List T} {vs us : List V} {t : T} {v : V} {y : Addr} {i : Nat}
end
section
variable {K : PySem.W.Frag} {CL : Str -> Addr} {b : Bx} {H Z : Hp} {σ : L2.St} {ts : List T} {vs : List V}
end
section
variable {X : Cx} {CL : Str -> Addr} {b : Bx} {δ δ1 δ2 : List (Option T)} {e : Expr} {es : List Expr} {t : T} {d : L3.D} {pos pp : Pos} {D : cC} {i : Nat} {x : Str} {is : List Nat} {fx : List Addr -> Prop} {al : List Addr -> List T} {y : Addr}
variable {eW : List Stmt}
end
section
variable {X : Cx} {CL : Str -> Addr} {b : Bx} {δ δ1 δ2 : List (Option T)} {e e2 : Expr} {t : T} {tl Iv Xz : List T} {D : cC} {pos pp pa pb : Pos} {y : Addr} {eW : List Stmt}
section
variable {i : Nat} {x : Str}
end
end
def iU {α : Type} (g : α -> Int) (x : α) : List α -> List α
 | [] => [x]
 | y :: l => if g x <= g y then x :: y :: l else y :: iU g x l
def dY {α : Type} (g : α -> Int) : List α -> List α
 | [] => []
 | x :: l => iU g x (dY g l)
section
variable {α β : Type} {g : α -> Int}
theorem oz (x : α) : ∀ l, (iU g x l).Perm (x :: l)
 | [] => .refl _
 | y :: l => by
   rw [iU]
   split
   . exact .refl _
   . exact ((oz x l).cons y).trans (.swap x y l)
theorem lV : ∀ l : List α, (dY g l).Perm l
 | [] => .refl _
 | x :: l => (oz x (dY g l)).trans ((lV l).cons x)
theorem oA {l : List α} {x : α} : x ∈ dY g l ↔ x ∈ l := (lV l).mem_iff
theorem iC (l : List α) : (dY g l).length = l.length := (lV l).length_eq
theorem yV (f : β -> α) (x : β) : ∀ l, iU g (f x) (l.map f) = (iU (fun y => g (f y)) x l).map f
 | [] => rfl
 | y :: l => by
   rw [aa3, iU, iU]
   split
   . rfl
   . rw [aa3, yV f x l]
theorem iD (f : β -> α) : ∀ l : List β, dY g (l.map f) = (dY (fun y => g (f y)) l).map f
 | [] => rfl
 | x :: l => by rw [aa3, dY, dY, iD f l, yV]
def Ax (g : Nat -> Int) (i j : Nat) : Prop := g i < g j \/ (g i = g j /\ i < j)
theorem Ax.trans {g : Nat -> Int} {i j k : Nat} (a : Ax g i j) (b : Ax g j k) : Ax g i k := by
 unfold Ax at *; omega
theorem Ax.XD {g : Nat -> Int} {i : Nat} (a : Ax g i i) : False := by unfold Ax at a; omega
theorem yW {g : Nat -> Int} {x : Nat} : ∀ {l : List Nat}, l.Pairwise (Ax g) -> (∀ y ∈ l, x < y) -> (iU g x l).Pairwise (Ax g)
 | [], _, _ => List.pairwise_singleton _ _
 | y :: l, h, hx => by
   obtain ⟨h1, h2⟩ := abz.mp h
   rw [iU]
   split
   . rename_i e
     refine abz.mpr ⟨fun z hz => ?_, h⟩
     have a1 : Ax g x y := by have := hx y aax; unfold Ax; omega
     rcases aau.mp hz with rfl | hz
     . exact a1
     . exact a1.trans (h1 z hz)
   . rename_i e
     refine abz.mpr ⟨fun z hz => ?_, yW h2 fun z hz => hx z (aay _ hz)⟩
     rcases aau.mp ((oz x l).mem_iff.mp hz) with rfl | hz
     . left; omega
     . exact h1 z hz
theorem ug {g : Nat -> Int} : ∀ {l : List Nat}, l.Pairwise (· < ·) -> (dY g l).Pairwise (Ax g)
 | [], _ => .nil
 | x :: l, h => by
   obtain ⟨h1, h2⟩ := abz.mp h
   exact yW (ug h2) fun y hy => h1 y (oA.mp hy)
theorem vg {g : Nat -> Int} : ∀ {S A : List Nat}, S.Pairwise (Ax g) -> A.Pairwise (Ax g) -> (∀ a ∈ A, a ∈ S) -> A.length <= S.length /\ (A.length = S.length -> A = S)
 | [], A, _, _, h => by
   cases A with
   | nil => exact ⟨aas _, fun _ => rfl⟩
   | cons a A => exact absurd (h a aax) (by simp)
 | s :: S, [], _, _, _ => ⟨aaY _, fun e => by simp at e⟩
 | s :: S, a :: A, hS, hA, h => by
   obtain ⟨s1, s2⟩ := abz.mp hS
   obtain ⟨a1, a2⟩ := abz.mp hA
   by_cases e : a = s
   . subst e
     have q := vg s2 a2 fun z hz => (aau.mp (h z (aay _ hz))).resolve_left fun e => by subst e; exact (a1 _ hz).XD
     refine ⟨by simpa using q.1, fun e => by rw [q.2 (by simpa using e)]⟩
   . have ha : a ∈ S := (aau.mp (h a aax)).resolve_left e
     have q := vg (A := a :: A) s2 hA fun z hz => by
       rcases aau.mp hz with rfl | hz
       . exact ha
       . refine (aau.mp (h z (aay _ hz))).resolve_left fun e2 => ?_
         subst e2
         exact ((s1 a ha).trans (a1 _ hz)).XD
     exact ⟨by have := q.1; simp at this ⊢; omega, fun e3 => by have := q.1; simp at this e3; omega⟩
theorem Fi {l r : List α} {κ : Nat -> Nat} (hn : r.length = l.length) (pl : ∀ k, k < l.length -> r[k]? = l[κ k]?) (lo : ∀ k, k < l.length -> κ k < l.length)
   (st : ∀ i j x y, i < j -> r[i]? = some x -> r[j]? = some y -> g x < g y \/ (g x = g y /\ κ i < κ j)) : r = dY g l := by
 cases l with
 | nil => cases r with
   | nil => rfl
   | cons a r => simp at hn
 | cons d l0 =>
   generalize hl : d :: l0 = l at *
   let f : Nat -> α := fun i => (l[i]?).getD d
   have hf : ∀ i, i < l.length -> l[i]? = some (f i) := fun i hi => by
     show _ = some ((l[i]?).getD d)
     rw [aaq hi]; rfl
   have el : l = (List.range l.length).map f := abN fun i => by
     rw [aa0]
     by_cases hi : i < l.length
     . rw [hf i hi, abu hi]; rfl
     . rw [List.getElem?_eq_none (by omega), List.getElem?_eq_none (by simpa using hi)]; rfl
   have er : r = ((List.range l.length).map κ).map f := abN fun i => by
     rw [aa0, aa0]
     by_cases hi : i < l.length
     . rw [pl i hi, hf _ (lo i hi), abu hi]; rfl
     . rw [List.getElem?_eq_none (by omega), List.getElem?_eq_none (by simpa using hi)]; rfl
   have gr : ∀ k, k < l.length -> r[k]? = some (f (κ k)) := fun k hk => (pl k hk).trans (hf _ (lo k hk))
   have eA : (List.range l.length).map κ = dY (fun i => g (f i)) (List.range l.length) := by
     refine (vg (ug (List.pairwise_lt_range)) (List.pairwise_map.mpr ?_) fun a ha => ?_).2 ?_
     . refine List.Pairwise.imp_of_mem (R := (· < ·)) (fun {i j} hi hj yS => ?_) List.pairwise_lt_range
       exact st i j _ _ yS (gr i (abk.mp hi)) (gr j (abk.mp hj))
     . obtain ⟨k, hk, rfl⟩ := aaW.mp ha
       exact oA.mpr (abk.mpr (lo k (abk.mp hk)))
     . rw [aaz, iC]
   rw [er, eA, ← iD, ← el]
end
theorem uh {α : Type} {g : α -> Int} {x : α} : ∀ {A B : List α}, (∀ y ∈ A, g y < g x) -> iU g x (A ++ B) = A ++ iU g x B
 | [], _, _ => rfl
 | a :: A, B, h => by
   have ha := h a aax
   rw [aaQ, iU, aap (by omega), uh fun y hy => h y (aay _ hy), aaQ]
theorem Ay {α : Type} {g : α -> Int} {x : α} {B : List α} (h : ∀ y ∈ B, g x <= g y) : iU g x B = x :: B := by
 cases B with
 | nil => rfl
 | cons b B => rw [iU, aar (h b aax)]
theorem pK {α : Type} (g : α -> Nat) (n : Nat) : ∀ (l : List α), (∀ x ∈ l, g x < n) -> dY (fun x => (g x : Int)) l = (List.range n).flatMap (fun i => l.filter (fun x => decide (g x = i)))
 | [], _ => by
   show [] = _
   induction (List.range n) with
   | nil => rfl
   | cons a l ih => rw [abX, ← ih]; rfl
 | x :: l, h => by
   have hx := h x aax
   have ih := pK g n l fun y hy => h y (aay _ hy)
   rw [dY, ih]
   have hr : List.range n = List.range (g x) ++ (g x) :: List.range' (g x + 1) (n - g x - 1) := by
     rw [List.range_eq_range', List.range_eq_range', show n = g x + (1 + (n - g x - 1)) by omega, ← List.range'_append_1, show 1 + (n - g x - 1) = (n - g x - 1) + 1 by omega, List.range'_succ]
     simp
   have A : (List.range (g x)).flatMap (fun i => (x :: l).filter (fun y => decide (g y = i))) = (List.range (g x)).flatMap (fun i => l.filter (fun y => decide (g y = i))) := by
     rw [abP, abP]
     congr 1
     refine abv fun i hi => ?_
     have := abk.mp hi
     rw [acf (by simp; omega)]
   have R : (List.range' (g x + 1) (n - g x - 1)).flatMap (fun i => (x :: l).filter (fun y => decide (g y = i))) = (List.range' (g x + 1) (n - g x - 1)).flatMap (fun i => l.filter (fun y => decide (g y = i))) := by
     rw [abP, abP]
     congr 1
     refine abv fun i hi => ?_
     have := (List.mem_range'_1.mp hi).1
     rw [acf (by simp; omega)]
   rw [hr, ab6, ab6, abX, abX, A, R, List.filter_cons_of_pos (by simp)]
   rw [uh, Ay]
   . rfl
   . intro y hy
     rcases aaG.mp hy with hy | hy
     . have := aaD (abn.mp hy).2
       omega
     . obtain ⟨i, hi, hy⟩ := List.mem_flatMap.mp hy
       have := aaD (abn.mp hy).2
       have := (List.mem_range'_1.mp hi).1
       omega
   . intro y hy
     obtain ⟨i, hi, hy⟩ := List.mem_flatMap.mp hy
     have := aaD (abn.mp hy).2
     have := abk.mp hi
     omega
theorem Az {pos pos' : Pos} {c cv : Value} (l : List Value) (h : TriplesOk l) (e : codeAmong pos (l ++ [rawInt pos'.line, rawInt pos'.col, c]) = some cv) : codeAmong pos l = some cv \/ cv = c := by
 fun_induction TriplesOk l with
 | case1 =>
   simp only [ab8, codeAmong, rawInt] at e
   split at e
   . exact .inr (aaH e).symm
   . cases e
 | case2 a t b u x rest ih =>
   simp only [aaQ, codeAmong] at e ⊢
   split at e
   . rename_i hc; rw [aar hc]; exact .inl e
   . rename_i hc; rw [aap hc]; exact ih h e
 | case3 l h1 h2 => exact h.elim
def Fj (f : Addr) (q : Str) (ps : Arguments) (body : Expr) (sc : Scope) (cl : List (Str × Addr)) (c : Addr) : Heap -> Prop := fun h =>
 ∃ pm Rf, h.get? f = some (PySem.W.kla_obj "<lambda>" q ps body sc cl pm c Rf)
structure Fl (X : Cx) (CL : Str -> Addr) (x q : Str) : Prop where
 code : ∃ c, X.env.code = .ref c /\ PySem.W.CodeHd X.base c (CL x)
 blt : ∃ bm o, X.mg "__builtins__" = some (.ref bm) /\ bm ≠ builtinsNs /\ bm ≠ mainGlobals /\ X.base.get? bm = some o /\ o.cls = .type "module" /\ o.dict = some builtinsNs /\ o.data = .plain
 qual : X.env.qual ++ "<lambda>" = q
 tab : yy x = true /\ CL x ≠ 0 /\ Am x = q
section
variable {X : Cx} {CL : Str -> Addr} {pins : List (Addr × Obj)} {σ : L2.St} {H : Hp} {s : Shared} {x q : Str} {params : Arguments} {body : Expr} {scope : Scope} {pos : Pos}
theorem O8 {Q : Value -> Shared -> Prop} (L : Fl X CL x q) (I : L2.Inv X pins σ H s) (ht : H (CL x) = some (.tabs q)) (yf : ∀ y ∈ scope.names, y.2 = .free -> ∃ c, X.env.cells.lookup y.1 = some c)
   (O9 : defaultsOf params X.env = ([], []))
   (k : ∀ f c H' s', L2.Inv X pins σ H' s' -> aA H H' -> H' f = some (.ext (Fj f q params body scope (bU X.env scope.names []) c)) -> H' c = some (.CB q) -> (∀ b o, H' b = some o -> gq o = true -> H b = some o) -> Q (.ref f) s') :
   wpAny (model X.prog X.w) X.A (eval (.Lambda params body scope pos) X.env) Q X.xe s := by
 obtain ⟨c, hc, hd⟩ := L.code
 obtain ⟨bm, ob, b1, b2, b3, b4, b5, b6, b7⟩ := L.blt
 obtain ⟨ps, hP, tr, cs⟩ := I.cU _ _ ht
 have uc : ∀ {b : Addr} {o : Obj}, X.base.get? b = some o -> b ≠ CL x := fun {b o} e z => by
   have := (I.bs _ _ e).2
   rw [z, ht] at this; cases this
 have hg : s.heap.Ns mainGlobals X.mg := by
   obtain ⟨o, es, ep, e, r⟩ := I.mod.glob
   exact ⟨o, es, ep, I.bk _ _ e, r⟩
 have Zo : mainGlobals ≠ CL x := by
   obtain ⟨o, _, _, e, _⟩ := I.mod.glob
   exact uc e
 have hb : s.heap.BuiltinsAt X.mg (CL x) := ⟨bm, ob, b1, b2, b3, uc b4, I.bk _ _ b4, b5, b6, b7⟩
 refine PySem.W.kla_eval O9 ?_
 rw [L.qual]
 cases hf : codeAmong pos ps.toList with
 | none =>
   refine PySem.W.kla_makeFunction (gT yf) I.ok.glob hg hc (hd.keeps I.bk) hP tr hf Zo hb fun c' Rf h' tk hx O7 mL Wr XE => ?_
   obtain ⟨c₂, oc, vs, t, e2, Q0, V6, hv⟩ := Wr
   cases e2
   have hn : H c' = none := I.cU.fresh O7
   have XF : ∀ {b : Addr}, H b = none -> b ≠ CL x := fun {b} e z => by rw [z, ht] at e; cases e
   have ne' : ∀ {b : Addr} {o : Obj}, s.heap.get? b = some o -> b ≠ c' := fun {b o} e => aaV (aaT (aaE e) O7)
   have cP : CL x ≠ c' := ne' hP
   have un : Un X.fs [] H (upd H c' (.CB q)) s.heap h' := by
     refine ⟨fun b o e n _ _ => hx b o (XF n) e, fun b o e n _ _ => ⟨o.slots, hx b o (XF n) e⟩, fun b o e n _ => by rw [au (ne' e)]; exact n, fun b o e _ => ?_, fun b xs e => by rw [au (aD e hn)]; exact e, fun b o u e => by rw [au (aD e hn)]; exact e, fun b ps e => ⟨#[], by rw [au (aD e hn), e]; simp⟩⟩
     by_cases z : b = CL x
     . exact ⟨_, z ▸ XE⟩
     . exact ⟨o, hx b o z e⟩
   have cU : pS X.prog X.w (upd H c' (.CB q)) h' := fun b u e => by
     by_cases z : b = c'
     . subst z
       rw [aL] at e
       cases e
       exact ⟨oc, vs, t, Q0, V6, hv⟩
     . rw [au z] at e
       by_cases z2 : b = CL x
       . subst z2
         rw [ht] at e
         cases e
         refine ⟨_, XE, ?_, fun pos' cv ec => ?_⟩
         . rw [Array.toList_append]
           exact TriplesOk_snoc _ _ _ _ tr
         . rw [Array.toList_append] at ec
           rcases Az _ tr ec with q1 | q1
           . obtain ⟨c3, e3, e4⟩ := cs pos' cv q1
             exact ⟨c3, e3, by rw [au (aD e4 hn)]; exact e4⟩
           . exact ⟨c', q1, aL⟩
       . refine (I.cU b u e).uH (fun d v HB r => hx d v ?_ r) (fun d r => by rw [au (aD r hn)]; exact r) (fun d xs r => by rw [au (aD r hn)]; exact r) fun d z r => by rw [au (aD r hn)]; exact r
         rintro rfl
         rcases HB with w | w
         . exact z2 w.symm
         . rw [ht] at w; cases w
   have I1 := I.un (t' := tk) un cU
   have f1 : (upd H c' (.CB q)) h'.objs.size = none := cU.fresh (aas _)
   have I2 := I1.laid (t' := tk) (a := h'.objs.size) (o := .ext (Fj h'.objs.size q params body scope (bU X.env scope.names []) c')) (h' := h'.push (PySem.W.kla_obj "<lambda>" q params body scope (bU X.env scope.names []) ((X.mg "__name__").getD .none) c' Rf))
     (fun b u e => aaA _ e) (aas _) ⟨⟨_, _, aaR _ rfl⟩, ⟨_, aaR _ rfl⟩, fun h1 h2 ⟨pm, ct, e⟩ kk => ⟨pm, ct, kk _ e⟩⟩
   refine k _ c' _ _ I2 (fun b o e => ?_) aL ?_ fun b o e im => ?_
   . have z1 := aD e hn
     have z2 : b ≠ h'.objs.size := fun z => by
       rw [← z, au z1, e] at f1; cases f1
     rw [au z2, au z1]; exact e
   . rw [au (aaV mL), aL]
   . by_cases z2 : b = h'.objs.size
     . subst z2; rw [aL] at e; cases e; cases im
     . rw [au z2] at e
       by_cases z1 : b = c'
       . subst z1; rw [aL] at e; cases e; cases im
       . rw [au z1] at e; exact e
 | some cv =>
   obtain ⟨c', rfl, Ed⟩ := cs pos cv hf
   refine PySem.W.kla_makeFunctionHit (gT yf) I.ok.glob hg hc (hd.keeps I.bk) hP tr hf hb fun Rf h' tk hk Ab => ?_
   have I2 := I.laid (t' := tk) (a := h'.objs.size) (o := .ext (Fj h'.objs.size q params body scope (bU X.env scope.names []) c')) (h' := h'.push (PySem.W.kla_obj "<lambda>" q params body scope (bU X.env scope.names []) ((X.mg "__name__").getD .none) c' Rf))
     (fun b u e => aaA _ (hk _ _ e)) Ab ⟨⟨_, _, aaR _ rfl⟩, ⟨_, aaR _ rfl⟩, fun h1 h2 ⟨pm, ct, e⟩ kk => ⟨pm, ct, kk _ e⟩⟩
   have f1 : H h'.objs.size = none := I.cU.fresh Ab
   refine k _ c' _ _ I2 (fun b o e => by rw [au (aD e f1)]; exact e) aL (by rw [au (aD Ed f1)]; exact Ed) fun b o e im => ?_
   by_cases z2 : b = h'.objs.size
   . subst z2; rw [aL] at e; cases e; cases im
   . rw [au z2] at e; exact e
end
def rA (X : Cx) (A : Around) (q : Str) (scope : Scope) (Nc : List Str) (f c : Addr) (s : Shared) (H : Hp) : Cx where
 prog := X.prog
 w := X.w
 K := X.K
 mg := X.mg
 base := X.base
 A := A.deeper (PySem.W.envX q scope s.heap.objs.size f (.ref c) (bU X.env scope.names []))
 N := Nc
 s₀ := s
 H₀ := H
 env := PySem.W.envX q scope s.heap.objs.size f (.ref c) (bU X.env scope.names [])
 outer := X.stack
 stack := PySem.W.envX q scope s.heap.objs.size f (.ref c) (bU X.env scope.names []) :: X.stack
 ex := []
 fn := fun _ => false
 calm := true
 pn := []
 xe := fun _ _ => False
section
variable {X : Cx} {scope : Scope} {x q : Str} {Nc : List Str} {ix : List Nat} {pins : List (Addr × Obj)} {σ : L2.St} {H : Hp} {s : Shared} {A : Around} {f c : Addr}
theorem Dn (sc : eK X scope x Nc ix) (I : L2.Inv X pins σ H s) (hA : A.frames = some X.stack) (hh : A.handled = none) {h' : Heap} {tk : Nat} {u : Value} {v : V} (r : RelV v u)
   (hn : h'.Ns s.heap.objs.size (fun y => ([(x, u)] : List (Str × Value)).reverse.lookup y)) (hk : ∀ b o, s.heap.get? b = some o -> h'.get? b = some o) :
   L2.Inv (rA X A q scope Nc f c s H) [] (oj σ ix (some v)) H { s with heap := h', toks := tk } := by
 have frees : ∀ y ∈ scope.names, y.2 = .free -> ∃ c, X.env.cells.lookup y.1 = some c := fun y hy e => I.ok.has y.1 (sc.frees y hy e).2
 have sub : ∀ {y : Str} {c : Addr}, (bU X.env scope.names []).lookup y = some c -> X.env.cells.lookup y = some c := fun {y c} e => iR frees (fun _ _ z => by cases z) e
 have hlen : (oj σ ix (some v)).length = Nc.length := by
   have all : ∀ l : List Nat, (∀ i ∈ l, ∃ y, X.N[i]? = some y /\ scope.names.lookup y = some .free) -> (l.filterMap (X.N[·]?)).length = l.length := by
     intro l
     induction l with
     | nil => intro _; rfl
     | cons i r ih =>
       intro h
       obtain ⟨y, e, _⟩ := h i aax
       rw [abl, e]
       show _ + 1 = _ + 1
       rw [ih fun j hj => h j (aay _ hj)]
   unfold oj
   rw [sc.hd, aaL, aaL, aaz, all ix sc.Mx]
 have nil : ∀ b : Addr, b ∉ (rA X A q scope Nc f c s H).ex := fun b z => absurd (show b ∈ ([] : List Addr) from z) (by simp)
 refine ⟨⟨I.ok.mod, sc.kind, rfl, rfl, aas _, fun y z c h1 h2 => I.ok.inj y z c (sub h1) (sub h2), fun y hy => ?_, fun y c hf _ => (by cases (show false = true from hf)), fun _ => hh, Around.frames_deeper hA, .inr ⟨rfl, rfl⟩, fun b hb => absurd hb (nil b), I.bs, abb I.ok.Hr I.sz, fun b o _ => nil b, fun b hb => absurd hb (nil b), I.stack, I.uL⟩,
   rfl, I.bare, Un.kept hk, ⟨_, hn, fun i y w h1 h2 h3 => ?_⟩, fun y c e => ?_, I.cU.fresh (aas _), fun y c e => I.jy y c (sub e), fun p hp => absurd (show p ∈ ([] : List (Addr × Obj)) from hp) (by simp), I.cU.kept hk, hlen⟩
 . have UO : scope.names.lookup y = some .cell \/ scope.names.lookup y = some .free := hy
   rcases UO with z | z
   . exact absurd rfl (sc.oi _ (abj z))
   . exact gw z
 . unfold oj at h2
   cases i with
   | zero =>
     have E3 : some (some v) = some (some w) := h2
     cases E3
     have e : y = x := by
       have MB : Nc[0]? = some y := h1
       rw [sc.hd] at MB
       exact (aaH MB).symm
     subst e
     refine ⟨u, r, .inl ⟨sc.own, ?_⟩⟩
     simp
   | succ i =>
     rw [List.getElem?_cons_succ, aa0] at h2
     cases ei : ix[i]? with
     | none => rw [ei] at h2; cases h2
     | some j =>
       rw [ei] at h2
       have E3 : (σ[j]?).getD none = some w := aaH h2
       have hj : σ[j]? = some (some w) := by
         cases q : σ[j]? with
         | none => rw [q] at E3; cases E3
         | some o => rw [q] at E3; exact congrArg some E3
       obtain ⟨y', SG, OS⟩ := sc.Mx j (aa5 ei)
       have V3 : Nc[i + 1]? = some y' := by
         have all : ∀ (l : List Nat) (i : Nat), (∀ j ∈ l, ∃ y, X.N[j]? = some y /\ scope.names.lookup y = some .free) -> l[i]? = some j -> (l.filterMap (X.N[·]?))[i]? = some y' := by
           intro l
           induction l with
           | nil => intro i _ h; simp at h
           | cons a r ih =>
             intro i h hi
             obtain ⟨ya, ea, _⟩ := h a aax
             rw [abl, ea]
             cases i with
             | zero =>
               simp at hi
               subst hi
               rw [SG] at ea
               cases ea
               rfl
             | succ i => exact ih i (fun j hj => h j (List.mem_cons_of_mem _ hj)) (by simpa using hi)
         rw [sc.hd, List.getElem?_cons_succ]
         exact all ix i sc.Mx ei
       have ey : y' = y := by
         have MB : Nc[i + 1]? = some y := h1
         rw [V3] at MB
         exact aaH MB
       subst ey
       have qN := (sc.frees (y', .free) (abj OS) rfl).2
       have OU : MZ X.env.scope y' := qN.elim (fun z => .inr (.inl z)) (fun z => .inr (.inr z))
       obtain ⟨m0, V4, UQ⟩ := I.loc
       obtain ⟨u', ru, lk⟩ := UQ j y' w SG hj OU
       refine ⟨u', ru, ?_⟩
       rcases lk with ⟨kk, _⟩ | ⟨_, c', hc, pB⟩
       . rcases qN with z | z
         . rw [kk] at z; cases z
         . rw [kk] at z; cases z
       . obtain ⟨c2, Ed⟩ := gw (env := X.env) (cs := []) OS
         have : c2 = c' := by
           have := sub Ed
           rw [hc] at this
           exact (aaH this).symm
         subst this
         obtain ⟨o, ho, hd⟩ := pB
         exact .inr ⟨.inr OS, c2, Ed, o, hk _ _ ho, hd⟩
 . obtain ⟨v, o, ho, hd⟩ := I.cell y c (sub e)
   exact ⟨v, o, hk _ _ ho, hd⟩
theorem Fo {params : Arguments} {body : Expr} {u : Value} {v : V} {Q : VK} (sc : eK X scope x Nc ix) (I : L2.Inv X pins σ H s) (hA : A.frames = some X.stack) (hh : A.handled = none) (SX : A.depth < recursionLimit)
   (hf : H f = some (.ext (Fj f q params body scope (bU X.env scope.names []) c))) (hc : H c = some (.CB q)) (r : RelV v u)
   (yX : ∀ cl pm cd ct u, bindArgs (PySem.W.kla_fn "<lambda>" q params body scope cl pm cd ct) ⟨[u], []⟩ = pure [(x, u)]) (Ws : scope.isCoroutine = false) (Pa : scope.isGenerator = false)
   (h : yx (rA X A q scope Nc f c s H) body (oj σ ix (some v)) H Q) : wpAny (model X.prog X.w) A (call (.ref f) [u]) (EP X pins σ Q) (fun _ _ => False) s := by
 obtain ⟨⟨pm, Rf, ho⟩, _⟩ := I.cU _ _ hf
 obtain ⟨oc, vs, t, e1, e2, e3⟩ := I.cU _ _ hc
 refine wpAny_call (PySem.W.kla_callFunE SX ho rfl Ws Pa rfl ⟨c, oc, vs, t, rfl, e1, e2, e3⟩ ?_)
 rw [yX]
 refine aa4 (wpAny_newFunctionEnv sc.oi (fun y hy => ?_) (fun h₁ UZ Zq => ?_) sc.kind)
 . rw [aaU.mp hy]
   exact sc.own
 . have hk : ∀ b o, s.heap.get? b = some o -> h₁.get? b = some o := fun b o e => (Zq.2 b (aaV (aaE e))).trans (aaA _ e)
   refine ⟨I.nolimit.keeps hk, ?_⟩
   show codeAny _ _ (.expr body (PySem.W.envX q scope s.heap.objs.size f (.ref c) (bU X.env scope.names []))) _ _
   have J := Dn (q := q) (f := f) (c := c) (tk := s.toks + ([(x, u)] : List (Str × Value)).length) sc I hA hh r UZ hk
   refine PySem.W.kla_codeExpr (abw (h [] _ J) (fun w s' hl => ?_) fun e s' hx => False.elim hx)
   obtain ⟨v', H', J', rv, hq⟩ := hl
   exact I.after ⟨v', H', J'.os, J'.bare, J'.base, J'.cU, rv, hq⟩
end
section
variable {X : Cx} {pins : List (Addr × Obj)} {σ : L2.St} {H : Hp} {s : Shared}
theorem Dp {a : Addr} {o : HO} (I : L2.Inv X pins σ H s) (fp : fW X pins H a) (new : fG X.prog X.w (upd H a o) s.heap a o) : L2.Inv X pins σ (upd H a o) s := by
 have hn := fp.1
 refine I.step (H' := upd H a o) (h' := s.heap) (g' := s.gens) (d' := s.drawn) (t' := s.toks) (ch := [a]) (fun b hb => ?_) (fun b o _ _ _ e _ => e) (fun b o _ _ _ e _ => ⟨o.slots, e⟩) (fun b o hc _ n => by rw [au fun z => hc (by simp [z])]; exact n)
   (fun b o _ e => ⟨o, e⟩) (fun b xs e => by rw [au (aD e hn)]; exact e) (fun b o u e => by rw [au (aD e hn)]; exact e) (fun b ps e => ⟨#[], by rw [au (aD e hn), e]; simp⟩) (fun m hm => hm) (fun b u e => ?_) I.bare
 . have e : b = a := by simpa using hb
   subst e
   exact ⟨fp.2.2.2.1, fp.2.1, fp.2.2.2.2.1, fp.2.2.2.2.2⟩
 . by_cases z : b = a
   . subst z; rw [aL] at e; cases e; exact new
   . rw [au z] at e
     exact (I.cU b u e).uH (fun _ _ _ q => q) (fun c q => by rw [au (aD q hn)]; exact q) (fun c xs q => by rw [au (aD q hn)]; exact q) fun c z q => by rw [au (aD q hn)]; exact q
end
def lG (kz : List Int) (xs : List V) : List V := (dY Prod.fst (kz.zip xs)).map Prod.snd
section
variable {α β : Type} {F : α -> β -> Prop} {g1 : α -> Int} {g2 : β -> Int}
theorem pL (hg : ∀ p q, F p q -> g1 p = g2 q) {x : α} {y : β} (hx : F x y) : ∀ {l1 : List α} {l2 : List β}, Paired F l1 l2 -> Paired F (iU g1 x l1) (iU g2 y l2)
 | _, _, .nil => .cons hx .nil
 | p :: l1, q :: l2, .cons r t => by
   rw [iU, iU, hg x y hx, hg p q r]
   split
   . exact .cons hx (.cons r t)
   . exact .cons r (pL hg hx t)
theorem iV (hg : ∀ p q, F p q -> g1 p = g2 q) : ∀ {l1 : List α} {l2 : List β}, Paired F l1 l2 -> Paired F (dY g1 l1) (dY g2 l2)
 | _, _, .nil => .nil
 | _, _, .cons r t => pL hg r (iV hg t)
end
theorem rB : ∀ {ks us : List Value} {kz : List Int} {xs : List V}, IntsAre ks kz -> Vals xs us -> Paired (fun (p : Int × V) (q : Value × Value) => p.1 = numOf q.1 /\ RelV p.2 q.2) (kz.zip xs) (ks.zip us)
 | _, _, _, _, .nil, _ => by simp only [List.zip_nil_left]; exact .nil
 | _, _, _, _, .cons n t h, .nil => by simp only [List.zip_nil_right]; exact .nil
 | _, _, _, _, .cons n t h, .cons r rr => .cons ⟨rfl, r⟩ (rB h rr)
theorem yZ : ∀ {ps : List (Int × V)} {qs : List (Value × Value)}, Paired (fun (p : Int × V) (q : Value × Value) => p.1 = numOf q.1 /\ RelV p.2 q.2) ps qs -> Vals (ps.map Prod.snd) (qs.map Prod.snd)
 | _, _, .nil => .nil
 | _, _, .cons r t => .cons r.2 (yZ t)
theorem y9 {keys : Array Value} {us : List Value} {xs : List V} {kz : List Int} (hk : IntsAre keys.toList kz) (r : Vals xs us) {arr : Array Keyed} {κ : Nat -> Nat}
   (t : Tag (keys.zip us.toArray) arr κ (keys.zip us.toArray).size) (o : jJ arr κ (keys.zip us.toArray).size) (hz : arr.size = (keys.zip us.toArray).size) : Vals (lG kz xs) (arr.map (·.2)).toList := by
 have ez := ksk_zip keys us
 have el : (keys.toList.zip us).length = (keys.zip us.toArray).size := by rw [← ez, abD]
 have e : arr.toList = dY (fun p : Keyed => numOf p.1) (keys.toList.zip us) := by
   refine Fi (κ := κ) (by rw [el, abD, hz]) (fun k hk => ?_) (fun k hk => ?_) fun i j x y yS hx hy => ?_
   . rw [el] at hk
     rw [ab2, t.pl k hk, ← ez, ab2]
   . rw [el] at hk ⊢
     exact t.lo k hk
   . rw [ab2] at hx hy
     have hj : j < arr.size := (Array.getElem?_eq_some_iff.mp hy).1
     have q := o i j yS (by rw [← hz]; exact hj)
     unfold PyProof.Rows.K at q
     rw [hx, hy] at q
     exact q
 rw [Array.toList_map, e]
 exact yZ (iV (fun p q h => h.1) (rB hk r))
section
variable {X : Cx} {pins : List (Addr × Obj)} {σ : L2.St} {H : Hp} {s : Shared} {a kS f l : Addr} {us : List Value} {xs : List V} {kz : List Int} {J : Hp -> Prop} {e1 : Nat} {A : Around} {E : Value -> Shared -> Prop} {P : PySem.Fin -> Shared -> Prop}
theorem qj {it : Addr} (I : L2.Inv X pins σ H s) (fp : fW X pins H it) (g : Obj -> Obj) : L2.Inv X pins σ H { s with heap := s.heap.update it g } := by
 have s1 := Heap.SameBut.update s.heap it g
 exact I.turned (t' := s.toks) (fun b o n q => (s1.2 b n).trans q) fp.1 fp.2.1 fp.2.2.2.1 fp.2.2.2.2.1 fp.2.2.2.2.2
theorem BU {st : SortSt} {keys : Array Value} {e : Nat} (I : L2.Inv X pins σ H s) (fk : fW X pins H kS) (fa : fW X pins H a) (Pb : kS ≠ a) (ok : s.heap.get? kS = some (seqObj "list" keys e)) (oa : s.heap.get? a = some (seqObj "list" #[] e1))
   (Wq : keys.size < 64) (Ab : (arrOf st).size < 64) (Rg : failedOf st = none)
   (h : ∀ s' c, L2.Inv X pins σ H s' -> s'.heap.get? a = some (seqObj "list" ((arrOf st).map (·.2)) c) -> P (.done (.ret .none)) s') :
   wpAny (model X.prog X.w) A (ksk_tail a false e1 (.ref kS) st) P E s := by
 have s1 := Heap.SameBut.update s.heap kS (Obj.mapSeq fun _ => (#[] : Array Value))
 have I1 := qj I fk (Obj.mapSeq fun _ => (#[] : Array Value))
 have Wt : (s.heap.update kS (Obj.mapSeq fun _ => (#[] : Array Value))).get? a = some (seqObj "list" #[] e1) := (s1.2 a Pb.symm).trans oa
 have I2 := qj I1 fa (Obj.mapSeq fun _ => (arrOf st).map (·.2))
 obtain ⟨c2, OO⟩ : ∃ c2, ((s.heap.update kS (Obj.mapSeq fun _ => (#[] : Array Value))).update a (Obj.mapSeq fun _ => (arrOf st).map (·.2))).get? a = some (seqObj "list" ((arrOf st).map (·.2)) c2) :=
   ⟨_, get?_update_seq Wt fun _ => (arrOf st).map (·.2)⟩
 unfold ksk_tail
 try dsimp only
 refine aaC (listUpdate_at ok rfl ?_ (by rw [aaX]; omega) (aaY _))
 refine aaC (wpAny_letGo ?_)
 refine aaC (seqEpoch_at Wt rfl ?_)
 refine aaC (listUpdate_at Wt rfl ?_ (aaY _) (by simp only [abg, abL, Array.size_map]; rw [aaX]; omega))
 rw [Rg]
 simp only [bne_self_eq_false, abg, abL]
 exact aa4 (h _ c2 I2 OO)
theorem Pg {keys : Array Value} {e : Nat} (I : L2.Inv X pins σ H s) (fk : fW X pins H kS) (fa : fW X pins H a) (Pb : kS ≠ a) (ok : s.heap.get? kS = some (seqObj "list" keys e)) (oa : s.heap.get? a = some (seqObj "list" #[] e1))
   (hk : IntsAre keys.toList kz) (hlen : kz.length = us.length) (MJ : us.length < 64) (r : Vals xs us)
   (h : ∀ s' out c, L2.Inv X pins σ H s' -> s'.heap.get? a = some (seqObj "list" out c) -> Vals (lG kz xs) out.toList -> P (.done (.ret .none)) s') :
   wpAny (model X.prog X.w) A (ksk_end a false us.toArray e1 (.ref kS) keys) P E s := by
 have Ab : keys.size = us.length := by
   have h1 := hk.length
   rw [abD] at h1
   omega
 have XG : (keys.zip us.toArray).size = us.length := by rw [Array.size_zip, Ab, aaO, Nat.min_self]
 have t0 : ∀ n, Tag (keys.zip us.toArray) (keys.zip us.toArray) id n := fun n => ⟨fun _ _ => rfl, fun _ q => q, fun _ _ => rfl⟩
 unfold ksk_end
 try dsimp only
 simp only [abg, abL]
 by_cases h2 : us.toArray.size < 2
 . rw [aar h2, aar h2]
   refine aaC (aa4 ?_)
   rw [StateT.run_pure]
   refine aaC (aa4 ?_)
   try dsimp only
   rw [aaO] at h2
   refine BU (st := SortSt.mk' general' (keys.zip us.toArray) #[] 7 none) I fk fa Pb ok oa (by omega) (by show (keys.zip us.toArray).size < 64; omega) rfl fun s' c I' o' => h s' _ c I' o' ?_
   exact y9 hk r (arr := keys.zip us.toArray) (κ := id) (t0 _) (fun i j yS hj => by omega) rfl
 . rw [aap h2, aap h2]
   rw [aaO] at h2
   rw [ksk_kind hk (by rw [Ab]; omega)]
   refine aaC (aa4 ?_)
   refine aaC (abw (Dm (a₀ := keys.zip us.toArray) (st := SortSt.mk' oneType' (keys.zip us.toArray) #[] 7 none)
     (Q := fun _ z7 => failedOf z7 = none /\ ∃ κ, Tag (keys.zip us.toArray) (arrOf z7) κ (keys.zip us.toArray).size /\ jJ (arrOf z7) κ (keys.zip us.toArray).size /\ (arrOf z7).size = (keys.zip us.toArray).size)
     (ksk_intKeys hk) ⟨Array.Perm.refl _, rfl, rfl, rfl⟩ (t0 _) (by rw [XG]; omega) (by rw [XG]; exact MJ) fun z κ a1 a2 a3 a4 => ⟨a1, κ, a2, a3, a4⟩) ?_ fun _ _ e => e)
   rintro ⟨⟨⟩, z7⟩ s' ⟨rfl, hf, κ, t, o, hz⟩
   try dsimp only
   have hz' : (arrOf z7).size = (keys.zip us.toArray).size := hz
   exact BU I fk fa Pb ok oa (by omega) (by omega) hf fun s' c I' o' => h s' _ c I' o' (y9 hk r t o hz)
theorem SY {b : Addr} {H' : Hp} (fp : fW X pins H b) (h : H' b = none) : fW X pins H' b := ⟨h, fp.2⟩
theorem Ja (I : L2.Inv X pins σ H s) (fk : fW X pins H kS) (fa : fW X pins H a) (Pb : kS ≠ a) (ok : s.heap.get? kS = some (seqObj "list" #[] 0)) (oa : s.heap.get? a = some (seqObj "list" #[] e1)) (j0 : J H)
   (hlen : kz.length = us.length) (MJ : us.length < 64) (r : Vals xs us)
   (turn : ∀ (i : Nat) (x : V) (k : Int), xs[i]? = some x -> kz[i]? = some k -> ∀ (gk : List (Addr × Obj)) (s' : Shared) (u : Value) (H' : Hp), L2.Inv X gk σ H' s' -> J H' -> RelV x u →
     wpAny (model X.prog X.w) A (call (.ref f) [u]) (EP X gk σ fun v S6 => v = .int k /\ J S6) (fun _ _ => False) s')
   (h : ∀ s' H' out c, L2.Inv X pins σ H' s' -> J H' -> H' a = none -> s'.heap.get? a = some (seqObj "list" out c) -> Vals (lG kz xs) out.toList -> P (.done (.ret .none)) s') :
   wpAny (model X.prog X.w) A (ksk_rest a (.ref f) false us.toArray e1 (.ref kS)) P E s := by
 unfold ksk_rest
 refine aaC (wpAny_rule ?_)
 first
   | rw [List.forIn_toArray]
   | (rw [← Array.forIn_toList]; simp only [List.toList_toArray])
   | rw [← Array.forIn_toList]
 refine aaC (ksk_fold (fun i s' => ∃ H' kA e, L2.Inv X pins σ H' s' /\ J H' /\ H' kS = none /\ H' a = none /\ s'.heap.get? kS = some (seqObj "list" kA e) /\ s'.heap.get? a = some (seqObj "list" #[] e1) /\ IntsAre kA.toList (kz.take i)) us 0 s
   ⟨H, #[], 0, I, j0, fk.1, fa.1, ok, oa, by simpa using IntsAre.nil⟩ ?step ?done)
 case step =>
   rintro j u s' hx ⟨H', kA, e, I', jj, nk, na, S7, U0, hk⟩
   simp only [Nat.zero_add] at hk ⊢
   have hj : j < us.length := (aaP.mp hx).1
   obtain ⟨k, XH⟩ : ∃ k, kz[j]? = some k := ⟨_, aaq (by omega)⟩
   obtain ⟨x, XI⟩ : ∃ x, xs[j]? = some x := ⟨_, aaq (by rw [r.length]; exact hj)⟩
   have rx : RelV x u := by
     obtain ⟨u', e1, e2⟩ := r.get XI
     rw [hx] at e1; cases e1; exact e2
   have hz : kA.size <= us.length := by
     have h1 := hk.length
     rw [abD, List.length_take] at h1
     omega
   have Ip := I'.pinned (fp := [kS, a]) (fun b hb => by
     rcases aau.mp hb with rfl | hb
     . exact SY fk nk
     . rw [aaU.mp hb]; exact SY fa na) (fun b hb => by
     rcases aau.mp hb with rfl | hb
     . exact ⟨_, S7, fun v z => by cases z⟩
     . rw [aaU.mp hb]; exact ⟨_, U0, fun v z => by cases z⟩)
   refine aaC (wpAny_attempt (abw (turn j x k XI XH _ _ u H' Ip jj rx) (fun v Q7 he => ?_) fun _ _ hF => hF.elim))
   obtain ⟨w, H2, I2, Zr, rfl, j2⟩ := he
   obtain ⟨t2, rfl⟩ := Zr
   try dsimp only
   have pk := I2.pin (kS, seqObj "list" kA e) (aao _ (aao _ (fu (by simp) S7)))
   have pa := I2.pin (a, seqObj "list" #[] e1) (aao _ (aao _ (fu (by simp) U0)))
   have I3 := qj I2.jA (SY fk pk.2.1) (Obj.mapSeq (·.push (.int k t2)))
   have s1 := Heap.SameBut.update Q7.heap kS (Obj.mapSeq (·.push (.int k t2)))
   obtain ⟨c2, OO⟩ : ∃ c2, (Q7.heap.update kS (Obj.mapSeq (·.push (.int k t2)))).get? kS = some (seqObj "list" (kA.push (.int k t2)) c2) := ⟨_, get?_update_seq pk.1 (·.push (.int k t2))⟩
   have ek : kz.take (j + 1) = kz.take j ++ [k] := by rw [abr, XH]; simp
   have ea : (kA.push (Value.int k t2)).toList = kA.toList ++ [Value.int k t2] := by simp
   refine aaC (listUpdate_at pk.1 rfl ?_ (by rw [aaX]; omega) (abb (Nat.le_of_eq (Array.size_push ..)) (by rw [aaX]; omega)))
   exact aa4 ⟨rfl, H2, kA.push (.int k t2), c2, I3, j2, pk.2.1, pa.2.1, OO, (s1.2 a Pb.symm).trans pa.1, by rw [ea, ek]; exact ksk_snoc hk⟩
 case done =>
   rintro s' ⟨H', kA, e, I', jj, nk, na, S7, U0, hk⟩
   have Zt : IntsAre kA.toList kz := by
     have e3 : kz.take (0 + us.length) = kz := abU (by omega)
     rw [e3] at hk
     exact hk
   try dsimp only
   refine aaC (listItems_at S7 rfl ?_)
   exact Pg I' (SY fk nk) (SY fa na) Pb S7 U0 Zt hlen MJ r fun s2 out c I2 o2 v2 => h s2 H' out c I2 jj na o2 v2
theorem Jb {n : Nat} (I : L2.Inv X pins σ H s) (fa : fW X pins H a) (oa : s.heap.get? a = some (seqObj "list" us.toArray n)) (j0 : J H)
   (hlen : kz.length = us.length) (MJ : us.length < 64) (r : Vals xs us)
   (turn : ∀ (i : Nat) (x : V) (k : Int), xs[i]? = some x -> kz[i]? = some k -> ∀ (gk : List (Addr × Obj)) (s' : Shared) (u : Value) (H' : Hp), L2.Inv X gk σ H' s' -> J H' -> RelV x u →
     wpAny (model X.prog X.w) A (call (.ref f) [u]) (EP X gk σ fun v S6 => v = .int k /\ J S6) (fun _ _ => False) s')
   (h : ∀ s' H' out c, L2.Inv X pins σ H' s' -> J H' -> H' a = none -> s'.heap.get? a = some (seqObj "list" out c) -> Vals (lG kz xs) out.toList -> P (.done (.ret .none)) s') :
   wpAny (model X.prog X.w) A (ksk_tree a (.ref f) false) P E s := by
 have ha : a < s.heap.objs.size := aaE oa
 obtain ⟨e1, Wn⟩ : ∃ e1, (s.heap.update a (Obj.mapSeq fun _ => (#[] : Array Value))).get? a = some (seqObj "list" #[] e1) := ⟨_, get?_update_seq oa fun _ => #[]⟩
 have I1 := qj I fa (Obj.mapSeq fun _ => (#[] : Array Value))
 have Wu : ((s.heap.update a (Obj.mapSeq fun _ => (#[] : Array Value))).push (seqObj "tuple" us.toArray 0)).objs.size = s.heap.objs.size + 1 := by rw [size_push', Heap.size_update]
 have I2 : L2.Inv X pins σ H { s with heap := ((s.heap.update a (Obj.mapSeq fun _ => (#[] : Array Value))).push (seqObj "tuple" us.toArray 0)).push (seqObj "list" #[] 0) } :=
   I1.kept (t' := s.toks) fun b o e => aaA _ (aaA _ e)
 unfold ksk_tree
 refine aaC (listItems_at oa rfl ?_)
 refine aaC (listUpdate_at oa rfl ?_ (by rw [aaO, aaX]; omega) (aaY _))
 refine aaC (seqEpoch_at Wn rfl ?_)
 refine aaC (wpAny_newTuple ?_ (by show us.length <= _; rw [aaX]; omega))
 refine aaC (wpAny_newList ?_ (aaY _))
 refine acg ?_
 refine Ja (s := { s with heap := ((s.heap.update a (Obj.mapSeq fun _ => (#[] : Array Value))).push (seqObj "tuple" us.toArray 0)).push (seqObj "list" #[] 0) }) (kS := ((s.heap.update a (Obj.mapSeq fun _ => (#[] : Array Value))).push (seqObj "tuple" us.toArray 0)).objs.size)
   I2 (I.uM (by rw [Wu]; exact ab5 _) (I.cU.fresh (by rw [Wu]; exact ab5 _))) fa (by rw [Wu]; exact Nat.ne_of_gt (Nat.lt_succ_of_lt ha)) (aaR _ rfl) (aaA _ (aaA _ Wn)) j0 hlen MJ r turn h
theorem Dq {Q : VK} (I : L2.Inv X pins σ H s) (hq : j5 X.K H l xs) (hlen : kz.length = xs.length) (MJ : xs.length < 64) (j0 : J H)
   (turn : ∀ (i : Nat) (x : V) (k : Int), xs[i]? = some x -> kz[i]? = some k -> ∀ (gk : List (Addr × Obj)) (s' : Shared) (u : Value) (H' : Hp), L2.Inv X gk σ H' s' -> J H' -> RelV x u →
     wpAny (model X.prog X.w) X.A.in1.in1 (call (.ref f) [u]) (EP X gk σ fun v S6 => v = .int k /\ J S6) (fun _ _ => False) s')
   (h : ∀ D H', J H' -> H' D = none -> Q (.ref D) (upd H' D (.lst (lG kz xs)))) :
   wpAny (model X.prog X.w) X.A (call (.builtin "sorted") [.ref l] [(Str.ofString "key", .ref f)]) (EP X pins σ Q) E s := by
 obtain ⟨us, r, pl, hz⟩ := I.list hq
 have el := r.length
 have hl : s.heap.IsList l us.toArray := pl.isList
 refine call_function_entry_kw kind_sorted plain_sorted entry_sorted (ksk_s1 _ _) ?_
 unfold Builtin.«sorted»
 refine aaC (m := checkCount "sorted" 1 1 _) (aa4 ?_)
 refine aaC (collect_list hl ?_ (by rw [aaX]; omega))
 refine aaC (wpAny_newList ?_ (by rw [aaX]; omega))
 have Ab : ((s.heap.push (seqObj "list" #[] 0)).update s.heap.objs.size (Obj.mapSeq (· ++ us.toArray))).objs.size = s.heap.objs.size + 1 := by
   rw [Heap.size_update, size_push']
 have UB : (((s.heap.push (seqObj "list" #[] 0)).update s.heap.objs.size (Obj.mapSeq (· ++ us.toArray))).push (seqObj "list" us.toArray 0)).get? (s.heap.objs.size + 1) = some (seqObj "list" us.toArray 0) := by
   rw [← Ab]; exact aaR _ rfl
 have keep : ∀ b o, s.heap.get? b = some o -> (((s.heap.push (seqObj "list" #[] 0)).update s.heap.objs.size (Obj.mapSeq (· ++ us.toArray))).push (seqObj "list" us.toArray 0)).get? b = some o := fun b o q => by
   have mL : b < s.heap.objs.size := aaE q
   rw [Heap.get?_push_ne _ _ _ (by rw [Ab]; exact aaV (Nat.lt_succ_of_lt mL)), Heap.get?_update_ne _ _ _ _ (aaV mL), Heap.get?_push_ne _ _ _ (aaV mL)]
   exact q
 show wpAny _ _ _ _ _ { s with heap := ((s.heap.push (seqObj "list" #[] 0)).update s.heap.objs.size (Obj.mapSeq (· ++ us.toArray))).push (seqObj "list" us.toArray 0) }
 rw [Ab]
 have I2 : L2.Inv X pins σ H { s with heap := ((s.heap.push (seqObj "list" #[] 0)).update s.heap.objs.size (Obj.mapSeq (· ++ us.toArray))).push (seqObj "list" us.toArray 0) } := I.kept (t' := s.toks) keep
 have fa : ∀ {H' : Hp}, H' (s.heap.objs.size + 1) = none -> fW X pins H' (s.heap.objs.size + 1) := fun {H'} e => I.uM (ab5 _) e
 refine aaC (acg (wpAny_call_entry_kw slot_list_sort ⟨_, UB, rfl⟩ entry_list_sort ?body (ksk_l1 _ _)))
 case body =>
   have Zu := ksk_t1 f (s.heap.objs.size + 1)
   show wpAny (model X.prog X.w) X.A.in1.in1 (Builtin.«list.sort» ⟨[.ref (s.heap.objs.size + 1)], [(Str.ofString "key", .ref f)]⟩) _ _ _
   rw [Zu]
   refine Jb I2 (fa (I.cU.fresh (ab5 _))) UB j0 (by omega) (by omega) r turn fun s' H' out c I' jj na o' v' => ⟨_, rfl, ?_⟩
   refine aa4 ⟨_, rfl, .ref (s.heap.objs.size + 1), _, Dp I' (fa na) (o := .lst (lG kz xs)) ⟨?_, out.toList, c, v', ?_⟩, rfl, h _ H' jj na⟩
   . have : (lG kz xs).length = xs.length := by
       unfold lG
       rw [aaz, iC, List.length_zip, hlen, Nat.min_self]
     rw [this]; exact hz
   . simpa using o'
end
section
variable {K : PySem.W.Frag} {CL : Str -> Addr} {Z : Hp} {g : D -> Int}
theorem um : ∀ {ds : List D} {us : List V}, aC K CL Z ds us -> Paired (fun (d : D) (p : Int × V) => g d = p.1 /\ bu K CL Z d p.2) ds ((ds.map g).zip us)
 | [], _, .nil => .nil
 | _ :: _, _, .cons r t => .cons ⟨rfl, r⟩ (um t)
theorem uo : ∀ {ds : List D} {ps : List (Int × V)}, Paired (fun (d : D) (p : Int × V) => g d = p.1 /\ bu K CL Z d p.2) ds ps -> aC K CL Z ds (ps.map Prod.snd)
 | [], _, .nil => .nil
 | _ :: _, _, .cons r t => .cons r.2 (uo t)
theorem Dr {ds : List D} {us : List V} (r : aC K CL Z ds us) : aC K CL Z (dY g ds) (lG (ds.map g) us) := uo (iV (fun p q h => h.1) (um (g := g) r))
end
def S8 (X : Cx) (CL : Str -> Addr) (q : Str) (scope : Scope) (Nc : List Str) (body : Expr) (δc : List (Option T)) (ds : List D) (g : D -> Int) : Prop :=
 ∀ f c s0 H0 b' d, d ∈ ds -> cA (rA X X.A.in1.in1 q scope Nc f c s0 H0) CL b' body (some (.sh d) :: δc) (.int (g d)) (some (.sh d) :: δc)
section
variable {X : Cx} {CL : Str -> Addr} {b : Bx} {δ δ1 : List (Option T)} {e body : Expr} {ds : List L3.D} {g : L3.D -> Int} {scope : Scope} {y q tx : Str} {Nc : List Str} {ix : List Nat} {params : Arguments} {pos pp lp p2 : Pos}
theorem rC (L : Fl X CL tx q) (g0 : Gx X) (dp : X.A.depth < recursionLimit) (hm : X.mg "sorted" = none) (hg : Gl X "sorted") (sc : eK X scope y Nc ix) (h : cA X CL b e δ (.lst ds) δ1) (hi : D.bO ds = true) (hl : ds.length < 64)
   (inner : S8 X CL q scope Nc body (tK δ1 ix) ds g) (O9 : defaultsOf params X.env = ([], []) := by rfl)
   (yX : ∀ cl pm cd ct u, bindArgs (PySem.W.kla_fn "<lambda>" q params body scope cl pm cd ct) ⟨[u], []⟩ = pure [(y, u)] := by intros; rfl) (Ws : scope.isCoroutine = false := by rfl) (Pa : scope.isGenerator = false := by rfl)
   (hs : starEach [e] X.env = (false, eval e X.env) :: starEach [] X.env := by exact bN rfl) :
   bX X CL b (.Call (.Name "sorted" pp) [e] [⟨some "key", .Lambda params body scope lp, p2⟩] pos) δ (.lst ((dY g ds).map T.sh)) δ1 := by
 intro H Z σ ts vs Q S k pins s I
 have ha : PA X [e] (By (yx X e) Er) := cz dR eU hs
 have hk : PK X [⟨some "key", .Lambda params body scope lp, p2⟩] (By (yx X (.Lambda params body scope lp)) Er) := HS dR NT
 refine abJ (lR I hg hm ve ?_)
 refine callWith_kw (c9 (ha pos pins s σ H (fun VM H1 => ∃ v Z1, VM = [v] /\ aA Z Z1 /\ aA H H1 /\ bP X.K CL b H1 Z1 δ1 σ ts vs /\ bu X.K CL H1 (.lst ds) v) I (h H Z σ ts vs _ S fun v H1 Z1 z1 k1 S1 r => ⟨v, Z1, rfl, z1, k1, S1, r⟩)) fun us s1 ⟨vs1, H1, I1, r1, v1, Z1, e1, z1, k1, S1, rep1⟩ => ?_) (by rw [hs]; rfl) (by rw [hs]; rfl) rfl rfl
 subst e1
 have Wv : H1 (CL tx) = some (.tabs q) := by
   have := S1.C4 tx L.tab.1 L.tab.2.1
   rw [L.tab.2.2] at this
   exact this
 refine c9 (hk pos pins s1 σ H1 (fun zs H2 => ∃ f c, zs = [.ref f] /\ aA H1 H2 /\ H2 f = some (.ext (Fj f q params body scope (bU X.env scope.names []) c)) /\ H2 c = some (.CB q)) I1
   (fun gk s' I' => O8 L I' Wv (fun y hy e => I'.ok.has y.1 (sc.frees y hy e).2) O9 fun f c H2 s2 I2 k2 hf hc _ => ⟨.ref f, H2, I2, rfl, f, c, rfl, k2, hf, hc⟩)) fun ws s2 ⟨zs, H2, I2, rz, f, c, e2, k2, hf, hc⟩ => ?_
 subst e2
 obtain ⟨u, rfl, ru⟩ := rz.one
 cases ru
 obtain ⟨v, rfl, rv⟩ := r1.one
 cases rep1 with
 | @lst p us' _ hq rr =>
   cases rv
   show wpAny _ _ (call (.builtin "sorted") [.ref p] [(Str.ofString "key", .ref f)]) _ _ s2
   have hlen := rr.length
   refine Dq (J := fun H3 => ∃ Z3, aA H2 H3 /\ aA H2 Z3 /\ aA Z3 H3 /\ ∀ a o, H3 a = some o -> gq o = true -> Z3 a = some o) (kz := ds.map g) I2 (k2.seq hq) (by rw [aaz, hlen]) (by omega)
     ⟨H2, .refl _, .refl _, .refl _, fun _ _ q _ => q⟩ (fun i x kk hx XJ gk s' u H3 I3 ⟨Z3, a1, a2, a3, a4⟩ rx => ?_) fun D H3 ⟨Z3, a1, a2, a3, a4⟩ hD => ?_
   . obtain ⟨d, hd, rd⟩ := rr.EC hx
     have ek : kk = g d := by
       rw [aa0, hd] at XJ
       exact (aaH XJ).symm
     subst ek
     refine Fo sc I3 I3.ok.frames (I3.ok.hd g0.calm) dp (a1 _ _ hf) (a1 _ _ hc) rx yX Ws Pa ?_
     have S0 : bP X.K CL ⟨H3, Z3⟩ H3 Z3 (some (.sh d) :: tK δ1 ix) (oj σ ix (some x)) [] [] :=
       ⟨⟨[] ++ [], [], .cons (.sh (rd.mono (k2.trans a2))) ((qW S1 ix H3).mono (k2.trans a2) fun a ha => by cases ha), .nil, abE, fun a ha => by cases ha⟩, .refl _, .refl _, a3, fun a o q z => (by have z' : Z3 a = none := z; rw [show Z3 a = some o from q] at z'; cases z'), a4, S1.C4.mono (k2.trans a2)⟩
     refine inner f c s' H3 ⟨H3, Z3⟩ d (aa5 hd) H3 Z3 _ [] [] _ S0 fun v H5 Z5 z5 k5 S5 r5 => ⟨?_, Z5, a1.trans k5, a2.trans z5, S5.zh, S5.tp⟩
     cases r5
     rfl
   . obtain ⟨Z', z', S4⟩ := S1.back (t := .sh (.int 0)) (v := .int 0) (fp := []) (k2.trans a1) S1.zh (k2.trans a2) a3 (fun a o q z => z) a4 (.sh (.int 0)) abE (fun a ha => by cases ha) (.inr rfl)
     obtain ⟨c5, S5⟩ := (bP.qT (Dr (g := g) ((aC.iP S1.tp hi rr).mono z')) S4.pop).oh (g0 := []) (by simp [lG, iC, hlen]) hD
     exact k _ _ _ (z1.trans z') ((k1.trans (k2.trans a1)).trans c5) S5
variable {A : Around} {f c : Addr} {s : Shared} {H : Hp} {i : Nat} {x : Str}
theorem Fp (h1 : Nc[i]? = some x) (h2 : scope.names.lookup x = some .local) (hd : (x == ("__debug__" : Str)) = false := by decide) (gI : (x == ("__classdict__" : Str)) = false := by decide) : Vn (rA X A q scope Nc f c s H) i x := ⟨h1, .inl h2, hd, gI⟩
theorem Fq (h1 : Nc[i]? = some x) (h2 : scope.names.lookup x = some .free) (hd : (x == ("__debug__" : Str)) = false := by decide) (gI : (x == ("__classdict__" : Str)) = false := by decide) : Vn (rA X A q scope Nc f c s H) i x := ⟨h1, .inr (.inr h2), hd, gI⟩
theorem Ph (h2 : scope.names.lookup x = some .globalImplicit) : Gl (rA X A q scope Nc f c s H) x := h2
end
theorem Jc {P : Program} {w : World} {K : PySem.W.Frag} {mg : Str -> Option Value} {base : Heap} {x qual : Str} {st : Stmt} {f : Addr} {fd : FuncData} {N ps : List Str} {k : Nat} {sp : Sp} (F : jx K x qual st f fd) (S : aP N ps (aq st)) (len : ∀ vs H Q E, sp vs H Q E -> vs.length = ps.length)
   (yp : ∀ (c6 : Value) (A : Around) (outer : List Env) (s : Shared) (H : Hp) (vs : List V) (Q : VK) (E : XK), fd.code = c6 -> dF k (A.deeper (envOfC qual (aq st) s.heap.objs.size f c6)) -> sp vs H Q E →
     ∃ t, z6 (qM fQ P w K mg base N qual (aq st) f c6 A outer s H E).Hs (eF st) t /\ t { nx := fun _ H' => Q .non H', rt := Q } (L2.start N vs) H) : bR P w K mg base fQ (k + 1) f fd ps sp := by
 obtain ⟨oc, od, kV, doc, pm, an, c6, ct, D4, rfl, lk, gI⟩ := F.ex
 refine Mj lk gI S len fun A outer s H vs Q E hr Ht => ?_
 obtain ⟨t, h, q⟩ := yp c6 A outer s H vs Q E rfl hr Ht
 exact ⟨t, h.Hs, q⟩
theorem za {P : Program} {w : World} {K : PySem.W.Frag} {mg : Str -> Option Value} {base : Heap} {CL : Str -> Addr} {x qual : Str} {st : Stmt} {f : Addr} {fd : FuncData} {N ps : List Str} {k : Nat} {A : Type} {arg : A -> List D} {Pre : A -> Prop} {res : A -> T} (F : jx K x qual st f fd) (S : aP N ps (aq st))
   (hb : ∀ (c6 : Value) (Ar : Around) (outer : List Env) (s : Shared) (H : Hp) (E : XK) (b : Bx) (a : A), fd.code = c6 -> dF k (Ar.deeper (envOfC qual (aq st) s.heap.objs.size f c6)) -> Pre a →
     d9 (qM fQ P w K mg base N qual (aq st) f c6 Ar outer s H E).Hs CL b (eF st) (entry N (arg a)) { nx := fun _ => res a = .sh .non, rt := fun t _ => t = res a }) :
   bR P w K mg base fQ (k + 1) f fd ps (lF K CL ps.length arg Pre res) := by
 refine Jc F S (fun vs H Q E h => ?_) (fun c6 Ar outer s H vs Q E gI hr h => ?_)
 . obtain ⟨W, a, _, _, r, hl, _⟩ := h
   rw [← r.length]; exact hl
 . obtain ⟨W, a, wh, tp, r, hl, hp, tb, kk⟩ := h
   refine ⟨_, Ij, hb c6 Ar outer s H E ⟨H, W⟩ a gI hr hp H W _ [] [] _ ⟨⟨[], [], ?_, .nil, abE, fun a ha => by cases ha⟩, .refl _, .refl _, wh, fun a o q z => ?_, tp, tb⟩ ⟨fun δ' σ' H' Z' s' S' e => ?_, fun t v H' Z' δ' σ' s' S' e => ?_, fun _ _ _ _ _ _ e => e.elim, fun _ _ _ _ _ _ e => e.elim⟩⟩
   . unfold entry L2.start
     rw [← r.length]
     exact gu _ r
   . have q' : W a = some o := q
     have z' : W a = none := z
     rw [q'] at z'; cases z'
   . exact kk .non H' Z' [] S'.bh S'.zz S'.zh S'.new S'.tp (by rw [show res a = .sh .non from e]; exact .sh .non) abE fun a ha => by cases ha
   . have e' : t = res a := e
     subst e'
     obtain ⟨fp, gp, _, r', nd, own⟩ := S'.rep
     cases r' with
     | @cons _ _ _ _ f1 f2 r1 r2 =>
       have h1 := (aa9.mp nd).2.1
       exact kk v H' Z' f1 S'.bh S'.zz S'.zh S'.new S'.tp r1 (aa9.mp h1).1 fun a ha => own a (aao _ (aaJ _ ha))
def rD (mg : Str -> Option Value) (base : Heap) : Prop := ∃ bm o, mg "__builtins__" = some (.ref bm) /\ bm ≠ builtinsNs /\ bm ≠ mainGlobals /\ base.get? bm = some o /\ o.cls = .type "module" /\ o.dict = some builtinsNs /\ o.data = .plain
theorem S9 {CX : Es} {P : Program} {w : World} {K : PySem.W.Frag} {mg : Str -> Option Value} {base : Heap} {N : List Str} {qual : Str} {scope : Scope} {f c : Addr} {c6 : Value} {A : Around} {outer : List Env} {s : Shared} {H : Hp} {E : XK} {CL : Str -> Addr} {tx q : Str} {fd : FuncData}
   (bl : rD mg base) (kb : K.In base) (hc : fd.code = c6) (hf : fd.code = .ref c) (hd : PySem.W.codeHdIn K c (CL tx) = true) (h0 : CL tx ≠ 0) (hq : Am tx = q := by decide +kernel) (ht : yy tx = true := by decide +kernel) (hn : qual ++ ".<locals>." ++ "<lambda>" = q := by decide +kernel) :
   Fl (qM CX P w K mg base N qual scope f c6 A outer s H E).Hs CL tx q :=
 ⟨⟨c, hc.symm.trans hf, PySem.W.codeHd_of_K kb hd⟩, bl, hn, ht, h0, hq⟩
def spT (K : PySem.W.Frag) (ts : List (Addr × Str)) {A : Type} (n : Nat) (arg : A -> List D) (Pre : A -> Prop) (res : A -> T) : Sp := fun vs H Q _ =>
 ∃ (W : Hp) (a : A), aA W H /\ (∀ c o, H c = some o -> gq o = true -> W c = some o) /\ aC K (fun _ => 0) W (arg a) vs /\ (arg a).length = n /\ Pre a /\ (∀ p ∈ ts, W p.1 = some (.tabs p.2)) ∧
   ∀ v H' W' fp, aA H H' -> aA W W' -> aA W' H' -> (∀ c o, W' c = some o -> W c = none -> H c = none) -> (∀ c o, H' c = some o -> gq o = true -> W' c = some o) →
     ck K (fun _ => 0) H' W' (res a) v fp -> fp.Nodup -> (∀ c ∈ fp, W' c = none /\ H c = none) -> Q v H'
theorem Jd {K : PySem.W.Frag} {CL : Str -> Addr} {ts : List (Addr × Str)} {arg : List Int -> List D} {pre : List Int -> Prop} {res : List Int -> T} (ha : ∀ a, arg a = [.lst (a.map .int)]) (hr : ∀ a, res a = .sh (.bl true)) (h0 : ∀ x, yy x = true -> CL x ≠ 0 -> (CL x, Am x) ∈ ts) :
   ∀ (vs : List V) (H : Hp) (Q : VK) (E : XK), spT K ts 1 arg pre res vs H Q E -> lF K CL 1 arg pre res vs H Q E := by
 rintro vs H Q E ⟨W, a, h1, h2, h3, h4, h5, h6, k⟩
 have Pj : ∀ {l : List Int} {us : List V}, aC K (fun _ => 0) W (l.map .int) us -> aC K CL W (l.map .int) us := by
   intro l
   induction l with
   | nil => intro us r; cases r; exact .nil
   | cons i l ih =>
     intro us r
     cases r with
     | cons r t => cases r; exact .cons (.int i) (ih t)
 refine ⟨W, a, h1, h2, ?_, h4, h5, fun x hx e => h6 _ (h0 x hx e), fun v H' W' fp a1 a2 a3 a4 a5 r nd own => k v H' W' fp a1 a2 a3 a4 a5 ?_ nd own⟩
 . rw [ha] at h3 ⊢
   cases h3 with
   | cons r t =>
     cases t
     cases r with
     | lst q rr => exact .cons (.lst q (Pj rr)) .nil
 . rw [hr] at r ⊢
   cases r with
   | sh r => cases r; exact .sh (.bl _)
theorem Je {K : PySem.W.Frag} {H : Hp} {a : Addr} {ts : List (Addr × Str)} {arg : List Int -> List D} {pre : List Int -> Prop} {res : List Int -> T} {ns : List Int} (ha : arg ns = [.lst (ns.map D.int)]) (hp : pre ns) (hr : res ns = .sh (.bl true)) (hS : j5 K H a (ns.map V.int)) (ht : ∀ p ∈ ts, H p.1 = some (.tabs p.2)) :
   spT K ts 1 arg pre res [.ref a] H (fun v H' => v = .bl true /\ ∀ p ∈ ts, H' p.1 = some (.tabs p.2)) fun _ _ _ => False :=
 ⟨H, ns, .refl _, fun _ _ q _ => q, by rw [ha]; exact .cons (.lst hS (yJ ns)) .nil, by rw [ha]; rfl, hp, ht, fun v H' W' fp hh _ _ _ _ r _ _ => by
   refine ⟨?_, fun p hp => hh _ _ (ht p hp)⟩
   rw [hr] at r
   cases r with
   | sh r => exact r.sc rfl⟩
theorem iE : ∀ {ts : List (Addr × Str)} {b : Addr} {q : Str}, ts.lookup b = some q -> (b, q) ∈ ts
 | [], _, _, e => by cases e
 | (c, x) :: r, b, q, e => by
   rw [aaS] at e
   cases hb : b == c with
   | true => rw [hb] at e; cases e; rw [eq_of_beq hb]; exact .head _
   | false => rw [hb] at e; exact .tail _ (iE e)
theorem Ds {P : Program} {w : World} {K : PySem.W.Frag} {mg mb : Str -> Option Value} {k : Nat} {fa a : Addr} {fd : FuncData} {x : Str} {sp : Sp} {s₁ : Shared} {vs : List Value} {ns : List Int} {ts : List (Addr × Str)}
   (KX : K.In s₁.heap) (UZ : s₁.heap.Ns mainGlobals mg) (hb : s₁.heap.Ns builtinsNs mb) (Zv : ∀ x : Str, x ≠ "__name__" -> mb x = bootBuiltins x) (Ww : s₁.heap.NoLimit) (hg : s₁.gens = #[]) (U1 : rD mg s₁.heap)
   (ha : s₁.heap.get? a = some { cls := .type "list", data := .seq vs.toArray }) (hi : IntsAre vs ns) (hl : ns.length <= sizeLine) (hr : dF k callerA)
   (hT : ∀ p ∈ ts, s₁.heap.get? p.1 = some (PySem.W.tabObj #[]) /\ ts.lookup p.1 = some p.2 /\ K.lookup p.1 = none /\ ∃ c, PySem.W.CodeHd s₁.heap c p.1)
   (F : ∀ base : Heap, K.In base -> base.Ns mainGlobals mg -> rD mg base -> bR P w K mg base fQ k fa fd [x] sp) (yX : ∀ (s : Shared) (u : Value), BindsTo s fd ⟨[u], []⟩ [(x, u)])
   (Ht : ∀ H : Hp, j5 K H a (ns.map V.int) -> (∀ p ∈ ts, H p.1 = some (.tabs p.2)) -> sp [.ref a] H (fun v H' => v = .bl true /\ ∀ p ∈ ts, H' p.1 = some (.tabs p.2)) fun _ _ _ => False) :
   codeAny (model P w) callerA (.call (.ref fa) ⟨[.ref a], []⟩) (fun r s' => r = .ok (.ret (.bool true)) /\ OldK s₁.heap s'.heap /\ s'.os = s₁.os /\ AllBare s'.gens) s₁ := by
 have rv := t6 hi
 have Wx := hi.length
 have aT : ∀ p ∈ ts, p.1 ≠ a := fun p hp z => by
   have := (hT p hp).1
   rw [z, ha] at this; cases this
 have core : ∀ H : Hp, (∀ b, H b = none \/ (∃ o xs, b = a /\ H b = some (.cZ o (.lst xs))) \/ ∃ p ∈ ts, b = p.1 /\ H b = some (.tabs p.2)) -> j5 K H a (ns.map V.int) -> (∀ p ∈ ts, H p.1 = some (.tabs p.2)) -> pS P w H s₁.heap -> (H a ≠ none -> K.lookup a = none) →
     codeAny (model P w) callerA (.call (.ref fa) ⟨[.ref a], []⟩) (fun r s' => r = .ok (.ret (.bool true)) /\ OldK s₁.heap s'.heap /\ s'.os = s₁.os /\ AllBare s'.gens) s₁ := by
   intro H hO hS hH cU hK
   have Q8 : ∀ {b : Addr} {o : Obj}, s₁.heap.get? b = some o -> o ≠ { cls := .type "list", data := .seq vs.toArray } -> o ≠ PySem.W.tabObj #[] -> H b = none := fun {b o} e d1 d2 => by
     rcases hO b with q | ⟨_, _, z, _⟩ | ⟨p, hp, z, _⟩
     . exact q
     . rw [z, ha] at e; exact absurd (aaH e).symm d1
     . rw [z, (hT p hp).1] at e; exact absurd (aaH e).symm d2
   have vh : ∀ {b : Addr} {o : Obj}, s₁.heap.get? b = some o -> H b = none -> (tD s₁.heap H).get? b = some o := fun e n => Eb e n
   have U3 : ∀ {b : Addr} {m : Str -> Option Value}, s₁.heap.Ns b m -> (tD s₁.heap H).Ns b m := fun {b m} ⟨o, es, ep, e, d, r⟩ => ⟨o, es, ep, vh e (Q8 e (fun z => by rw [z] at d; cases d) fun z => by rw [z] at d; cases d), d, r⟩
   have XM : K.In (tD s₁.heap H) := fun b o e => vh (KX b o e) (by
     rcases hO b with q | ⟨_, _, z, q⟩ | ⟨p, hp, z, _⟩
     . exact q
     . subst z
       rw [hK (by rw [q]; simp)] at e; cases e
     . rw [z, (hT p hp).2.2.1] at e; cases e)
   have hM : Mod K mg (tD s₁.heap H) := ⟨XM, U3 UZ, ⟨mb, U3 hb, Zv⟩, let ⟨mc, h1, h2⟩ := Ww; ⟨mc, U3 h1, h2⟩⟩
   have Zw : rD mg (tD s₁.heap H) := by
     obtain ⟨bm, o, b1, b2, b3, b4, b5, b6, b7⟩ := U1
     exact ⟨bm, o, b1, b2, b3, vh b4 (Q8 b4 (fun z => by rw [z] at b7; cases b7) fun z => by rw [z] at b7; cases b7), b5, b6, b7⟩
   have e0 : Ag P w K mg (tD s₁.heap H) callerA [] s₁ H := ⟨rfl, hM, fun b o e => Hw e, Nat.le_of_eq (CD _ _), trivial, fun b hb => absurd (show b ∈ ([] : List Addr) from hb) (by simp), cU, .of_eq hg⟩
   refine codeAny_mono ((F _ XM (U3 UZ) Zw).run callerA [] s₁ H ⟨[.ref a], []⟩ [.ref a] [.ref a] _ _ hr e0 (yX s₁ (.ref a)) (.cons rfl .nil) (Ht H hS hH)) fun r s' h => ?_
   cases r with
   | error e => exact h.elim
   | ok fl =>
     cases fl with
     | next => exact False.elim h
     | brk => exact False.elim h
     | cont => exact False.elim h
     | ret u =>
       obtain ⟨v, H', os, bare, un, Tc, r', q, qt⟩ := h
       subst q
       obtain rfl : u = Value.bool true := r'
       have tabAt : ∀ p ∈ ts, ∃ ps : Array Value, s'.heap.get? p.1 = some (PySem.W.tabObj ps) := fun p hp => by
         obtain ⟨ps, e, _⟩ := Tc _ _ (qt p hp)
         exact ⟨ps, e⟩
       have keep : ∀ b o, s₁.heap.get? b = some o -> (∀ p ∈ ts, b ≠ p.1) -> s'.heap.get? b = some o := fun b o e nt => by
         rcases hO b with q | ⟨ob, xs, z, q⟩ | ⟨p, hp, z, _⟩
         . exact un.keep b o e q (by intro z; exact absurd (show b ∈ ([] : List Addr) from z) (by simp)) (by simp)
         . have z2 := un.fV b ob _ q
           obtain ⟨e1, _⟩ := cU b _ q
           obtain ⟨e2, _⟩ := Tc b _ z2
           rw [e] at e1; cases e1
           exact e2
         . exact absurd z (nt p hp)
       refine ⟨rfl, ⟨fun b o e => ?_, fun b o e => ?_⟩, os, bare⟩
       . by_cases nt : ∀ p ∈ ts, b ≠ p.1
         . exact .inl (keep b o e nt)
         . obtain ⟨p, hp, rfl⟩ : ∃ p ∈ ts, b = p.1 := Classical.byContradiction fun q => nt fun p hp z => q ⟨p, hp, z⟩
           obtain ⟨h1, _, _, c, hc⟩ := hT p hp
           obtain ⟨ps, e2⟩ := tabAt p hp
           rw [h1] at e; cases e
           exact .inr (.inl ⟨(hc.tab h1).isCodeTable, rfl, #[], ps, rfl, by rw [Array.empty_append]; exact e2⟩)
       . by_cases nt : ∀ p ∈ ts, b ≠ p.1
         . exact ⟨o, keep b o e nt⟩
         . obtain ⟨p, hp, rfl⟩ : ∃ p ∈ ts, b = p.1 := Classical.byContradiction fun q => nt fun p hp z => q ⟨p, hp, z⟩
           obtain ⟨ps, e2⟩ := tabAt p hp
           exact ⟨_, e2⟩
 have tok : ∀ {H : Hp} {b : Addr} {q : Str}, ts.lookup b = some q -> fG P w H s₁.heap b (.tabs q) := fun {H b q} e => by
   obtain ⟨h1, _⟩ := hT (b, q) (iE e)
   exact ⟨#[], h1, trivial, fun pos cv z => by simp [codeAmong] at z⟩
 cases hk : K.lookup a with
 | some o =>
   have e := KX a o hk
   rw [ha] at e
   cases e
   refine core (fun b => (ts.lookup b).map HO.tabs) (fun b => ?_) (.inr ⟨_, vs.toArray, _, hk, rfl, rfl, rfl, by rw [List.size_toArray, Wx]; exact hl, by simpa using rv⟩) (fun p hp => ?_) (fun b u z => ?_) fun z => ?_
   . cases q : List.lookup b ts with
     | none => left; rfl
     | some t => right; right; exact ⟨(b, t), iE q, rfl, rfl⟩
   . show (ts.lookup p.1).map HO.tabs = _
     rw [(hT p hp).2.1]; rfl
   . have z' : (ts.lookup b).map HO.tabs = some u := z
     cases q : List.lookup b ts with
     | none => rw [q] at z'; cases z'
     | some t => rw [q] at z'; cases z'; exact tok q
   . exfalso
     apply z
     show (ts.lookup a).map HO.tabs = none
     cases q : ts.lookup a with
     | none => rfl
     | some t => exact absurd rfl (aT (a, t) (iE q))
 | none =>
   refine core (fun b => if b = a then some (.cZ { cls := .type "list", data := .seq vs.toArray } (.lst (ns.map V.int))) else (ts.lookup b).map HO.tabs) (fun b => ?_) (.inl (.inr ⟨{ cls := .type "list", data := .seq vs.toArray }, aar rfl⟩)) (fun p hp => ?_) (fun b u z => ?_) fun _ => hk
   . by_cases hb : b = a
     . exact .inr (.inl ⟨_, _, hb, aar hb⟩)
     . cases q : List.lookup b ts with
       | none => left; rw [aap hb]; rfl
       | some t => right; right; exact ⟨(b, t), iE q, rfl, by rw [aap hb]; rfl⟩
   . show (if p.1 = a then _ else (ts.lookup p.1).map HO.tabs) = _
     rw [aap (aT p hp), (hT p hp).2.1]; rfl
   . by_cases hb : b = a
     . have z' := (aar hb).symm.trans z
       cases z'
       subst hb
       exact ⟨ha, by rw [aaz]; exact hl, vs, _, rv, ha⟩
     . have z' : (ts.lookup b).map HO.tabs = some u := (aap hb).symm.trans z
       cases q : List.lookup b ts with
       | none => rw [q] at z'; cases z'
       | some t => rw [q] at z'; cases z'; exact tok q
theorem Ft {l : PySem.W.OpenLaw} {n k : Nat} {q : Program} {loose : List Str} {XP : (Str -> Option Value) -> Heap -> Prop} {YP : World -> Heap -> Prop} {d : DefRec} {K : Params -> PySem.W.Frag} {sp : World -> List (Addr × Str) -> Sp} {x : Str} {T0 : List Addr}
   (hn : l.most = some n) (UK : n <= sizeLine) (R9 : d.params.defaults = []) (hr : dF k callerA)
   (hY : ∀ (w : World) (h : Heap), YP w h -> (K w.params).In h) (hT : ∀ (w : World) (h : Heap), YP w h -> ∀ P ∈ T0, h.get? P = some (PySem.W.tabObj #[]))
   (F : ∀ (w : World) (mg : Str -> Option Value) (fa : Addr) (h : Heap), (K w.params).In h -> h.Ns mainGlobals mg -> mg d.name = some (.ref fa) →
     ∃ (fd : FuncData) (ts : List (Addr × Str)), (∀ p ∈ ts, p.1 ∈ T0 /\ ts.lookup p.1 = some p.2 /\ (K w.params).lookup p.1 = none /\ ∃ c, PySem.W.CodeHd h c p.1) /\ (∀ (s : Shared) (u : Value), BindsTo s fd ⟨[u], []⟩ [(x, u)]) ∧
       ∀ base : Heap, (K w.params).In base -> base.Ns mainGlobals mg -> rD mg base -> bR l.prog w (K w.params) mg base fQ k fa fd [x] (sp w ts))
   (Ht : ∀ (w : World) (ts : List (Addr × Str)) (H : Hp) (a : Addr) (ns : List Int), ns.length <= n -> j5 (K w.params) H a (ns.map V.int) -> (∀ p ∈ ts, H p.1 = some (.tabs p.2)) -> sp w ts [.ref a] H (fun v H' => v = .bl true /\ ∀ p ∈ ts, H' p.1 = some (.tabs p.2)) fun _ _ _ => False) :
   PySem.W.WalkO q loose XP YP l.row.toRowW d [] (fun f vs => PySem.call f vs) := by
 refine Xj.yw hn R9 fun w s₀ s₁ mg mb fa o pm cd doc a vs ns G Y ho hd gI Sb N4 hints hlen hg => ?_
 have KX := hY w _ Y
 obtain ⟨fd, ts, XO, hb, hF⟩ := F w mg fa _ KX G.T.g Sb
 obtain ⟨bm, ob, b1, b2, b3, b4, b5, b6⟩ := G.T.bmain
 have Zx : bm ≠ mainGlobals := fun q => by
   obtain ⟨o, es, ep, e, hd, _⟩ := G.T.g
   rw [q, e] at b3; cases b3; rw [hd] at b6; cases b6
 exact Ds KX G.T.g G.T.b G.T.builtins G.T.nolimit hg ⟨bm, ob, b1, b2, Zx, b3, b4, b5, b6⟩ N4 hints (abb hlen UK) hr (fun p hp => ⟨hT w _ Y _ (XO p hp).1, (XO p hp).2⟩) hF hb fun H hS ht => Ht w ts H a ns hlen hS ht
def Wy (y : Int) : Value -> Bool
 | .int i _ => i == y
 | _ => false
section
variable {X : Cx}
theorem Fv : Xg X "list.index" (fun x xs H Q => ∃ (p : Addr) (l : List Int) (y : Int) (j : Nat), x = .ref p /\ xs = [.int y] /\ j5 X.K H p (l.map .int) /\ l[j]? = some y /\ (∀ i, i < j -> l[i]? ≠ some y) /\ Q (.int (j : Int)) H) := by
 intro pins s σ H x xs v us Q I rx rs h
 obtain ⟨p, l, y, j, rfl, rfl, hq, hj, Wz, q⟩ := h
 cases rx
 obtain ⟨u, rfl, ru⟩ := rs.one
 obtain ⟨t, rfl⟩ := ru
 obtain ⟨its, r, ⟨⟨oc, od, oda, D4⟩, n, e, hc, hd, hs⟩, hz⟩ := I.list hq
 dsimp only at hc hd hs
 subst hc hd hs
 have hi := intsAre_of r
 have at' : ∀ {i : Nat} (hi : i < its.toArray.size), ∃ k t, its.toArray[i] = .int k t /\ l[i]? = some k := fun {i} mL => by
   have WB : i < its.length := by simpa using mL
   have hl : i < l.length := by have := r.length; rw [aaz] at this; omega
   obtain ⟨u, e1, e2⟩ := r.get (i := i) (x := .int l[i]) (by rw [aa0, aaq hl]; rfl)
   obtain ⟨t, rfl⟩ := e2
   refine ⟨l[i], t, ?_, aaq hl⟩
   rw [aaq WB] at e1
   simpa using Option.some.inj e1
 have BV : j < its.toArray.size := by
   have h1 := (aaP.mp hj).1
   have := r.length
   rw [aaz] at this
   simp; omega
 have Ab : its.toArray.size <= sizeLine := by
   have := r.length
   rw [aaO, ← this]; exact hz
 refine call_meets F.slot_list_index ⟨_, e, rfl⟩ F.entry_list_index (F.args_list_index_2 _ _) (SeqAt.list_indexAt p its.toArray n none D4 (.int y t) (Wy y) j BV (by rw [aaX] at Ab; omega) ?hit fun m hm Zy => ?no) ⟨e, fun w hw => ?eqs, ?_⟩
 case hit =>
   obtain ⟨k, t', e1, e2⟩ := at' BV
   rw [e1]
   rw [hj] at e2
   cases e2
   exact abF y
 case no =>
   obtain ⟨k, t', e1, e2⟩ := at' hm
   rw [e1]
   exact abQ.mpr fun z => Wz m Zy (by rw [e2, z])
 case eqs =>
   obtain ⟨i, mL, rfl⟩ := Array.mem_iff_getElem.mp hw
   obtain ⟨k, t', e1, e2⟩ := at' mL
   rw [e1]
   exact SeqAt.EqAt.int_int k t' y t
 exact ⟨.int (j : Int), H, I.tok _, ⟨_, rfl⟩, q⟩
end
section
variable {X : Cx} {CL : Str -> Addr} {b : Bx} {δ δ1 δ2 : List (Option T)} {o e : Expr} {apos pos : Pos}
theorem Fw {l : List Int} {y : Int} {j : Nat} (h1 : cA X CL b o δ (.lst (l.map .int)) δ1) (h2 : cA X CL b e δ1 (.int y) δ2) (hj : l[j]? = some y) (Wz : ∀ i, i < j -> l[i]? ≠ some y)
   (qO : attributeBase o "index" X.env (eval o X.env) = eval o X.env := by rfl) (Aj : ((backTo pos (starEach [e] X.env)).all (fun x => !x.1) && (backToKw pos (keywordEach [] X.env)).all (fun x => x.1.isSome)
     && decide (([e] : List Expr).length + ([] : List Keyword).length + (if ([] : List Keyword).isEmpty then 0 else 1) < 30)) = true := by rfl)
   (hline : (apos.endLine == pos.line) = true := by rfl) (hs : starEach [e] X.env = (false, eval e X.env) :: starEach [] X.env := by exact bN rfl) (Ak : (backTo pos (starEach [] X.env)).any (·.1) = false := by rfl) :
   bX X CL b (.Call (.Attribute o "index" apos) [e] [] pos) δ (.sh (.int (j : Int))) δ2 := fun H Z σ ts vs Q S k =>
 cV (Mm (T := "list") (id := "list.index") F.plainAttrs_list F.slot_list_index F.type_list_index Fv dR (cz dR eU hs) qO Aj hline hs Ak) (h1 H Z σ ts vs _ S fun v1 H1 Z1 z1 k1 S1 r1 => by
   cases r1 with
   | @lst a us _ hq rr =>
     have := ud rr
     subst this
     refine ⟨?_, h2 H1 Z1 σ ts vs _ S1 fun v2 H2 Z2 z2 k2 S2 r2 => ?_⟩
     . exact .inl ⟨rfl, _, hq⟩
     . cases r2
       exact ⟨a, l, y, j, rfl, rfl, k2.seq hq, hj, Wz, k _ H2 Z2 (z1.trans z2) (k1.trans k2) (S2.push (.int _))⟩)
end
section
variable {X : Cx} {CL : Str -> Addr} {b : Bx} {δ : List (Option T)} {e : Expr} {es : List Expr} {d : L3.D} {ds : List L3.D}
theorem mV (h1 : bX X CL b e δ (.sh d) δ) (h2 : An X CL b es δ (ds.map T.sh) δ) (hs : starEach (e :: es) X.env = (false, eval e X.env) :: starEach es X.env := by exact bN rfl) : An X CL b (e :: es) δ ((d :: ds).map T.sh) δ := aH h1 h2 hs
end
theorem BW {k : Nat} {A : Around} (r : dF k A) : A.depth < recursionLimit := by
 have := r.dp
 omega
section
variable {X : Cx} {CL : Str -> Addr} {b : Bx} {δ δ1 : List (Option T)} {scope : Scope} {y : Str} {Nc : List Str} {ix : List Nat} {elt iter : Expr} {ifs : List Expr} {px pos : Pos} {p : L3.D -> Bool} {g : L3.D -> T} {ds : List L3.D}
end
section
variable {X : Cx}
end
section
variable {X : Cx} {CL : Str -> Addr} {b : Bx} {δ δ1 : List (Option T)} {e : Expr} {pos pp pq pr : Pos}
end
section
variable {X : Cx} {CL : Str -> Addr} {b : Bx} {δ δ1 : List (Option T)} {ds : List L3.D} {i q : Nat} {x y : Str} {pos pp pos' : Pos}
end
end L3
namespace Law
open PySem L2 L3
def top (i : Nat) : Stmt := PySem.Challenge.pw_moodtree_k31_what_a_leaf_may_go.main.body.getD i (.Pass ⟨0, 0, 0, 0⟩)
def n6 : Nat -> List Int -> Int -> List Int
 | 0, _, _ => []
 | n + 1, es, k => if k = -1 then [] else k :: n6 n es (es.getD k.toNat 0)
def eS (es : List Int) (m : Int) : List Int := n6 (es.length + 1) es (es.getD m.toNat 0)
def gX (es : List Int) : Prop := ∀ k : Nat, k < es.length -> -1 <= es.getD k 0 /\ es.getD k 0 < k
theorem gX.at {es : List Int} (h : gX es) {k : Int} (h0 : 0 <= k) (h1 : k < es.length) : -1 <= es.getD k.toNat 0 /\ es.getD k.toNat 0 < k := by
 have := h k.toNat (by omega)
 omega
def rE (ks : List Str) (es ss : List Int) : L3.D := .ins "Tree" [("kinds", .lst (ks.map .str)), ("elders", .lst (es.map .int)), ("starts", .lst (ss.map .int))]
theorem AA {ks : List Str} {es ss : List Int} : List.lookup ("kinds" : Str) [(("kinds" : Str), L3.D.lst (ks.map .str)), ("elders", .lst (es.map .int)), ("starts", .lst (ss.map .int))] = some (.lst (ks.map .str)) := mS
theorem jK {ks : List Str} {es ss : List Int} : List.lookup ("elders" : Str) [(("kinds" : Str), L3.D.lst (ks.map .str)), ("elders", .lst (es.map .int)), ("starts", .lst (ss.map .int))] = some (.lst (es.map .int)) := by
 rw [fD (by decide +kernel), mS]
theorem zb {ks : List Str} {es ss : List Int} : List.lookup ("starts" : Str) [(("kinds" : Str), L3.D.lst (ks.map .str)), ("elders", .lst (es.map .int)), ("starts", .lst (ss.map .int))] = some (.lst (ss.map .int)) := by
 rw [fD (by decide +kernel), fD (by decide +kernel), mS]
theorem dD (ds : List L3.D) : T.cZ (.lst (ds.map T.sh)) = .lst ds := by rw [T.cZ, fX]
theorem cM (l : List Int) : (T.lst ((l.map L3.D.int).map T.sh)).clean = true := by rw [gi]; exact pI _
theorem rG (l : List Str) : (T.lst ((l.map L3.D.str).map T.sh)).clean = true := by
 rw [gi]
 induction l with
 | nil => rfl
 | cons x l ih => exact ih
def jv (ks : List Str) (es ss : List Int) : List (Str × T) := [("kinds", .lst ((ks.map .str).map T.sh)), ("elders", .lst ((es.map .int).map T.sh)), ("starts", .lst ((ss.map .int).map T.sh))]
theorem Dt (ks : List Str) (es ss : List Int) : T.cZ (.ins "Tree" (jv ks es ss)) = rE ks es ss := by
 unfold jv
 rw [T.cZ, T.lA, T.lA, T.lA, T.lA, dD, dD, dD]
 rfl
theorem pM (ks : List Str) (es ss : List Int) : T.aV (jv ks es ss) = true := by
 unfold jv
 rw [T.aV, T.aV, T.aV, T.aV, rG, cM, cM]
 rfl
theorem vm {es : List Int} (h : gX es) : ∀ (n : Nat) {k x : Int}, -1 <= k -> k < es.length -> x ∈ n6 n es k -> 0 <= x /\ x <= k
 | 0, k, x, _, _, hx => by rw [n6] at hx; cases hx
 | n + 1, k, x, h0, h1, hx => by
   rw [n6] at hx
   split at hx
   . cases hx
   . rename_i hk
     have ha := h.at (k := k) (by omega) h1
     rcases aau.mp hx with rfl | hx
     . omega
     . have := vm h n (by omega) (by omega) hx
       omega
theorem rH {es : List Int} (h : gX es) : ∀ (a b : Nat) {k : Int}, -1 <= k -> k < es.length -> k < a -> k < b -> n6 a es k = n6 b es k
 | 0, 0, _, _, _, _, _ => rfl
 | 0, b + 1, k, h0, _, ha, _ => by
   rw [n6, n6, aar (by omega)]
 | a + 1, 0, k, h0, _, _, hb => by
   rw [n6, n6, aar (by omega)]
 | a + 1, b + 1, k, h0, h1, ha, hb => by
   rw [n6, n6]
   split
   . rfl
   . have hk := h.at (k := k) (by omega) h1
     rw [rH h a b hk.1 (by omega) (by omega) (by omega)]
theorem Fx {es : List Int} (h : gX es) {m : Int} (h0 : 0 <= m) (h1 : m < es.length) : eS es m = if es.getD m.toNat 0 = -1 then [] else es.getD m.toNat 0 :: eS es (es.getD m.toNat 0) := by
 have hm := h.at h0 h1
 unfold eS
 rw [n6]
 split
 . rfl
 . rename_i hk
   have Zz := h.at (k := es.getD m.toNat 0) (by omega) (by omega)
   rw [rH h es.length (es.length + 1) Zz.1 (by omega) (by omega) (by omega)]
theorem vn {es : List Int} (h : gX es) {m x : Int} (h0 : 0 <= m) (h1 : m < es.length) (hx : x ∈ eS es m) : 0 <= x /\ x < m /\ x < es.length := by
 have hm := h.at h0 h1
 have := vm h _ hm.1 (by omega) hx
 omega
theorem Du {es : List Int} (h : gX es) : ∀ (n : Nat) {m x : Int}, 0 <= m -> m < es.length -> m < n -> x ∈ eS es m -> ∃ pre, eS es m = pre ++ x :: eS es x /\ ∀ y ∈ pre, y ∈ eS es m /\ x ∈ eS es y
 | 0, m, x, h0, _, hn, _ => by omega
 | n + 1, m, x, h0, h1, hn, hx => by
   have hm := h.at h0 h1
   have e := Fx h h0 h1
   generalize hq : es.getD m.toNat 0 = k at hm e
   by_cases hk : k = -1
   . rw [e, aar hk] at hx; cases hx
   . rw [aap hk] at e
     rw [e] at hx
     rcases aau.mp hx with rfl | hx
     . exact ⟨[], by rw [e]; rfl, fun y hy => by cases hy⟩
     . obtain ⟨pre, p1, p2⟩ := Du h n (m := k) (by omega) (by omega) (by omega) hx
       refine ⟨k :: pre, by rw [e, p1]; rfl, fun y hy => ?_⟩
       rcases aau.mp hy with rfl | hy
       . exact ⟨by rw [e]; exact aax, hx⟩
       . exact ⟨by rw [e]; exact aay _ (p2 y hy).1, (p2 y hy).2⟩
theorem rJ {es : List Int} (h : gX es) : ∀ (n : Nat) {m : Int}, 0 <= m -> m < es.length -> m < n -> (eS es m).Pairwise (fun a b => b < a)
 | 0, m, h0, _, hn => by omega
 | n + 1, m, h0, h1, hn => by
   have hm := h.at h0 h1
   rw [Fx h h0 h1]
   split
   . exact .nil
   . rename_i hk
     have hs := rJ h n (m := es.getD m.toNat 0) (by omega) (by omega) (by omega)
     refine abz.mpr ⟨fun x hx => ?_, hs⟩
     have := vn h (m := es.getD m.toNat 0) (by omega) (by omega) hx
     omega
def uq (es : List Int) : Prop := gX es /\ ∀ k : Nat, k + 1 < es.length -> es.getD (k + 1) 0 = k \/ es.getD (k + 1) 0 ∈ eS es k
theorem BX {es : List Int} {x : Int} (h : gX es) : ∀ (n : Nat) {k : Int}, -1 <= k -> k < es.length -> n6 n (es ++ [x]) k = n6 n es k
 | 0, _, _, _ => rfl
 | n + 1, k, h0, h1 => by
   rw [n6, n6]
   split
   . rfl
   . have hk := h.at (k := k) (by omega) h1
     have e : (es ++ [x]).getD k.toNat 0 = es.getD k.toNat 0 := by
       rw [aaw, ab7 (by omega), ← aaw]
     rw [e, BX h n hk.1 (by omega)]
theorem rK {es : List Int} {x : Int} {k : Nat} (h : k < es.length) : (es ++ [x]).getD k 0 = es.getD k 0 := by
 rw [aaw, ab7 h, ← aaw]
theorem Jf {es : List Int} {x : Int} (h : gX es) {m : Int} (h0 : 0 <= m) (h1 : m < es.length) : eS (es ++ [x]) m = eS es m := by
 have hm := h.at h0 h1
 unfold eS
 rw [rK (by omega), BX h _ hm.1 (by omega), rH h _ (es.length + 1) hm.1 (by omega) (by rw [aaM]; omega) (by omega)]
theorem gX.snoc {es : List Int} (h : gX es) {x : Int} (h0 : -1 <= x) (h1 : x < es.length) : gX (es ++ [x]) := fun k hk => by
 rw [aaM] at hk
 simp only [aaL, abB] at hk
 by_cases e : k < es.length
 . rw [rK e]
   exact h k e
 . have : k = es.length := by omega
   subst this
   rw [aaw, abx (aas _)]
   simp
   omega
theorem uq.snoc {es : List Int} (h : uq es) {x : Int} {k : Nat} (hk : k + 1 = es.length) (hx : x = k \/ x ∈ eS es k) : uq (es ++ [x]) := by
 have XQ : -1 <= x /\ x < es.length := by
   rcases hx with e | e
   . omega
   . have := vn h.1 (m := (k : Int)) (by omega) (by omega) e
     omega
 refine ⟨h.1.snoc XQ.1 XQ.2, fun j hj => ?_⟩
 rw [aaM] at hj
 simp only [aaL, abB] at hj
 rw [Jf h.1 (by omega) (by omega)]
 by_cases e : j + 1 < es.length
 . rw [rK e]
   exact h.2 j e
 . have : j = k := by omega
   subst this
   have e2 : (es ++ [x]).getD (j + 1) 0 = x := by
     rw [aaw, abx (by omega), hk, Nat.sub_self]
     rfl
   rw [e2]
   exact hx
theorem mW : ∀ (n : Nat) (es : List Int) (k : Int), (n6 n es k).length <= n
 | 0, _, _ => aas _
 | n + 1, es, k => by
   rw [n6]
   split
   . exact aaY _
   . exact Nat.succ_le_succ (mW n es _)
def ur (es : List Int) (m : Int) : List Int := ((List.range es.length).filter (fun (i : Nat) => decide (es.getD i 0 = m))).map (fun (i : Nat) => (i : Int))
theorem Jg (es : List Int) (m : Int) : (ur es m).length <= es.length := by
 unfold ur
 rw [aaz]
 exact abb (List.length_filter_le _ _) (by simp)
def rL (bs nm : List L3.D) (tr : L3.D) (is os ws : List L3.D) : L3.D := .ins "Chart" [("boxes", .lst bs), ("names", .lst nm), ("tree", tr), ("ins", .lst is), ("outs", .lst os), ("ways", .lst ws)]
section
variable {bs nm is os ws : List L3.D} {tr : L3.D}
theorem rM : List.lookup ("tree" : Str) [(("boxes" : Str), L3.D.lst bs), ("names", .lst nm), ("tree", tr), ("ins", .lst is), ("outs", .lst os), ("ways", .lst ws)] = some tr := by
 rw [fD (by decide +kernel), fD (by decide +kernel), mS]
theorem lW : List.lookup ("ways" : Str) [(("boxes" : Str), L3.D.lst bs), ("names", .lst nm), ("tree", tr), ("ins", .lst is), ("outs", .lst os), ("ways", .lst ws)] = some (.lst ws) := by
 rw [fD (by decide +kernel), fD (by decide +kernel), fD (by decide +kernel), fD (by decide +kernel), fD (by decide +kernel), mS]
end
def oB (bs nm : List L3.D) : List (Str × T) := [("boxes", .lst (bs.map T.sh)), ("names", .lst (nm.map T.sh))]
def oE (is os ws : List L3.D) : List (Str × T) := [("ins", .lst (is.map T.sh)), ("outs", .lst (os.map T.sh)), ("ways", .lst (ws.map T.sh))]
def fM (bs nm : List L3.D) (t : T) (is os ws : List L3.D) : List (Str × T) := oB bs nm ++ (("tree" : Str), t) :: oE is os ws
theorem AF (bs nm : List L3.D) (t : T) (is os ws : List L3.D) : T.cZ (.ins "Chart" (fM bs nm t is os ws)) = rL bs nm t.cZ is os ws := by
 unfold fM oB oE
 rw [aaQ, aaQ, ab8, T.cZ, T.lA, T.lA, T.lA, T.lA, T.lA, T.lA, T.lA, dD, dD, dD, dD, dD]
 rfl
theorem bD {ds : List L3.D} (h : D.bO ds = true) : (T.lst (ds.map T.sh)).clean = true := by
 rw [gi]
 induction ds with
 | nil => rfl
 | cons d ds ih =>
   rw [D.bO, aa8] at h
   rw [aa3, T.dG, ih h.2, T.clean, h.1]; rfl
theorem vo {bs nm : List L3.D} (h1 : D.bO bs = true) (h2 : D.bO nm = true) : T.aV (oB bs nm) = true := by
 unfold oB
 rw [T.aV, T.aV, T.aV, bD h1, bD h2]; rfl
theorem vp {is os ws : List L3.D} (h1 : D.bO is = true) (h2 : D.bO os = true) (h3 : D.bO ws = true) : T.aV (oE is os ws) = true := by
 unfold oE
 rw [T.aV, T.aV, T.aV, T.aV, bD h1, bD h2, bD h3]; rfl
structure fN where
 src : Int
 sign : Str
 asks : List L3.D
 mX : List L3.D
 tgt : Int
 mode : Str
def dS (w : fN) : L3.D := .tup [.int w.src, .str w.sign, .tup w.asks, .tup w.mX, .int w.tgt, .str w.mode]
def bF (ns : List Int) (k : Int) : Int := if k < ns.length then ns.getD k.toNat 0 else 0
def eZ (c : Int) : Int := if c % 2 = 0 then c / 2 % 9 - 4 else if c % 4 = 1 then c / 4 * 48271 % 10 ^ 60 else -(c / 4 * 48271 % 10 ^ 60)
def Dv : List Nat := (List.range 26).map (· + 97) ++ (List.range 10).map (· + 48)
theorem Fy : ("abcdefghijklmnopqrstuvwxyz0123456789" : Str).cps.toList = Dv := by decide +kernel
def pY (k : Int) : Str := ⟨#[Dv.getD k.toNat 0]⟩
theorem Pk : ∀ n ∈ Dv, n < 1114112 := by decide +kernel
theorem Fz (k : Int) : PyData.strOk (pY k) = true := by
 unfold PyData.strOk pY
 have : Dv.getD k.toNat 0 < 1114112 := by
   rw [aaw]
   cases e : Dv[k.toNat]? with
   | none => decide
   | some n => exact Pk n (aa5 e)
 simpa [List.getD_eq_getElem?_getD] using this
def Jh (m : Int) : Int := (m * 48271 + 11) % 2147483647
def gC (p : Int × Str) : Nat -> Int × Str
 | 0 => p
 | n + 1 => (Jh (gC p n).1, (gC p n).2 ++ pY (Jh (gC p n).1 % 36))
def XR (c : Int) : Int × Str := (c / 12 % 10 ^ (9 : Int).toNat, pY (c / 12 % 10 ^ (9 : Int).toNat % 26))
theorem FD (p : Int × Str) (n : Nat) : (gC p n).2.length = p.2.length + n := by
 induction n with
 | zero => rfl
 | succ n ih =>
   show ((gC p n).2 ++ pY _).length = _
   rw [str_len, ih]
   show _ + 1 = _
   omega
theorem Td (p : Int × Str) (h : PyData.strOk p.2 = true) (n : Nat) : PyData.strOk (gC p n).2 = true := by
 induction n with
 | zero => exact h
 | succ n ih => exact oq _ _ ih (Fz _)
def Hu (c : Int) : Str := (gC (XR c) (c % 12).toNat).2
theorem BZ (c : Int) : (Hu c).length <= 12 := by
 unfold Hu
 rw [FD]
 have h1 := aaN c (show (12 : Int) ≠ 0 by decide)
 have h2 := aaF c (show (0 : Int) < 12 by decide)
 show 1 + (c % 12).toNat <= 12
 omega
def w13 : List Str := ["all", "and", "box", "call", "do", "far", "if", "in", "leaf", "near", "on", "one", "open"]
def w6 : List Str := ["out", "put", "say", "shut", "then", "to"]
def gD (c : Int) : Str := if Hu c ∈ w13 then Hu c ++ "0" else if Hu c ∈ w6 then Hu c ++ "0" else Hu c
theorem vq (c : Int) : PyData.strOk (gD c) = true := by
 have hb : PyData.strOk (Hu c) = true := Td _ (Fz _) _
 have h0 : PyData.strOk ("0" : Str) = true := by decide +kernel
 unfold gD
 split
 . exact oq _ _ hb h0
 . split
   . exact oq _ _ hb h0
   . exact hb
theorem fJ (l : List Int) : gW 60 (.lst (l.map .int)) := .lst fun d hd => by
 obtain ⟨i, _, rfl⟩ := aaW.mp hd
 exact .int _ _
def jL (mk : Str) (i j : Int) : Bool := if mk = "<" then decide (i < j) else if mk = "<=" then decide (i <= j) else if mk = "=" then decide (i = j) else !decide (i = j)
def lX (bx mo : Int) (bs : List Int) : Int := if bx = -1 then mo else bs.getD bx.toNat 0 + mo
def Te (c s : Int) : Int := (c % 2147483647 + s) * 48271 % 2147483647
def b8 (c s : Int) : Int := Te c s * Te c s % 2147483629
theorem Tf (c s : Int) : 0 <= Te c s /\ Te c s < 2147483647 := ⟨aaN _ (by decide), aaF _ (by decide)⟩
theorem vt (c s : Int) : 0 <= b8 c s := aaN _ (by decide)
def dw (c : Int) : Int := if c % 2 = 0 then c / 2 % 9 - 4 else if c % 4 = 1 then c / 4 * 48271 % (10 ^ 30 - 1) else -(c / 4 * 48271 % (10 ^ 30 - 1))
def bK (es : List Int) (k : Nat) : List Int := if (12 : Int) < (([(k : Int)] ++ eS es k).length : Nat) then cutD ([(k : Int)] ++ eS es k) (some 1) none else [(k : Int)] ++ eS es k
theorem pN {es : List Int} {k : Nat} (h : gX es) (hk : k + 1 = es.length) : 0 < (bK es k).length /\ (bK es k).length <= es.length + 2 /\ ∀ x ∈ bK es k, 0 <= x /\ x < es.length := by
 have hm : ∀ x ∈ [(k : Int)] ++ eS es k, 0 <= x /\ x < es.length := fun x hx => by
   rcases aaG.mp hx with h1 | h1
   . have : x = k := by simpa using h1
     omega
   . have ha := h.at (k := (k : Int)) (by omega) (by omega)
     have := vm h _ ha.1 (by omega) h1
     omega
 have hl : ([(k : Int)] ++ eS es k).length <= es.length + 2 := by
   have := mW (es.length + 1) es (es.getD (k : Int).toNat 0)
   rw [aaM]
   unfold eS
   simp only [aaL, abB]
   omega
 unfold bK
 split
 . rename_i WC
   have e : cutD ([(k : Int)] ++ eS es k) (some 1) none = eS es k := by
     generalize eS es k = l at WC
     unfold cutD
     have h1 : HT.pU ([(k : Int)] ++ l).length 0 (some 1) = 1 := by
       rw [aaM] at WC ⊢
       simp only [aaL, abB] at WC ⊢
       unfold HT.pU
       simp
     have h2 : HT.pU ([(k : Int)] ++ l).length ([(k : Int)] ++ l).length none = ([(k : Int)] ++ l).length := by
       unfold HT.pU
       simp
     rw [h1, h2]
     simp
   rw [e]
   have WD := aaM (as := [(k : Int)]) (bs := eS es k)
   simp only [aaL, abB] at WD
   exact ⟨by omega, by omega, fun x hx => hm x (aao _ hx)⟩
 . exact ⟨by simp, hl, hm⟩
theorem getD_mem {l : List Int} {n : Nat} (h : n < l.length) : l.getD n 0 ∈ l := by
 rw [aaw, aaq h]
 exact abG h
theorem vv {es : List Int} {k : Nat} {x : Int} (hx : x ∈ bK es k) : x = k \/ x ∈ eS es k := by
 have hm : x ∈ [(k : Int)] ++ eS es k := by
   unfold bK at hx
   split at hx
   . unfold cutD at hx
     exact List.mem_of_mem_drop (List.mem_of_mem_take hx)
   . exact hx
 rcases aaG.mp hm with h | h
 . exact .inl (by simpa using h)
 . exact .inr h
def Tg (s es : List Int) (k : Nat) : Int := (bK es k).getD (b8 (bF s ((k : Int) + 1)) (3 + (k : Int)) % ((bK es k).length : Nat)).toNat 0
def lC (s : List Int) : Nat -> List Int
 | 0 => [-1]
 | j + 1 => lC s j ++ [Tg s (lC s j) j]
theorem Ji : uq [-1] := ⟨fun k hk => by
   have : k = 0 := by simpa using hk
   subst this
   exact ⟨Int.le_refl _, show (-1 : Int) < ((0 : Nat) : Int) by decide⟩, fun k hk => by simp at hk⟩
theorem vz (s : List Int) : ∀ j, (lC s j).length = j + 1 /\ uq (lC s j)
 | 0 => ⟨rfl, Ji⟩
 | j + 1 => by
   obtain ⟨h1, h2⟩ := vz s j
   obtain ⟨r1, r2, r3⟩ := pN (k := j) h2.1 h1.symm
   refine ⟨by show (lC s j ++ _).length = _; rw [aaM, h1]; rfl, ?_⟩
   have hx := getD_mem (l := bK (lC s j) j) (n := (b8 (bF s ((j : Int) + 1)) (3 + (j : Int)) % ((bK (lC s j) j).length : Nat)).toNat) (by
     have := aaF (b8 (bF s ((j : Int) + 1)) (3 + (j : Int))) (b := ((bK (lC s j) j).length : Nat)) (by omega)
     have := aaN (b8 (bF s ((j : Int) + 1)) (3 + (j : Int))) (b := ((bK (lC s j) j).length : Nat)) (by omega)
     omega)
   exact h2.snoc h1.symm (vv hx)
def cntK (s : List Int) : Int := if b8 (bF s 0) 2 / 14 % 8 = 3 then 11 + b8 (bF s 0) 2 / 112 % 20 else 1 + b8 (bF s 0) 2 % 14
theorem FE (s : List Int) : 1 <= cntK s /\ cntK s <= 30 := by
 unfold cntK
 split <;> omega
def gJ (s : List Int) : List Int := lC s (cntK s - 1).toNat
theorem B3 (s : List Int) : 1 <= (gJ s).length /\ (gJ s).length <= 30 /\ uq (gJ s) := by
 obtain ⟨h1, h2⟩ := vz s (cntK s - 1).toNat
 have := FE s
 unfold gJ
 exact ⟨by omega, by omega, h2⟩
def Ea (s : List Int) (k : Nat) : Int := b8 (bF s (k : Int)) (101 + (k : Int))
def zZ (s es : List Int) (k : Nat) : Str := if ur es (k : Int) = [] then "leaf" else (["all", "one"] : List Str).getD (Ea s k % 2).toNat Str.empty
def stK (s es : List Int) (k : Nat) : Int := if zZ s es k = "one" then (ur es (k : Int)).getD (Ea s k / 2 % ((ur es (k : Int)).length : Nat)).toNat 0 else -1
def Rh (s es : List Int) (k : Nat) : Int := if zZ s es k = "one" then (ur es (k : Int)).getD (Ea s k / 22 % ((ur es (k : Int)).length : Nat)).toNat 0 else -1
theorem Pn (s es : List Int) (k : Nat) : PyData.strOk (zZ s es k) = true := by
 unfold zZ
 split
 . decide +kernel
 . have : Ea s k % 2 = 0 \/ Ea s k % 2 = 1 := by omega
   rcases this with e | e <;> rw [e] <;> decide +kernel
theorem Jj {s es : List Int} {k : Nat} (h : zZ s es k = "one") : ur es (k : Int) ≠ [] := by
 intro e
 unfold zZ at h
 rw [aar e] at h
 exact absurd h (by decide +kernel)
def mY (s es : List Int) (n : Nat) : List Str := (List.range n).map (zZ s es)
def rN (s es : List Int) (n : Nat) : List Int := (List.range n).map (stK s es)
def oF (s es : List Int) (n : Nat) : List Int := (List.range n).map (Rh s es)
def uv (ks : List Str) (es ss os : List Int) : L3.D := .lst [.lst (ks.map .str), .lst (es.map .int), .lst (ss.map .int), .lst (os.map .int)]
def pO (ks : List Str) (es ss os : List Int) : T := .lst [.lst ((ks.map .str).map T.sh), .lst ((es.map .int).map T.sh), .lst ((ss.map .int).map T.sh), .lst ((os.map .int).map T.sh)]
theorem FG (ks : List Str) (es ss os : List Int) : (pO ks es ss os).cZ = uv ks es ss os := by
 unfold pO uv
 rw [T.cZ, T.fV, T.fV, T.fV, T.fV, T.fV, dD, dD, dD, dD]
def uw (es os : List Int) : Nat -> List Int
 | 0 => [0]
 | j + 1 => if es.getD (j + 1) 0 ∈ uw es os j /\ (os.getD (es.getD (j + 1) 0).toNat 0 = -1 \/ os.getD (es.getD (j + 1) 0).toNat 0 = ((j + 1 : Nat) : Int)) then uw es os j ++ [((j + 1 : Nat) : Int)] else uw es os j
theorem qk {es os : List Int} : ∀ (j : Nat) {x : Int}, x ∈ uw es os j -> 0 <= x /\ x <= j
 | 0, x, h => by
   have : x = 0 := by simpa [uw] using h
   omega
 | j + 1, x, h => by
   rw [uw] at h
   split at h
   . rcases aaG.mp h with h | h
     . have := qk j h
       omega
     . have : x = ((j + 1 : Nat) : Int) := by simpa using h
       omega
   . have := qk j h
     omega
theorem ql {es os : List Int} : ∀ (j : Nat), 1 <= (uw es os j).length /\ (uw es os j).length <= j + 1
 | 0 => ⟨aas _, aas _⟩
 | j + 1 => by
   have := ql (es := es) (os := os) j
   rw [uw]
   split
   . rw [aaM]
     simp only [aaL, abB]
     omega
   . omega
def Ri (s : List Int) : List Int := (List.range (b8 (bF s 0) 7 % 6).toNat).map fun (k : Nat) => eZ (bF s ((k : Int) + 1) + 5 * (k : Int))
theorem Jk (s : List Int) : (Ri s).length <= 5 := by
 unfold Ri
 rw [aaz, abY]
 omega
theorem FH {x : Str} (h : PyData.strOk x = true) (l k : Option Int) : PyData.strOk (Txt.slice x l k) = true := by
 unfold Txt.slice
 split
 . exact h
 . unfold PyData.strOk at *
   rw [List.all_toArray, abq]
   intro c hc
   obtain ⟨i, _, hi⟩ := List.mem_filterMap.mp hc
   rw [← Array.all_toList, abq] at h
   exact h c (by rw [← ab2] at hi; exact aa5 hi)
theorem Dw (c : Int) : (gD c).length <= 13 := by
 have h := BZ c
 unfold gD
 split
 . rw [str_len]; show _ + 1 <= _; omega
 . split
   . rw [str_len]; show _ + 1 <= _; omega
   . omega
def pP (s : List Int) : Str := Txt.slice (gD (bF s 0 / 2)) none (some 10)
def Jl (s : List Int) : List Str := if bF s 0 % 2 = 0 then [pP s ++ "1", pP s ++ "12", pP s ++ "2"] else [pP s, gD (bF s 1 + 5), gD (bF s 2 + 10)]
theorem Jm (s : List Int) : (Jl s).length = 3 := by
 unfold Jl
 split <;> rfl
theorem Pp (s : List Int) : ∀ x ∈ Jl s, PyData.strOk x = true := by
 have hb : PyData.strOk (pP s) = true := FH (vq _) _ _
 unfold Jl
 split
 . intro x hx
   simp only [aau, abH, or_false] at hx
   rcases hx with rfl | rfl | rfl
   . exact oq _ _ hb (by decide +kernel)
   . exact oq _ _ hb (by decide +kernel)
   . exact oq _ _ hb (by decide +kernel)
 . intro x hx
   simp only [aau, abH, or_false] at hx
   rcases hx with rfl | rfl | rfl
   . exact hb
   . exact vq _
   . exact vq _
inductive lY where
 | tN (op : Bool) (m : Int)
 | num (mk : Str) (b1 m1 b2 m2 : Int)
def cW : lY -> L3.D
 | .tN op m => .tup [.str (if op then "open" else "shut"), .int m]
 | .num mk b1 m1 b2 m2 => .tup [.str mk, .tup [.int b1, .int m1], .tup [.int b2, .int m2]]
def rO : List Str := ["<", "<=", "=", "!="]
def lY.Ok (n : Nat) (bs : List Int) : lY -> Prop
 | .tN _ m => 0 <= m /\ m < n
 | .num mk b1 _ b2 _ => mk ∈ rO /\ (b1 = -1 \/ (0 <= b1 /\ b1 < bs.length)) /\ (b2 = -1 \/ (0 <= b2 /\ b2 < bs.length))
theorem rP (a : lY) : (cW a).iP = true := by cases a <;> rfl
theorem Jo : ∀ x ∈ rO, PyData.strOk x = true := by decide +kernel
theorem FI {n : Nat} {m : Nat} {bs : List Int} {a : lY} (h : a.Ok m bs) : gW (n + 2) (cW a) := by
 cases a with
 | tN op m =>
   refine .tup fun d hd => ?_
   rcases aau.mp hd with rfl | hd
   . refine .str _ _ ?_
     cases op <;> decide +kernel
   . rw [aaU.mp hd]; exact .int _ _
 | num mk b1 m1 b2 m2 =>
   refine .tup fun d hd => ?_
   rcases aau.mp hd with rfl | hd
   . exact .str _ _ (Jo _ h.1)
   . rcases aau.mp hd with rfl | hd
     . exact .tup fun d hd => by
         rcases aau.mp hd with rfl | hd
         . exact .int _ _
         . rw [aaU.mp hd]; exact .int _ _
     . rw [aaU.mp hd]
       exact .tup fun d hd => by
         rcases aau.mp hd with rfl | hd
         . exact .int _ _
         . rw [aaU.mp hd]; exact .int _ _
def rQ (g : Bool) (i j : Int) : List Str := rO.filter fun m => decide (jL m i j = g)
theorem B4 (i j : Int) : jL "=" i j = decide (i = j) := by unfold jL; rw [aap (by decide +kernel), aap (by decide +kernel), aar rfl]
theorem B5 (i j : Int) : jL "!=" i j = !decide (i = j) := by unfold jL; rw [aap (by decide +kernel), aap (by decide +kernel), aap (by decide +kernel)]
theorem zc (g : Bool) (i j : Int) : 0 < (rQ g i j).length := by
 have mem : ∀ m ∈ rO, jL m i j = g -> 0 < (rQ g i j).length := fun m hm h => List.length_pos_of_mem (abn.mpr ⟨hm, ab0 h⟩)
 cases g with
 | true =>
   by_cases e : i = j
   . exact mem "=" (by decide +kernel) (by rw [B4]; exact ab0 e)
   . exact mem "!=" (by decide +kernel) (by rw [B5, abe e]; rfl)
 | false =>
   by_cases e : i = j
   . exact mem "!=" (by decide +kernel) (by rw [B5, ab0 e]; rfl)
   . exact mem "=" (by decide +kernel) (by rw [B4]; exact abe e)
def zf (c : Int) : Bool := decide (0 < b8 c 31 % 3)
def pZ (c : Int) (n : Nat) : Int := b8 c 31 / 9 % ((n : Int) + 1) - 1
def oG (c : Int) (n : Nat) : Int := if b8 c 31 / 729 % 3 = 0 then pZ c n else b8 c 31 / 81 % ((n : Int) + 1) - 1
def vA (c : Int) : Int := if b8 c 31 / 729 % 3 = 0 then dw (c / 3) + b8 c 31 / 2187 % 3 - 1 else dw (c / 5 + 1)
theorem vC (c : Int) (n : Nat) : pZ c n = -1 \/ (0 <= pZ c n /\ pZ c n < n) := by
 have a := aaN (b8 c 31 / 9) (b := (n : Int) + 1) (by omega)
 have b := aaF (b8 c 31 / 9) (b := (n : Int) + 1) (by omega)
 unfold pZ
 omega
theorem B6 (c : Int) (n : Nat) : oG c n = -1 \/ (0 <= oG c n /\ oG c n < n) := by
 have a := aaN (b8 c 31 / 81) (b := (n : Int) + 1) (by omega)
 have b := aaF (b8 c 31 / 81) (b := (n : Int) + 1) (by omega)
 unfold oG
 split
 . exact vC c n
 . omega
def lH (c : Int) (bs : List Int) : Int := lX (pZ c bs.length) (dw (c / 3)) bs
def gY (c : Int) (bs : List Int) : Int := lX (oG c bs.length) (vA c) bs
def zg (c : Int) (bs : List Int) : Str := (rQ (zf c) (lH c bs) (gY c bs)).getD (b8 c 31 / 6561 % ((rQ (zf c) (lH c bs) (gY c bs)).length : Nat)).toNat Str.empty
def lZ (ops : List Int) (m : Nat) (bs : List Int) (c : Int) : lY :=
 if b8 c 31 / 3 % 3 = 0 then .tN (decide (decide (b8 c 31 / 9 % (m : Int) ∈ ops) = zf c)) (b8 c 31 / 9 % (m : Int))
 else .num (zg c bs) (pZ c bs.length) (dw (c / 3)) (oG c bs.length) (vA c)
theorem Dy (c : Int) (bs : List Int) : zg c bs ∈ rO := by
 have hp := zc (zf c) (lH c bs) (gY c bs)
 have hm : ∀ x ∈ rQ (zf c) (lH c bs) (gY c bs), x ∈ rO := fun x hx => (abn.mp hx).1
 have l0 := aaN (b8 c 31 / 6561) (b := ((rQ (zf c) (lH c bs) (gY c bs)).length : Nat)) (by omega)
 have l1 := aaF (b8 c 31 / 6561) (b := ((rQ (zf c) (lH c bs) (gY c bs)).length : Nat)) (by omega)
 unfold zg
 rw [aaw, aaq (by omega)]
 exact hm _ (abG _)
theorem Jp (ops : List Int) {m : Nat} (hm : 1 <= m) (bs : List Int) (c : Int) : (lZ ops m bs c).Ok m bs := by
 unfold lZ
 split
 . exact ⟨aaN _ (by omega), aaF _ (by omega)⟩
 . exact ⟨Dy c bs, vC _ _, B6 _ _⟩
def MK (th : List Str) (k : Int) : List L3.D := ([[], [.tup [.str "call", .str (th.getD 0 Str.empty)]], [.tup [.str "say", .str (th.getD 1 Str.empty), .tup [.int (-1), .int 7]], .tup [.str "call", .str (th.getD 2 Str.empty)]]] : List (List L3.D)).getD k.toNat []
def Dz (ops : List Int) (m : Nat) (bs : List Int) (c : Int) : List lY := (List.range (b8 c 11 / 100 % 3).toNat).map fun (k : Nat) => lZ ops m bs (c / ((k : Int) + 1) + 17 * (k : Int))
def FJ (ops : List Int) (m : Nat) (bs : List Int) (th : List Str) (c : Int) : fN where
 src := if b8 c 11 % 2 = 0 then ops.getD (b8 c 11 / 2 % (ops.length : Nat)).toNat 0 else b8 c 11 / 2 % (m : Int)
 sign := th.getD (b8 c 13 / 300 % 3).toNat Str.empty
 asks := (Dz ops m bs c).map cW
 mX := MK th (b8 c 11 / 300 % 3)
 tgt := if b8 c 13 % 5 = 0 then -1 else b8 c 13 / 5 % (m : Int)
 mode := if b8 c 13 % 5 = 0 then "new" else (["new", "near", "far"] : List Str).getD (b8 c 13 / 100 % 3).toNat Str.empty
structure rR (m : Nat) (bs : List Int) (w : fN) : Prop where
 src : 0 <= w.src /\ w.src < m
 sign : PyData.strOk w.sign = true
 asks : ∃ l : List lY, w.asks = l.map cW /\ l.length <= 2 /\ ∀ a ∈ l, a.Ok m bs
 mX : D.bO w.mX = true /\ ∀ d ∈ w.mX, gW 10 d
 tgt : -1 <= w.tgt /\ w.tgt < m
 mode : PyData.strOk w.mode = true
theorem Pq {th : List Str} (h : ∀ x ∈ th, PyData.strOk x = true) (h3 : th.length = 3) (k : Int) : D.bO (MK th k) = true /\ ∀ d ∈ MK th k, gW 10 d := by
 have g : ∀ i, i < 3 -> PyData.strOk (th.getD i Str.empty) = true := fun i hi => by
   rw [aaw, aaq (by omega)]
   exact h _ (abG _)
 have e2 : ∀ {a b : L3.D}, gW 9 a -> gW 9 b -> gW 10 (.tup [a, b]) := fun ha hb => .tup fun d hd => by
   rcases aau.mp hd with rfl | hd
   . exact ha
   . rw [aaU.mp hd]; exact hb
 unfold MK
 by_cases k0 : k.toNat = 0
 . rw [k0]; exact ⟨rfl, fun d hd => by cases hd⟩
 . by_cases k1 : k.toNat = 1
   . rw [k1]
     refine ⟨rfl, fun d hd => ?_⟩
     rw [aaU.mp hd]
     exact e2 (.str _ _ (by decide +kernel)) (.str _ _ (g 0 (by omega)))
   . by_cases k2 : k.toNat = 2
     . rw [k2]
       refine ⟨rfl, fun d hd => ?_⟩
       rcases aau.mp hd with rfl | hd
       . refine .tup fun d hd => ?_
         rcases aau.mp hd with rfl | hd
         . exact .str _ _ (by decide +kernel)
         . rcases aau.mp hd with rfl | hd
           . exact .str _ _ (g 1 (by omega))
           . rw [aaU.mp hd]
             refine .tup fun d hd => ?_
             rcases aau.mp hd with rfl | hd
             . exact .int _ _
             . rw [aaU.mp hd]; exact .int _ _
       . rw [aaU.mp hd]
         exact e2 (.str _ _ (by decide +kernel)) (.str _ _ (g 2 (by omega)))
     . rw [aaw, ab1 (by simp; omega)]
       exact ⟨rfl, fun d hd => by cases hd⟩
theorem FL {ops : List Int} {m : Nat} {bs : List Int} {th : List Str} (hm : 1 <= m) (ho : 1 <= ops.length) (Hv : ∀ x ∈ ops, 0 <= x /\ x < m) (h : ∀ x ∈ th, PyData.strOk x = true) (h3 : th.length = 3) (c : Int) : rR m bs (FJ ops m bs th c) where
 src := by
   dsimp only [FJ]
   split
   . have l0 := aaN (b8 c 11 / 2) (b := (ops.length : Nat)) (by omega)
     have l1 := aaF (b8 c 11 / 2) (b := (ops.length : Nat)) (by omega)
     rw [aaw, aaq (by omega)]
     exact Hv _ (abG _)
   . exact ⟨aaN _ (by omega), aaF _ (by omega)⟩
 sign := by
   have l0 := aaN (b8 c 13 / 300) (show (3 : Int) ≠ 0 by decide)
   have l1 := aaF (b8 c 13 / 300) (show (0 : Int) < 3 by decide)
   show PyData.strOk (th.getD _ _) = true
   rw [aaw, aaq (by omega)]
   exact h _ (abG _)
 asks := ⟨Dz ops m bs c, rfl, by unfold Dz; rw [aaz, abY]; omega, fun a ha => by
   obtain ⟨k, _, rfl⟩ := aaW.mp ha
   exact Jp ops hm bs _⟩
 mX := Pq h h3 _
 tgt := by
   dsimp only [FJ]
   split
   . omega
   . have l0 := aaN (b8 c 13 / 5) (b := (m : Int)) (by omega)
     have l1 := aaF (b8 c 13 / 5) (b := (m : Int)) (by omega)
     omega
 mode := by
   dsimp only [FJ]
   split
   . decide +kernel
   . have : b8 c 13 / 100 % 3 = 0 \/ b8 c 13 / 100 % 3 = 1 \/ b8 c 13 / 100 % 3 = 2 := by omega
     rcases this with e | e | e <;> rw [e] <;> decide +kernel
theorem rR.iP {m : Nat} {bs : List Int} {w : fN} (h : rR m bs w) : (dS w).iP = true := by
 obtain ⟨l, e, _, _⟩ := h.asks
 show (true && (true && (D.bO w.asks && (D.bO w.mX && (true && (true && true)))))) = true
 rw [e, iA (fun a => rP a), h.mX.1]
 rfl
theorem Pr {n m : Nat} {d : L3.D} (h : gW n d) (hm : n <= m) : gW m d := by
 induction h generalizing m with
 | non n => exact .non _
 | bl n b => exact .bl _ _
 | int n i => exact .int _ _
 | str n x h => exact .str _ _ h
 | tup h ih =>
   obtain ⟨k, rfl⟩ : ∃ k, m = k + 1 := ⟨m - 1, by omega⟩
   exact .tup fun d hd => ih d hd (by omega)
 | lst h ih =>
   obtain ⟨k, rfl⟩ : ∃ k, m = k + 1 := ⟨m - 1, by omega⟩
   exact .lst fun d hd => ih d hd (by omega)
theorem rR.dep {m : Nat} {bs : List Int} {w : fN} (h : rR m bs w) : gW 12 (dS w) := by
 obtain ⟨l, e, _, hl⟩ := h.asks
 refine .tup fun d hd => ?_
 simp only [aau, abH, or_false] at hd
 rcases hd with rfl | rfl | rfl | rfl | rfl | rfl
 . exact .int _ _
 . exact .str _ _ h.sign
 . refine .tup fun d hd => ?_
   rw [e] at hd
   obtain ⟨a, ha, rfl⟩ := aaW.mp hd
   exact FI (hl a ha)
 . exact .tup fun d hd => h.mX.2 d hd
 . exact .int _ _
 . exact .str _ _ h.mode
def rS (s ops : List Int) (m : Nat) (bs : List Int) (th : List Str) : List fN := dY fN.src (s.map (FJ ops m bs th))
theorem FN {s ops : List Int} {m : Nat} {bs : List Int} {th : List Str} (hm : 1 <= m) (ho : 1 <= ops.length) (Hv : ∀ x ∈ ops, 0 <= x /\ x < m) (h : ∀ x ∈ th, PyData.strOk x = true) (h3 : th.length = 3) : (rS s ops m bs th).length = s.length /\ ∀ w ∈ rS s ops m bs th, rR m bs w := by
 unfold rS
 refine ⟨by rw [iC, aaz], fun w hw => ?_⟩
 obtain ⟨c, _, rfl⟩ := aaW.mp (oA.mp hw)
 exact FL hm ho Hv h h3 c
def mZ (m : Nat) (bs : List Int) (ws : List fN) : Prop := ws.length <= 63 /\ ∀ w ∈ ws, rR m bs w
theorem mZ.bO {m : Nat} {bs : List Int} {ws : List fN} (h : mZ m bs ws) : D.bO (ws.map dS) = true := mP fun d hd => by
 obtain ⟨w, hw, rfl⟩ := aaW.mp hd
 exact (h.2 w hw).iP
theorem mZ.dep {m : Nat} {bs : List Int} {ws : List fN} (h : mZ m bs ws) (n : Nat) : gW (n + 13) (.lst (ws.map dS)) := .lst fun d hd => by
 obtain ⟨w, hw, rfl⟩ := aaW.mp hd
 exact Pr (h.2 w hw).dep (by omega)
def w0 : fN := ⟨0, Str.empty, [], [], 0, Str.empty⟩
def ZC : L3.D -> Int
 | .tup (_ :: _ :: _ :: _ :: .int t :: _) => t
 | _ => 0
def oH (ln : List Int) (y : Int) : Nat := ln.findIdx (fun z => decide (z = y))
theorem AG {ln : List Int} {y : Int} (h : y ∈ ln) : oH ln y < ln.length := List.findIdx_lt_length_of_exists ⟨y, h, by simp⟩
theorem vD {ln : List Int} {y : Int} (h : y ∈ ln) : ln[oH ln y]? = some y := by
 have hl := AG h
 have := List.findIdx_getElem (w := hl)
 rw [aaq hl]
 exact congrArg some (aaD this)
theorem Pu {ln : List Int} {y : Int} {i : Nat} (h : i < oH ln y) : ln[i]? ≠ some y := fun e => by
 have hl : i < ln.length := (aaP.mp e).1
 have := List.not_of_lt_findIdx h
 rw [(aaP.mp e).2] at this
 simp at this
theorem Jq {ln : List Int} (nd : ln.Nodup) {y : Int} {i : Nat} (hy : y ∈ ln) : oH ln y = i ↔ ln[i]? = some y := by
 constructor
 . rintro rfl; exact vD hy
 . intro e
   have h1 := vD hy
   have hl := AG hy
   have hi : i < ln.length := (aaP.mp e).1
   rw [aaq hl] at h1
   rw [aaq hi] at e
   have e3 := (aaH h1).trans (aaH e).symm
   have np := List.pairwise_iff_getElem.mp nd
   rcases Nat.lt_trichotomy (oH ln y) i with z | z | z
   . exact absurd e3 (np _ _ hl hi z)
   . exact z
   . exact absurd e3.symm (np _ _ hi hl z)
def tO (ops : List Int) : L3.D -> Bool
 | .tup [.str k, .int m] => if k = "open" then decide (m ∈ ops) else if k = "shut" then !decide (m ∈ ops) else true
 | _ => true
def fU (ops : List Int) (l : List L3.D) : Bool := l.all (tO ops)
def lY.Jr : lY -> Prop
 | .tN _ _ => True
 | .num mk _ _ _ _ => mk ∈ rO
theorem lY.Ok.mk {n : Nat} {bs : List Int} {a : lY} (h : a.Ok n bs) : a.Jr := by
 cases a with
 | tN op m => trivial
 | num mk b1 m1 b2 m2 => exact h.1
theorem B7 {mk : Str} (h : mk ∈ rO) : mk ≠ "open" /\ mk ≠ "shut" := by
 have : ∀ x ∈ rO, x ≠ "open" /\ x ≠ "shut" := by decide +kernel
 exact this mk h
theorem zj (ops : List Int) (op : Bool) (m : Int) : tO ops (cW (.tN op m)) = if op then decide (m ∈ ops) else !decide (m ∈ ops) := by
 cases op
 . show (if (if false = true then ("open" : Str) else "shut") = "open" then decide (m ∈ ops) else if (if false = true then ("open" : Str) else "shut") = "shut" then !decide (m ∈ ops) else true) = _
   rw [aap (by decide +kernel), aar (by decide +kernel)]
   rfl
 . show (if (if true = true then ("open" : Str) else "shut") = "open" then decide (m ∈ ops) else if (if true = true then ("open" : Str) else "shut") = "shut" then !decide (m ∈ ops) else true) = _
   rw [aar (by decide +kernel)]
   rfl
def Js (ops : List Int) (sg : Str) (ln : List Int) (w : fN) : Bool := decide (w.sign = sg) && (decide (w.src ∈ ln) && fU ops w.asks)
def FP (ws : List fN) (ops : List Int) (sg : Str) (ln : List Int) (n : Nat) : List Nat := (List.range n).filter fun k => Js ops sg ln (ws.getD k w0)
def Jt (ws : List fN) (ops : List Int) (sg : Str) (ln : List Int) : List Int := dY (fun k : Int => (oH ln (ws.getD k.toNat w0).src : Int)) ((FP ws ops sg ln ws.length).map fun (k : Nat) => (k : Int))
def AH (ws : List fN) (ops : List Int) (sg : Str) (m : Int) (n : Nat) : List Int := ((List.range n).filter fun k => decide ((ws.getD k w0).src = m) && (decide ((ws.getD k w0).sign = sg) && fU ops (ws.getD k w0).asks)).map fun (k : Nat) => (k : Int)
def WG (ws : List fN) (ops : List Int) (sg : Str) (ln : List Int) : List Int := ln.flatMap fun m => AH ws ops sg m ws.length
theorem go_eq {ws : List fN} {ops : List Int} {sg : Str} {ln : List Int} (nd : ln.Nodup) : Jt ws ops sg ln = WG ws ops sg ln := by
 unfold Jt
 rw [iD]
 have e0 : (fun y : Nat => ((oH ln (ws.getD ((y : Int).toNat) w0).src : Nat) : Int)) = fun y : Nat => ((oH ln (ws.getD y w0).src : Nat) : Int) := by
   funext y; rw [aa6]
 rw [e0]
 have WH : ∀ k ∈ FP ws ops sg ln ws.length, (ws.getD k w0).src ∈ ln := fun k hk => by
   have := (abn.mp hk).2
   simp only [Js, aa8, abW] at this
   exact this.2.1
 rw [pK (fun k : Nat => oH ln (ws.getD k w0).src) ln.length _ fun k hk => AG (WH k hk), List.map_flatMap]
 have el : ln = (List.range ln.length).map fun i => ln.getD i 0 := abN fun i => by
   rw [aa0]
   by_cases hi : i < ln.length
   . rw [abu hi, aaq hi]
     show _ = some (ln.getD i 0)
     rw [aaw, aaq hi]; rfl
   . rw [List.getElem?_eq_none (by omega), List.getElem?_eq_none (by simpa using hi)]; rfl
 unfold WG
 conv => rhs; rw [el]
 rw [List.flatMap_map, abP, abP]
 congr 1
 refine abv fun i hi => ?_
 have hi := abk.mp hi
 unfold AH FP
 rw [List.filter_filter]
 congr 1
 refine List.filter_congr fun k _ => ?_
 have Ti : ln[i]? = some (ln.getD i 0) := by
   rw [aaw, aaq hi]; rfl
 by_cases hs : (ws.getD k w0).src ∈ ln
 . have := Jq nd (i := i) hs
   have e2 : decide (oH ln (ws.getD k w0).src = i) = decide ((ws.getD k w0).src = ln.getD i 0) := by
     rw [decide_eq_decide, this, Ti, Option.some.injEq]
     exact eq_comm
   rw [e2]
   unfold Js
   rw [ab0 hs, Bool.true_and]
 . unfold Js
   rw [abe hs]
   have : decide ((ws.getD k w0).src = ln.getD i 0) = false := abe fun e => hs (e ▸ aa5 Ti)
   rw [this]
   simp
theorem vG (ws : List fN) (ops : List Int) (sg : Str) (ln : List Int) (n : Nat) : (FP ws ops sg ln n).length <= n := by
 have := List.length_filter_le (fun k => Js ops sg ln (ws.getD k w0)) (List.range n)
 rw [abY] at this
 exact this
theorem FQ (ws : List fN) (ops : List Int) (sg : Str) (ln : List Int) (n : Nat) : FP ws ops sg ln (n + 1) = FP ws ops sg ln n ++ (if Js ops sg ln (ws.getD n w0) = true then [n] else []) := by
 unfold FP
 rw [abT, ab9, List.filter_cons, List.filter_nil]
theorem B8 (ws : List fN) (ops : List Int) (sg : Str) (m : Int) (n : Nat) : (AH ws ops sg m n).length <= n := by
 unfold AH
 rw [aaz]
 have := List.length_filter_le (fun k => decide ((ws.getD k w0).src = m) && (decide ((ws.getD k w0).sign = sg) && fU ops (ws.getD k w0).asks)) (List.range n)
 rw [abY] at this
 exact this
theorem FT (ws : List fN) (ops : List Int) (sg : Str) (m : Int) (n : Nat) : AH ws ops sg m (n + 1) = AH ws ops sg m n ++ (if (decide ((ws.getD n w0).src = m) && (decide ((ws.getD n w0).sign = sg) && fU ops (ws.getD n w0).asks)) = true then [(n : Int)] else []) := by
 unfold AH
 rw [abT, ab9, List.filter_cons, List.filter_nil, List.map_append]
 congr 1
 split <;> rfl
theorem Ju (ws : List fN) (ops : List Int) (sg : Str) (ln : List Int) : (Jt ws ops sg ln).length <= ws.length := by
 unfold Jt
 rw [iC, aaz]
 exact vG _ _ _ _ _
theorem AI {es : List Int} (ht : gX es) {x : Int} (h0 : 0 <= x) (h1 : x < es.length) : (x :: eS es x).Nodup := by
 refine abA.mpr ⟨fun h => ?_, ?_⟩
 . have := vn ht h0 h1 h
   omega
 . exact (rJ ht (es.length + 1) h0 h1 (by omega)).imp fun h e => by omega
def AJ (ws : List fN) : Prop := ∀ w ∈ ws, ∃ l : List lY, w.asks = l.map cW /\ ∀ a ∈ l, a.Jr
abbrev qm : Stmt := top 18
abbrev vH : Type := Int × Int
def eL : vH -> List L3.D := fun (c, s) => [.int c, .int s]
def eN : vH -> Prop := fun (c, s) => True
def eO : vH -> T := fun (c, s) => (.sh (.int (b8 c s)) : T)
structure Jv (X : Cx) (CL : Str -> Addr) : Prop extends cN X where
 cG : Ln X 0 "cell"
 Pw : Ln X 1 "salt"
 aK : Ln X 2 "mixed"
theorem Jw {X : Cx} {CL : Str -> Addr} {b : Bx} (E : Jv X CL) (c s) (h : eN (c, s)) :
   aE X CL b qm ["cell", "salt", "mixed"] (eL (c, s)) (eO (c, s)) := by
 dsimp only [aE, eN, eL, eO] at h ⊢
 refine aO E.g E.aK (aZ (aU (ah (lT (ah (dh (ah (aU (aJ E.cG) (ah ai) (by decide))) (aJ E.Pw))) (ah ai) (.inr ⟨by decide, by decide⟩))) (ah ai) (by decide)) (t2 := .sh (.int (Te c s))) rfl) ?_
 obtain ⟨m0, m1⟩ := Tf c s
 refine bA (aU (ah (lT (aJ E.aK) (aJ E.aK) (.inl ⟨by omega, by omega⟩))) (ah ai) (by decide)) rfl
theorem rT : lB (aq qm) ([("cell", av), ("salt", av), ("mixed", av)]) = true := by decide +kernel
theorem zk : aP ["cell", "salt", "mixed"] ["cell", "salt"] (aq qm) := aW
abbrev kh : Stmt := top 13
abbrev oJ : Type := List Int × Int
def dM : oJ -> List L3.D := fun (ns, j) => [.lst (ns.map .int), .int j]
def dN : oJ -> Prop := fun (ns, j) => 0 <= j
def dO : oJ -> T := fun (ns, j) => (.sh (.int (bF ns j)) : T)
structure DB (X : Cx) (CL : Str -> Addr) : Prop extends cN X where
 bf : Ln X 0 "script"
 jw : Ln X 1 "k"
 cD : Gl X "len"
 cE : X.mg "len" = none
theorem DC {X : Cx} {CL : Str -> Addr} {b : Bx} (E : DB X CL) (ns j) (h : dN (ns, j)) :
   aE X CL b kh ["script", "k"] (dM (ns, j)) (dO (ns, j)) := by
 dsimp only [aE, dN, dM, dO] at h ⊢
 refine eu (Mt (aJ E.jw) (ah (mK E.cE (aJ E.bf) E.cD))).1 (fun hp => ?_) (fun hp => ?_)
 . have e : j < ns.length := by simpa using of_decide_eq_true hp
   refine bA (cK (aR (aJ E.bf) (aJ E.jw) (dZ h e)) rfl) ?_
   show T.sh _ = T.sh (.int (bF ns j))
   rw [bF, aar e]
 . have e : ¬ j < ns.length := by simpa using of_decide_eq_false hp
   refine az (bA ai ?_)
   show T.sh _ = T.sh (.int (bF ns j))
   rw [bF, aap e]
theorem mh : lB (aq kh) ([("script", av), ("k", av), ("len", aB)]) = true := by decide +kernel
theorem rV : aP ["script", "k"] ["script", "k"] (aq kh) := aW
abbrev qo : Stmt := top 19
abbrev vI : Type := List Int × Int
def iF : vI -> List L3.D := fun (es, m) => [.lst (es.map .int), .int m]
def gj : vI -> Prop := fun (es, m) => gX es /\ 0 <= m /\ m < es.length /\ es.length <= 1000
def iG : vI -> T := fun (es, m) => (.lst (((eS es m).map .int).map T.sh) : T)
structure Jx (X : Cx) (CL : Str -> Addr) : Prop extends cN X where
 bV : Ln X 0 "elders"
 gZ : Ln X 1 "mood"
 bz : Ln X 2 "found"
 FU : Ln X 3 "at"
theorem Jy {X : Cx} {CL : Str -> Addr} {b : Bx} (E : Jx X CL) (es m) (h : gj (es, m)) :
   aE X CL b qo ["elders", "mood", "found", "at"] (iF (es, m)) (iG (es, m)) := by
 dsimp only [aE, gj, iF, iG] at h ⊢
 obtain ⟨ht, h0, h1, hlen⟩ := h
 refine aO E.g E.bz (dm di (aaY _)) ?_
 refine aO E.g E.FU (cK (aR (aJ E.bV) (aJ E.gZ) (dZ h0 h1)) rfl) ?_
 have hm := ht.at h0 h1
 refine BI E.g (fun n δ => ∃ (k : Int) (l : List Int), δ = [some (.sh (.lst (es.map .int))), some (.sh (.int m)), some (.lst ((l.map .int).map T.sh)), some (.sh (.int k))] /\ -1 <= k /\ k < n /\ k < es.length /\ l ++ n6 n es k = eS es m /\ l.length + n <= es.length + 1) (es.length + 1)
   ⟨es.getD m.toNat 0, [], rfl, hm.1, by omega, by omega, rfl, by simp⟩ ?_
 rintro n δ ⟨k, l, rfl, k0, k1, k2, k3, k4⟩
 refine ⟨_, _, (qQ (aJ E.FU) (ah (gy (ah ai)))).1, fun hp => ?_, fun hp => ?_⟩
 . have hk : ¬ k = -1 := by simpa using hp
   have ha := ht.at (k := k) (by omega) k2
   cases n with
   | zero => omega
   | succ n =>
     refine ju E.bz.1 rfl (v_ E.FU.1) rfl (by simp; omega) ?_
     refine aO E.g E.FU (cK (aR (aJ E.bV) (aJ E.FU) (dZ (by omega) k2)) rfl) ?_
     refine az ⟨n, Nat.lt_succ_self _, es.getD k.toNat 0, l ++ [k], ?_, ha.1, by omega, by omega, ?_, by simp; omega⟩
     . show [_, _, some (T.lst (((l.map D.int).map T.sh) ++ [T.sh (.int k)])), _] = _
       simp
     . rw [← k3, n6, aap hk, aav]
       rfl
 . have hk : k = -1 := by simpa using hp
   subst hk
   have e : l = eS es m := by
     rw [← k3]
     cases n with
     | zero => rw [n6, aa1]
     | succ n => rw [n6, aar rfl, aa1]
   subst e
   exact bA (vM E.bz.1) rfl
theorem m5 : lB (aq qo) ([("elders", av), ("mood", av), ("found", av), ("at", av)]) = true := by decide +kernel
theorem zl : aP ["elders", "mood", "found", "at"] ["elders", "mood"] (aq qo) := aW
abbrev m7 : Stmt := top 20
abbrev rW : Type := List Int
def iW : rW -> List L3.D := fun s => [.lst (s.map .int)]
def iX : rW -> Prop := fun s => s.length <= 1000
def iY : rW -> T := fun s => (.lst (((gJ s).map .int).map T.sh) : T)
structure FW (X : Cx) (CL : Str -> Addr) : Prop extends cN X where
 bf : Ln X 0 "script"
 aK : Ln X 1 "mixed"
 e7 : Ln X 2 "many"
 bV : Ln X 3 "elders"
 jw : Ln X 4 "k"
 ki : Ln X 5 "roads"
 bL : Gl X "_law_mixed"
 bq : Gl X "_law_cell_at"
 b9 : Gl X "range"
 iZ : Gl X "_law_chain"
 cD : Gl X "len"
 e9 : Fc X CL "_law_mixed" 1 2 eL eN eO
 cH : Fc X CL "_law_cell_at" 1 2 dM dN dO
 cg : X.mg "range" = none
 vJ : Fc X CL "_law_chain" 1 2 iF gj iG
 cE : X.mg "len" = none
theorem FY {X : Cx} {CL : Str -> Addr} {b : Bx} (E : FW X CL) (s) (h : iX s) :
   aE X CL b m7 ["script", "mixed", "many", "elders", "k", "roads"] (iW s) (iY s) := by
 dsimp only [aE, iX, iW, iY] at h ⊢
 refine aO E.g E.aK (aZ (c_ ((bF s 0, 2)) E.e9 E.bL (ak (ah (c_ ((s, 0)) E.cH E.bq (ak (aJ E.bf) (ak (ah ai) aM)) (show (0 : Int) <= 0 by omega) rfl)) (ak (ah ai) aM)) (trivial) rfl) (t2 := .sh (.int (b8 (bF s 0) 2))) rfl) ?_
 have c0 := vt (bF s 0) 2
 refine aO E.g E.e7 (dh (ah ai) (ah (aU (aJ E.aK) (ah ai) (by decide)))) ?_
 refine t7 (fun δ => δ = [some (.sh (.lst (s.map .int))), some (.sh (.int (b8 (bF s 0) 2))), some (.sh (.int (cntK s))), none, none, none]) (eV (ah (aU (ah (bw (aJ E.aK) (ah ai) ⟨by decide, by decide⟩)) (ah ai) (by decide))) (ah ai)).1 (fun hp => ?_) (fun hp => ?_) ?_
 . refine aO E.g E.e7 (aZ (dh (ah ai) (ah (aU (ah (bw (aJ E.aK) (ah ai) ⟨by decide, by decide⟩)) (ah ai) (by decide)))) (t2 := .sh (.int (cntK s))) ?_) (az rfl)
   unfold cntK
   rw [aar (aaD hp)]
 . refine az ?_
   unfold cntK
   rw [aap (aaK hp)]
   rfl
 rintro δ rfl
 refine aO E.g E.bV (gM (aH (gy (ah ai)) bZ) (aF rfl)) ?_
 obtain ⟨k0, k1⟩ := FE s
 refine jt E.g E.jw (fun j δ => ∃ o5, δ = [some (.sh (.lst (s.map .int))), some (.sh (.int (b8 (bF s 0) 2))), some (.sh (.int (cntK s))), some (.lst (((lC s j).map .int).map T.sh)), (if j = 0 then none else some (.sh (.int ((j : Int) - 1)))), o5])
   (ef E.cg (ah (jD (aJ E.e7) (ah ai))) (by omega) E.b9) ⟨_, rfl⟩ (fun j δ ⟨_, e⟩ => by subst e; exact aat rfl) ?turn ?fin
 case turn =>
   rintro j d δ hj ⟨o5, rfl⟩
   obtain ⟨rfl, BV⟩ := gB hj
   rw [abC]
   obtain ⟨hl, pW⟩ := vz s j
   have ht := pW.1
   obtain ⟨r1, r2, r3⟩ := pN (k := j) ht hl.symm
   have Eh : lC s (j + 1) = lC s j ++ [Tg s (lC s j) j] := rfl
   show d9 X CL b _ _ { nx := fun δ => ∃ o5, δ = [_, _, _, some (.lst (((lC s (j + 1)).map .int).map T.sh)), (if j + 1 = 0 then none else some (.sh (.int (((j + 1 : Nat) : Int) - 1)))), o5], rt := _, bk := _, ct := _ }
   rw [Eh, aap (show ¬ (j + 1 = 0) by omega), show ((j + 1 : Nat) : Int) - 1 = (j : Int) by omega]
   generalize lC s j = es at hl ht r1 r2 r3 ⊢
   have XS : (eS es (j : Int)).length <= es.length + 1 := mW _ _ _
   refine aO E.g E.ki (qi (ds := [.int (j : Int)]) (D7 := (eS es (j : Int)).map .int) (cL (ds := [.int (j : Int)]) (dm (eG (v_ E.jw.1) di) (aF rfl)))
     (cL (c_ (es, (j : Int)) E.vJ E.iZ (ak (vL E.bV.1) (ak (aJ E.jw) aM)) (show gX es /\ (0 : Int) <= j /\ (j : Int) < es.length /\ es.length <= 1000 from ⟨ht, by omega, by omega, by omega⟩) (by show (T.lst _).clean = true; rw [gi]; exact pI _))) rfl (cu _) (abp (cO (by simp; omega)))) ?_
   have er : ([L3.D.int (j : Int)] ++ (eS es (j : Int)).map L3.D.int) = ([(j : Int)] ++ eS es j).map L3.D.int := rfl
   rw [er]
   have ZD : (([(j : Int)] ++ eS es j).map L3.D.int).length = ([(j : Int)] ++ eS es j).length := by simp
   refine t7 (fun δ => δ = [some (.sh (.lst (s.map .int))), some (.sh (.int (b8 (bF s 0) 2))), some (.sh (.int (cntK s))), some (.lst ((es.map .int).map T.sh)), some (.sh (.int j)), some (.lst (((bK es j).map .int).map T.sh))])
     (Mu (ah (cJ ZD E.cE (vL E.ki.1) E.cD)) (ah ai)).1 (fun hp => ?_) (fun hp => ?_) ?_
   . have e : (12 : Int) < (([(j : Int)] ++ eS es j).length : Nat) := aaD hp
     refine aO E.g E.ki (yL (vL E.ki.1) (cu _) (u5 (ah ai)) u0) (az ?_)
     rw [EW]
     unfold bK
     rw [aar e]
     rfl
   . have e : ¬ (12 : Int) < (([(j : Int)] ++ eS es j).length : Nat) := aaK hp
     refine az ?_
     unfold bK
     rw [aap e]
     rfl
   rintro δ rfl
   have WD : ((bK es j).map L3.D.int).length = (bK es j).length := by simp
   have b1 := aaN (b8 (bF s ((j : Int) + 1)) (3 + (j : Int))) (b := ((bK es j).length : Nat)) (by omega)
   have b2 := aaF (b8 (bF s ((j : Int) + 1)) (3 + (j : Int))) (b := ((bK es j).length : Nat)) (by omega)
   have ZE : ((es.map L3.D.int).map T.sh) ++ [T.sh (.int (Tg s es j))] = ((es ++ [Tg s es j]).map L3.D.int).map T.sh := by simp
   refine ju E.bV.1 rfl (aZ (cK (aR (vL E.ki.1) (ah (aU (ah (c_ ((bF s ((j : Int) + 1), 3 + (j : Int))) E.e9 E.bL (ak (ah (c_ ((s, (j : Int) + 1)) E.cH E.bq (ak (aJ E.bf) (ak (ah (dh (aJ E.jw) (ah ai))) aM)) (show (0 : Int) <= (j : Int) + 1 by omega) rfl)) (ak (ah (dh (ah ai) (aJ E.jw))) aM)) (trivial) rfl)) (ah (cJ (WD) E.cE (vL E.ki.1) E.cD)) (by omega))) (dZ b1 b2)) rfl) (t2 := .sh (.int (Tg s es j))) rfl) rfl (by simp; omega) (az ?_)
   rw [ZE]
   exact ⟨_, rfl⟩
 case fin =>
   rintro δ ⟨o5, rfl⟩
   refine bA (vM E.bV.1) ?_
   have e : (bC 0 (cntK s - 1).toNat).length = (cntK s - 1).toNat := by simp [bC]
   rw [e]
   rfl
theorem cR : lB (aq m7) ([("script", av), ("mixed", av), ("many", av), ("elders", av), ("k", av), ("roads", av), ("_law_mixed", aB), ("_law_cell_at", aB), ("range", aB), ("_law_chain", aB), ("len", aB)]) = true := by decide +kernel
theorem ux : aP ["script", "mixed", "many", "elders", "k", "roads"] ["script"] (aq m7) := aW
abbrev qp : Stmt := top 21
abbrev vK : Type := List Int
def ko : vK -> List L3.D := fun s => [.lst (s.map .int)]
def kr : vK -> Prop := fun s => s.length <= 1000
def ku : vK -> T := fun s => (pO (mY s (gJ s) (gJ s).length) (gJ s) (rN s (gJ s) (gJ s).length) (oF s (gJ s) (gJ s).length) : T)
structure Jz (X : Cx) (CL : Str -> Addr) : Prop extends cN X where
 bf : Ln X 0 "script"
 bV : Ln X 1 "elders"
 rX : X.env.kindOf "elders" = some .cell
 i6 : Ln X 2 "kinds"
 iH : Ln X 3 "starts"
 aQ : Ln X 4 "opens"
 jw : Ln X 5 "k"
 ZF : X.env.kindOf "k" = some .cell
 aK : Ln X 6 "mixed"
 oK : Ln X 7 "mine"
 tP : Gl X "_law_elders"
 b9 : Gl X "range"
 cD : Gl X "len"
 bL : Gl X "_law_mixed"
 bq : Gl X "_law_cell_at"
 FZ : Fc X CL "_law_elders" 2 1 iW iX iY
 cg : X.mg "range" = none
 cE : X.mg "len" = none
 e9 : Fc X CL "_law_mixed" 1 2 eL eN eO
 cH : Fc X CL "_law_cell_at" 1 2 dM dN dO
theorem JA {X : Cx} {CL : Str -> Addr} {b : Bx} (E : Jz X CL) (s) (h : kr s) :
   aE X CL b qp ["script", "elders", "kinds", "starts", "opens", "k", "mixed", "mine"] (ko s) (ku s) := by
 dsimp only [aE, kr, ko, ku] at h ⊢
 refine aO E.g E.bV (aZ (c_ (s) E.FZ E.tP (ak (aJ E.bf) aM) (h) (cM _)) (t2 := .lst (((gJ s).map .int).map T.sh)) rfl) ?_
 obtain ⟨n1, n2, pW⟩ := B3 s
 generalize gJ s = es at n1 n2 pW ⊢
 refine aO E.g E.i6 (dm di (aaY _)) ?_
 refine aO E.g E.iH (dm di (aaY _)) ?_
 refine aO E.g E.aQ (dm di (aaY _)) ?_
 refine jt E.g E.jw (fun j δ => ∃ o5 o6 o7, δ = [some (.sh (.lst (s.map .int))), some (.lst ((es.map .int).map T.sh)), some (.lst (((mY s es j).map .str).map T.sh)), some (.lst (((rN s es j).map .int).map T.sh)), some (.lst (((oF s es j).map .int).map T.sh)), o5, o6, o7])
   (ef E.cg (ah (cJ (aaz ..) E.cE (vL E.bV.1) E.cD)) (by omega) E.b9) ⟨_, _, _, rfl⟩ (fun j δ ⟨_, _, _, e⟩ => by subst e; exact aat rfl) ?turn ?fin
 case turn =>
   rintro j d δ hj ⟨o5, o6, o7, rfl⟩
   obtain ⟨rfl, BV⟩ := gB hj
   rw [abC]
   refine aO E.g E.aK (aZ (c_ ((bF s (j : Int), 101 + (j : Int))) E.e9 E.bL (ak (ah (c_ ((s, (j : Int))) E.cH E.bq (ak (aJ E.bf) (ak (aJ E.jw) aM)) (show (0 : Int) <= (j : Int) by omega) rfl)) (ak (ah (dh (ah ai) (aJ E.jw))) aM)) (trivial) rfl) (t2 := .sh (.int (Ea s j))) rfl) ?_
   have WH : (((bC 0 (es.length : Int).toNat).filter fun d => decide (es.getD d.yI.toNat 0 = (j : Int))).map fun d => T.sh d) = ((ur es (j : Int)).map L3.D.int).map T.sh := by
     unfold bC ur
     rw [List.filter_map, abh, abh, abh, aa6]
     have e1 : ((fun d : L3.D => decide (es.getD d.yI.toNat 0 = (j : Int))) ∘ fun i : Nat => L3.D.int (0 + (i : Int))) = fun i : Nat => decide (es.getD i 0 = (j : Int)) := by
       funext i
       show decide (es.getD (0 + (i : Int)).toNat 0 = (j : Int)) = _
       rw [abC, aa6]
     rw [e1]
     congr 1
     funext i
     show T.sh (.int (0 + (i : Int))) = T.sh (.int i)
     rw [abC]
   refine rq (p := fun d => decide (es.getD d.yI.toNat 0 = (j : Int))) (gg := fun d => T.sh d) E.g E.oK (dJ (.cons E.bV.1 (.inl E.rX) (.cons E.jw.1 (.inl E.ZF) .nil)) (by decide +kernel)) (ef E.cg (ah (cJ (aaz ..) E.cE (vL E.bV.1) E.cD)) (by omega) E.b9) (.inl ⟨rfl, fun d hd => by obtain ⟨i, _, rfl⟩ := aaW.mp hd; rfl⟩) (fun C s0 H0 f0 b' d hd => ?JB) (abp (cO (by simp [bC]; omega))) ?rest (by exact aat rfl) (jF ⟨_, rfl⟩)
   case JB =>
     obtain ⟨i, hi, rfl⟩ := aaW.mp hd
     have D6 : i < es.length := by simpa using hi
     exact ⟨(eV (aR (BO (ah (v_ (gU (i := 1) rfl (by decide +kernel)))) (dD _)) (ah (v_ (gA (i := 0) rfl (by decide +kernel)))) (dZ (show (0 : Int) <= 0 + (i : Int) by omega) (show 0 + (i : Int) < es.length by omega))) (ah (v_ (gU (i := 2) rfl (by decide +kernel))))).1, fun _ => v_ (gA (i := 0) rfl (by decide +kernel))⟩
   case rest =>
   rw [WH]
   have hml := Jg es (j : Int)
   have kl : (mY s es j).length = j := by simp [mY]
   have sl : (rN s es j).length = j := by simp [rN]
   have ol : (oF s es j).length = j := by simp [oF]
   have ek : mY s es (j + 1) = mY s es j ++ [zZ s es j] := by simp [mY, abT]
   have ZG : rN s es (j + 1) = rN s es j ++ [stK s es j] := by simp [rN, abT]
   have eo : oF s es (j + 1) = oF s es j ++ [Rh s es j] := by simp [oF, abT]
   show d9 X CL b _ _ { nx := fun δ => ∃ o5 o6 o7, δ = [_, _, some (.lst (((mY s es (j + 1)).map .str).map T.sh)), some (.lst (((rN s es (j + 1)).map .int).map T.sh)), some (.lst (((oF s es (j + 1)).map .int).map T.sh)), o5, o6, o7], rt := _, bk := _, ct := _ }
   rw [ek, ZG, eo]
   generalize mY s es j = ks at kl ⊢
   generalize rN s es j = ss at sl ⊢
   generalize oF s es j = os at ol ⊢
   have aS : ∀ (l : List Str) (x : Str), (l.map L3.D.str).map T.sh ++ [T.sh (.str x)] = ((l ++ [x]).map L3.D.str).map T.sh := by intros; simp
   have aI : ∀ (l : List Int) (x : Int), (l.map L3.D.int).map T.sh ++ [T.sh (.int x)] = ((l ++ [x]).map L3.D.int).map T.sh := by intros; simp
   refine ju E.i6.1 rfl aY rfl (by simp; omega) ?_
   rw [aS]
   refine ju E.iH.1 rfl (gy (ah ai)) rfl (by simp; omega) ?_
   rw [aI]
   have WK : ∀ (x y : Str), (((ks ++ [x]).map L3.D.str).map T.sh).set j (T.sh (.str y)) = ((ks ++ [y]).map L3.D.str).map T.sh := fun x y => by
     rw [← List.map_set, ← List.map_set, List.set_append, aap (by omega), kl, Nat.sub_self]; rfl
   have Tj : ∀ (x y : Int), (((ss ++ [x]).map L3.D.int).map T.sh).set j (T.sh (.int y)) = ((ss ++ [y]).map L3.D.int).map T.sh := fun x y => by
     rw [← List.map_set, ← List.map_set, List.set_append, aap (by omega), sl, Nat.sub_self]; rfl
   have WL : ∀ (l : List Str) (x : Str), l.length = j -> CZ (((l ++ [x]).map L3.D.str).map T.sh).length (j : Int) = some j := fun l x e => by
     rw [aaz, aaz, aaM]; unfold CZ; rw [aar (by omega), aar (by simp; omega), aa6]
   have WM : ∀ (l : List Int) (x : Int), l.length = j -> CZ (((l ++ [x]).map L3.D.int).map T.sh).length (j : Int) = some j := fun l x e => by
     rw [aaz, aaz, aaM]; unfold CZ; rw [aar (by omega), aar (by simp; omega), aa6]
   refine t7 (fun δ => δ = [some (.sh (.lst (s.map .int))), some (.lst ((es.map .int).map T.sh)), some (.lst (((ks ++ [zZ s es j]).map .str).map T.sh)), some (.lst (((ss ++ [-1]).map L3.D.int).map T.sh)), some (.lst ((os.map .int).map T.sh)), some (.sh (.int j)), some (.sh (.int (Ea s j))), some (.lst (((ur es (j : Int)).map .int).map T.sh))])
     (uZ E.u (vL E.oK.1) (cL (ds := []) (dm di (aaY _))) (fJ _) (fJ [])).1 (fun hp => ?_) (fun hp => ?_) ?_
   . have uc : ur es (j : Int) ≠ [] := fun e => by
       rw [e] at hp
       have : C9 (.lst (([] : List Int).map L3.D.int)) (.lst []) = true := mO (fJ [])
       rw [this] at hp
       cases hp
     have WN : zZ s es j = (["all", "one"] : List Str).getD (Ea s j % 2).toNat Str.empty := by unfold zZ; rw [aap uc]
     refine My E.i6.1 (aZ (cK (aR (cL (gM (aH aY (aH aY bZ)) (aF rfl))) (ah (aU (aJ E.aK) (ah ai) (by decide))) (iS (f := L3.D.str) (l := ["all", "one"]) Str.empty (aaN _ (by decide)) (aaF _ (by decide)))) rfl) (t2 := .sh (.str (zZ s es j))) (by rw [WN])) (aJ E.jw) rfl (WL ks _ kl) (az ?_)
     rw [WK]
     rfl
   . have he : ur es (j : Int) = [] := by
       generalize ur es (j : Int) = l at hp
       cases l with
       | nil => rfl
       | cons x l =>
         have : C9 (.lst ((x :: l).map L3.D.int)) (.lst []) = false := rfl
         rw [this] at hp
         cases hp
     have WN : zZ s es j = "leaf" := by unfold zZ; rw [aar he]
     refine az ?_
     rw [WN]
     rfl
   rintro δ rfl
   have F0 : sZ ((ks ++ [zZ s es j]).map L3.D.str) (j : Int) = some (.str (zZ s es j)) := by
     refine (iS Str.empty (by omega) (by rw [aaM, kl]; simp only [aaL, abB]; omega)).trans ?_
     rw [aa6, aaw, abx (by omega), kl, Nat.sub_self]
     rfl
   refine eu (eH (aR (vL E.i6.1) (aJ E.jw) (F0)) (ah aY)).1 (fun hp => ?_) (fun hp => ?_)
   . have hp := aaD hp
     have uc := List.length_pos_iff.mpr (Jj hp)
     have XT : ((ur es (j : Int)).map L3.D.int).length = (ur es (j : Int)).length := by simp
     have c1 := aaN (Ea s j / 2) (b := ((ur es (j : Int)).length : Nat)) (by omega)
     have c2 := aaF (Ea s j / 2) (b := ((ur es (j : Int)).length : Nat)) (by omega)
     have c3 := aaN (Ea s j / 22) (b := ((ur es (j : Int)).length : Nat)) (by omega)
     have c4 := aaF (Ea s j / 22) (b := ((ur es (j : Int)).length : Nat)) (by omega)
     refine My E.iH.1 (aZ (cK (aR (vL E.oK.1) (ah (aU (ah (bw (aJ E.aK) (ah ai) ⟨by decide, by decide⟩)) (ah (cJ (XT) E.cE (vL E.oK.1) E.cD)) (by omega))) (dZ c1 c2)) rfl) (t2 := .sh (.int (stK s es j))) (by unfold stK; rw [aar hp])) (aJ E.jw) rfl (WM ss _ sl) ?_
     rw [Tj]
     refine ju E.aQ.1 rfl (aZ (cK (aR (vL E.oK.1) (ah (aU (ah (bw (aJ E.aK) (ah ai) ⟨by decide, by decide⟩)) (ah (cJ (XT) E.cE (vL E.oK.1) E.cD)) (by omega))) (dZ c3 c4)) rfl) (t2 := .sh (.int (Rh s es j))) (by unfold Rh; rw [aar hp])) rfl (by simp; omega) (az (az ?_))
     rw [aI]
     exact ⟨_, _, _, rfl⟩
   . have hp := aaK hp
     refine ju E.aQ.1 rfl (gy (ah ai)) rfl (by simp; omega) (az (az ?_))
     rw [aI, show stK s es j = -1 by unfold stK; rw [aap hp], show Rh s es j = -1 by unfold Rh; rw [aap hp]]
     exact ⟨_, _, _, rfl⟩
 case fin =>
   rintro δ ⟨o5, o6, o7, rfl⟩
   have e : (bC 0 (es.length : Int).toNat).length = es.length := by simp [bC]
   rw [e]
   exact bA (dm (eG (vM E.i6.1) (eG (vM E.bV.1) (eG (vM E.iH.1) (eG (vM E.aQ.1) di)))) (aF rfl)) rfl
theorem cy : lB (aq qp) ([("script", av), ("elders", .cell), ("kinds", av), ("starts", av), ("opens", av), ("k", .cell), ("mixed", av), ("mine", av), ("_law_elders", aB), ("range", aB), ("len", aB), ("_law_mixed", aB), ("_law_cell_at", aB)]) = true := by decide +kernel
theorem zm : aP ["script", "elders", "kinds", "starts", "opens", "k", "mixed", "mine"] ["script"] (aq qp) := aW
abbrev qq : Stmt := top 22
abbrev vN : Type := List Str × List Int × List Int × List Int
def kB : vN -> List L3.D := fun (ks, es, ss, os) => [uv ks es ss os]
def iI : vN -> Prop := fun (ks, es, ss, os) => 1 <= es.length /\ es.length <= 900 /\ os.length = es.length /\ gX es
def kC : vN -> T := fun (ks, es, ss, os) => (.lst (((uw es os (es.length - 1)).map .int).map T.sh) : T)
structure JC (X : Cx) (CL : Str -> Addr) : Prop extends cN X where
 bQ : Ln X 0 "lists"
 aQ : Ln X 1 "opens"
 jw : Ln X 2 "k"
 fY : Ln X 3 "elder"
 b9 : Gl X "range"
 cD : Gl X "len"
 cg : X.mg "range" = none
 cE : X.mg "len" = none
theorem JD {X : Cx} {CL : Str -> Addr} {b : Bx} (E : JC X CL) (ks es ss os) (h : iI (ks, es, ss, os)) :
   aE X CL b qq ["lists", "opens", "k", "elder"] (kB (ks, es, ss, os)) (kC (ks, es, ss, os)) := by
 dsimp only [aE, iI, kB, kC] at h ⊢
 obtain ⟨UQ, hl, ho, ht⟩ := h
 refine aO E.g E.aQ (gM (aH ai bZ) (aF rfl)) ?_
 refine jt E.g E.jw (fun j δ => ∃ o o', δ = [some (.sh (uv ks es ss os)), some (.lst (((uw es os j).map .int).map T.sh)), o, o'])
   (C7 E.cg (ah ai) (ah (cJ (aaz ..) E.cE (aR (aJ E.bQ) (ah ai) rfl) E.cD)) (by omega) E.b9) ⟨_, _, rfl⟩ (fun j δ ⟨_, _, e⟩ => by subst e; exact aat rfl) ?turn ?fin
 case turn =>
   rintro j d δ hj ⟨o, o', rfl⟩
   obtain ⟨rfl, BV⟩ := gB hj
   have Rj := (ql (es := es) (os := os) j).2
   have ej : (1 + (j : Int)).toNat = j + 1 := by omega
   have WO : (1 + (j : Int)) = ((j + 1 : Nat) : Int) := by omega
   refine aO E.g E.fY (aZ (cK (aR (aR (aJ E.bQ) (ah ai) rfl) (aJ E.jw) (dZ (by omega) (by omega))) rfl) (congrArg (fun z => T.sh (.int (es.getD z 0))) ej)) ?_
   have ha := ht (j + 1) (by omega)
   show d9 X CL b _ _ { nx := fun δ => ∃ o o', δ = [_, some (.lst (((uw es os (j + 1)).map .int).map T.sh)), o, o'], rt := _, bk := _, ct := _ }
   rw [uw]
   generalize es.getD (j + 1) 0 = x at ha ⊢
   have ZH : x ∈ uw es os j -> 0 <= x := fun hx => (qk j hx).1
   refine eu (lU (fz (kg (aJ E.fY) (vL E.aQ.1) rfl rfl).1 (fun hb => (iQ (kg (l := [-1, 1 + (j : Int)]) (aR (aR (aJ E.bQ) (ah ai) rfl) (aJ E.fY) (dZ (ZH (aaD hb)) (by omega))) (ah (cB (aH (gy (ah ai)) (aH (v_ E.jw.1) bZ)) (aF rfl))) rfl rfl).1)))) (fun hp => ?_) (fun hp => az (az ?_))
   . simp only [aa8, abW] at hp
     refine ju E.aQ.1 rfl (v_ E.jw.1) rfl (by simp; omega) (az (az ?_))
     rw [aar ⟨hp.1, by
       have := hp.2
       simp only [aau, abH, or_false] at this
       rw [← WO]
       exact this⟩]
     have e1 : ((uw es os j).map L3.D.int).map T.sh ++ [T.sh (.int (1 + (j : Int)))] = ((uw es os j ++ [((j + 1 : Nat) : Int)]).map L3.D.int).map T.sh := by
       rw [WO]; simp
     rw [e1]
     exact ⟨_, _, rfl⟩
   . rw [aap (fun z => by
       have : (decide (x ∈ uw es os j) && decide (os.getD x.toNat 0 ∈ [-1, 1 + (j : Int)])) = true := by
         simp only [aa8, abW, aau, abH, or_false]
         exact ⟨z.1, by rw [WO]; exact z.2⟩
       rw [this] at hp
       cases hp)]
     exact ⟨_, _, rfl⟩
 case fin =>
   rintro δ ⟨o, o', rfl⟩
   have e : (bC 1 ((es.length : Int) - 1).toNat).length = es.length - 1 := by simp [bC]
   rw [e]
   exact bA (vM E.aQ.1) rfl
theorem iJ : lB (aq qq) ([("lists", av), ("opens", av), ("k", av), ("elder", av), ("range", aB), ("len", aB)]) = true := by decide +kernel
theorem zo : aP ["lists", "opens", "k", "elder"] ["lists"] (aq qq) := aW
abbrev m8 : Stmt := top 14
abbrev rY : Type := Int
def i7 : rY -> List L3.D := fun a => [.int a]
def i9 : rY -> Prop := fun a => True
def ja : rY -> T := fun a => (.sh (.int (eZ a)) : T)
structure F2 (X : Cx) (CL : Str -> Addr) : Prop extends cN X where
 cG : Ln X 0 "cell"
 mj : Ln X 1 "size"
theorem F3 {X : Cx} {CL : Str -> Addr} {b : Bx} (E : F2 X CL) (a) (h : i9 a) :
   aE X CL b m8 ["cell", "size"] (i7 a) (ja a) := by
 dsimp only [aE, i9, i7, ja] at h ⊢
 refine eu (eV (ah (aU (aJ E.cG) (ah ai) (by decide))) (ah ai)).1 (fun hp => ?_) (fun hp => ?_)
 . have e : a % 2 = 0 := aaD hp
   refine bA (jD (ah (aU (ah (bw (aJ E.cG) (ah ai) ⟨by decide, by decide⟩)) (ah ai) (by decide))) (ah ai)) ?_
   show T.sh _ = T.sh (.int (eZ a))
   rw [eZ, aar e]
 . have e : ¬ a % 2 = 0 := aaK hp
   refine az ?_
   refine aO E.g E.mj (aU (ah (lT (ah (bw (aJ E.cG) (ah ai) ⟨by decide, by decide⟩)) (ah ai) (.inr ⟨by decide, by decide⟩))) (ah (Aq (ah ai) (ah ai) ⟨by decide, by decide, by decide⟩)) (by decide)) ?_
   refine eu (eV (ah (aU (aJ E.cG) (ah ai) (by decide))) (ah ai)).1 (fun hp => ?_) (fun hp => ?_)
   . have e2 : a % 4 = 1 := aaD hp
     refine bA (v_ E.mj.1) ?_
     show T.sh _ = T.sh (.int (eZ a))
     rw [eZ, aap e, aar e2]
     rfl
   . have e2 : ¬ a % 4 = 1 := aaK hp
     refine az (bA (gy (aJ E.mj)) ?_)
     show T.sh _ = T.sh (.int (eZ a))
     rw [eZ, aap e, aap e2]
     rfl
theorem uy : lB (aq m8) ([("cell", av), ("size", av)]) = true := by decide +kernel
theorem uz : aP ["cell", "size"] ["cell"] (aq m8) := aW
abbrev qu : Stmt := top 23
abbrev vO : Type := List Int
def kD : vO -> List L3.D := fun a => [.lst (a.map .int)]
def kE : vO -> Prop := fun a => a.length <= 1000
def kF : vO -> T := fun a => (.lst (((Ri a).map .int).map T.sh) : T)
structure JF (X : Cx) (CL : Str -> Addr) : Prop extends cN X where
 bf : Ln X 0 "script"
 F4 : X.env.kindOf "script" = some .cell
 e7 : Ln X 1 "many"
 bL : Gl X "_law_mixed"
 bq : Gl X "_law_cell_at"
 b9 : Gl X "range"
 e9 : Fc X CL "_law_mixed" 1 2 eL eN eO
 cH : Fc X CL "_law_cell_at" 1 2 dM dN dO
 cg : X.mg "range" = none
 F5 : Fc X CL "_law_number" 1 1 i7 i9 ja
theorem JG {X : Cx} {CL : Str -> Addr} {b : Bx} (E : JF X CL) (a) (h : kE a) :
   aE X CL b qu ["script", "many"] (kD a) (kF a) := by
 dsimp only [aE, kE, kD, kF] at h ⊢
 refine aO E.g E.e7 (aZ (aU (ah (c_ ((bF a 0, 7)) E.e9 E.bL (ak (ah (c_ ((a, 0)) E.cH E.bq (ak (aJ E.bf) (ak (ah ai) aM)) (show (0 : Int) <= 0 by omega) rfl)) (ak (ah ai) aM)) (trivial) rfl)) (ah ai) (by decide)) (t2 := .sh (.int (b8 (bF a 0) 7 % 6))) rfl) ?_
 have m0 := aaN (b8 (bF a 0) 7) (show (6 : Int) ≠ 0 by decide)
 have m1 := aaF (b8 (bF a 0) 7) (show (0 : Int) < 6 by decide)
 refine bA (I0 (p := fun _ => true) (g := fun d => .sh (.int (eZ (bF a (d.yI + 1) + 5 * d.yI)))) (dJ (.cons E.bf.1 (.inl E.F4) .nil) (by decide +kernel)) E.g.calm (ef E.cg (aJ E.e7) (by omega) E.b9) (.inl ⟨rfl, fun _ _ => rfl⟩) (fun C s0 H0 f0 b' d hd => ?JB) (abp (cO (by simp [bC]; omega)))) ?res
 case JB =>
   obtain ⟨j, hj, rfl⟩ := aaW.mp hd
   exact ⟨rfl, fun _ => aZ (c_ (bF a ((0 + (j : Int)) + 1) + 5 * (0 + (j : Int))) (qg E.F5) (j9 (by decide +kernel)) (ak (ah (dh (ah (c_ ((a, (0 + (j : Int)) + 1)) (qg E.cH) (j9 (by decide +kernel)) (ak (ah (v_ (gU (i := 1) rfl (by decide +kernel)))) (ak (ah (dh (ah (v_ (gA (i := 0) rfl (by decide +kernel)))) (ah ai))) aM)) (show (0 : Int) <= (0 + (j : Int)) + 1 by omega) rfl)) (ah (lT (ah ai) (ah (v_ (gA (i := 0) rfl (by decide +kernel)))) (.inl ⟨by decide, by decide⟩))))) aM) (trivial) rfl) rfl⟩
 case res =>
   show T.lst _ = T.lst _
   rw [gK]
   unfold bC Ri
   rw [abh, abh, abh]
   congr 1
   refine abv fun j _ => ?_
   show T.sh (.int (eZ (bF a ((0 : Int) + j + 1) + 5 * ((0 : Int) + j)))) = T.sh (.int (eZ (bF a ((j : Int) + 1) + 5 * (j : Int))))
   rw [abC]
theorem iK : lB (aq qu) ([("script", .cell), ("many", av), ("_law_mixed", aB), ("_law_cell_at", aB), ("range", aB)]) = true := by decide +kernel
theorem zq : aP ["script", "many"] ["script"] (aq qu) := aW
abbrev vP : Stmt := top 17
abbrev AK : Type := Int
def m9 : AK -> List L3.D := fun c => [.int c]
def ng : AK -> Prop := fun c => True
def nh : AK -> T := fun c => (.sh (.str (gD c)) : T)
structure Px (X : Cx) (CL : Str -> Addr) : Prop extends cN X where
 cG : Ln X 0 "cell"
 oM : Ln X 1 "letters"
 aK : Ln X 2 "mixed"
 g6 : Ln X 3 "name"
 jw : Ln X 4 "k"
 b9 : Gl X "range"
 cg : X.mg "range" = none
theorem Py {X : Cx} {CL : Str -> Addr} {b : Bx} (E : Px X CL) (c) (h : ng c) :
   aE X CL b vP ["cell", "letters", "mixed", "name", "k"] (m9 c) (nh c) := by
 dsimp only [aE, ng, m9, nh] at h ⊢
 refine aO E.g E.oM aY ?_
 refine aO E.g E.aK (aU (ah (bw (aJ E.cG) (ah ai) ⟨by decide, by decide⟩)) (ah (Aq (ah ai) (ah ai) ⟨by decide, by decide, by decide⟩)) (by decide)) ?_
 generalize ZI : c / 12 % 10 ^ (9 : Int).toNat = m0
 have e0 : XR c = (m0, pY (m0 % 26)) := by rw [← ZI]; rfl
 have Tp : Dv.length = 36 := by decide +kernel
 have ZJ := fun m : Int => aaN m (show (26 : Int) ≠ 0 by decide)
 have ZK := fun m : Int => aaF m (show (0 : Int) < 26 by decide)
 have ZL := fun m : Int => aaN m (show (36 : Int) ≠ 0 by decide)
 have ZM := fun m : Int => aaF m (show (0 : Int) < 36 by decide)
 refine aO E.g E.g6 (EH (aJ E.oM) (ah (aU (aJ E.aK) (ah ai) (by decide))) (by rw [aaX]; decide +kernel) (by rw [Fy]; exact EY 0 (ZJ _) (by have := ZK m0; rw [Tp]; omega))) ?_
 have c0 := aaN c (show (12 : Int) ≠ 0 by decide)
 have c1 := aaF c (show (0 : Int) < 12 by decide)
 refine jt E.g E.jw (fun j δ => ∃ o, δ = [some (.sh (.int c)), some (.sh (.str "abcdefghijklmnopqrstuvwxyz0123456789")), some (.sh (.int (gC (m0, pY (m0 % 26)) j).1)), some (.sh (.str (gC (m0, pY (m0 % 26)) j).2)), o])
   (ef E.cg (ah (aU (aJ E.cG) (ah ai) (by decide))) (by omega) E.b9) ⟨_, rfl⟩ (fun j δ ⟨_, e⟩ => by subst e; exact aat rfl) ?turn ?fin
 case turn =>
   rintro j d δ hj ⟨o, rfl⟩
   obtain ⟨rfl, BV⟩ := gB hj
   have U4 := FD (m0, pY (m0 % 26)) j
   have V4 : (pY (m0 % 26)).length = 1 := rfl
   refine aO E.g E.aK (aU (ah (dh (ah (lT (aJ E.aK) (ah ai) (.inr ⟨by decide, by decide⟩))) (ah ai))) (ah ai) (by decide)) ?_
   refine aO E.g E.g6 (jE (aJ E.g6) (ah (EH (aJ E.oM) (ah (aU (aJ E.aK) (ah ai) (by decide))) (by rw [aaX]; decide +kernel) (by rw [Fy]; exact EY 0 (ZL _) (by have := ZM (Jh (gC (m0, pY (m0 % 26)) j).1); unfold Jh at this; rw [Tp]; omega)))) (by rw [aaX, U4, V4]; show 1 + j + 1 <= _; omega)) (az ⟨_, rfl⟩)
 case fin =>
   rintro δ ⟨o, rfl⟩
   have hn : (bC 0 (c % 12).toNat).length = (c % 12).toNat := by simp [bC]
   rw [hn]
   have hb : (gC (m0, pY (m0 % 26)) (c % 12).toNat).2 = Hu c := by unfold Hu; rw [e0]
   rw [hb]
   have U1 := BZ c
   refine eu (EX (l := w13) (aJ E.g6) (qh rfl)).1 (fun hp => ?_) (fun hp => az ?_)
   . refine bA (jE (aJ E.g6) (ah aY) (by rw [aaX]; show _ + 1 <= _; omega)) ?_
     show T.sh _ = T.sh (.str (gD c))
     rw [gD, aar (aaD hp)]
   refine eu (EX (l := w6) (aJ E.g6) (qh rfl)).1 (fun hq => ?_) (fun hq => az ?_)
   . refine bA (jE (aJ E.g6) (ah aY) (by rw [aaX]; show _ + 1 <= _; omega)) ?_
     show T.sh _ = T.sh (.str (gD c))
     rw [gD, aap (aaK hp), aar (aaD hq)]
   . refine bA (v_ E.g6.1) ?_
     show T.sh _ = T.sh (.str (gD c))
     rw [gD, aap (aaK hp), aap (aaK hq)]
theorem kG : lB (aq vP) ([("cell", av), ("letters", av), ("mixed", av), ("name", av), ("k", av), ("range", aB)]) = true := by decide +kernel
theorem B9 : aP ["cell", "letters", "mixed", "name", "k"] ["cell"] (aq vP) := aW
abbrev qv : Stmt := top 24
abbrev vQ : Type := List Int
def kH : vQ -> List L3.D := fun a => [.lst (a.map .int)]
def kI : vQ -> Prop := fun a => a.length <= 1000
def kJ : vQ -> T := fun a => (.lst (((Jl a).map .str).map T.sh) : T)
structure JH (X : Cx) (CL : Str -> Addr) : Prop extends cN X where
 bf : Ln X 0 "script"
 rZ : Ln X 1 "base"
 jM : Gl X "_law_name"
 bq : Gl X "_law_cell_at"
 AO : Fc X CL "_law_name" 1 1 m9 ng nh
 cH : Fc X CL "_law_cell_at" 1 2 dM dN dO
theorem JK {X : Cx} {CL : Str -> Addr} {b : Bx} (E : JH X CL) (a) (h : kI a) :
   aE X CL b qv ["script", "base"] (kH a) (kJ a) := by
 dsimp only [aE, kI, kH, kJ] at h ⊢
 have hz : ∀ c, (gD c).length <= 13 := fun c => Dw c
 have hb : (pP a).length <= 13 := abb (Txt.slice_le _ _ _) (hz _)
 refine aO E.g E.rZ (aZ (Di (ah (c_ (bF a 0 / 2) E.AO E.jM (ak (ah (bw (ah (c_ ((a, 0)) E.cH E.bq (ak (aJ E.bf) (ak (ah ai) aM)) (show (0 : Int) <= 0 by omega) rfl)) (ah ai) ⟨by decide, by decide⟩)) aM) (trivial) rfl)) ((by rw [aaX]; have := hz (bF a 0 / 2); omega)) u0 (u5 (ah ai))) (t2 := .sh (.str (pP a))) rfl) ?_
 show d9 X CL b _ _ { nx := _, rt := fun Fg _ => Fg = T.lst (((Jl a).map .str).map T.sh), bk := _, ct := _ }
 unfold Jl
 generalize pP a = bs at hb ⊢
 refine eu (eV (ah (aU (ah (c_ ((a, 0)) E.cH E.bq (ak (aJ E.bf) (ak (ah ai) aM)) (show (0 : Int) <= 0 by omega) rfl)) (ah ai) (by decide))) (ah ai)).1 (fun hp => ?_) (fun hp => az ?_)
 . rw [aar (aaD hp)]
   exact bA (gM (aH (jE (aJ E.rZ) (ah aY) ((by rw [aaX]; show _ + 1 <= _; omega))) (aH (jE (aJ E.rZ) (ah aY) ((by rw [aaX]; show _ + 2 <= _; omega))) (aH (jE (aJ E.rZ) (ah aY) ((by rw [aaX]; show _ + 1 <= _; omega))) bZ))) (aF rfl)) rfl
 . rw [aap (aaK hp)]
   exact bA (gM (aH (v_ E.rZ.1) (aH (c_ (bF a 1 + 5) E.AO E.jM (ak (ah (dh (ah (c_ ((a, 1)) E.cH E.bq (ak (aJ E.bf) (ak (ah ai) aM)) (show (0 : Int) <= 1 by omega) rfl)) (ah ai))) aM) (trivial) rfl) (aH (c_ (bF a 2 + 10) E.AO E.jM (ak (ah (dh (ah (c_ ((a, 2)) E.cH E.bq (ak (aJ E.bf) (ak (ah ai) aM)) (show (0 : Int) <= 2 by omega) rfl)) (ah ai))) aM) (trivial) rfl) bZ))) (aF rfl)) rfl
theorem ni : lB (aq qv) ([("script", av), ("base", av), ("_law_name", aB), ("_law_cell_at", aB)]) = true := by decide +kernel
theorem zu : aP ["script", "base"] ["script"] (aq qv) := aW
abbrev qw : Stmt := top 15
abbrev vR : Type := Int
def kK : vR -> List L3.D := fun a => [.int a]
def kL : vR -> Prop := fun a => True
def kM : vR -> T := fun a => (.sh (.int (dw a)) : T)
structure JL (X : Cx) (CL : Str -> Addr) : Prop extends cN X where
 cG : Ln X 0 "cell"
 mj : Ln X 1 "size"
theorem JM {X : Cx} {CL : Str -> Addr} {b : Bx} (E : JL X CL) (a) (h : kL a) :
   aE X CL b qw ["cell", "size"] (kK a) (kM a) := by
 dsimp only [aE, kL, kK, kM] at h ⊢
 refine eu (eV (ah (aU (aJ E.cG) (ah ai) (by decide))) (ah ai)).1 (fun hp => ?_) (fun hp => az ?_)
 . refine bA (jD (ah (aU (ah (bw (aJ E.cG) (ah ai) ⟨by decide, by decide⟩)) (ah ai) (by decide))) (ah ai)) ?_
   show T.sh _ = T.sh (.int (dw a))
   rw [dw, aar (aaD hp)]
 . have e : ¬ a % 2 = 0 := aaK hp
   refine aO E.g E.mj (aZ (aU (ah (lT (ah (bw (aJ E.cG) (ah ai) ⟨by decide, by decide⟩)) (ah ai) (.inr ⟨by decide, by decide⟩))) (ah (jD (ah (Aq (ah ai) (ah ai) ⟨by decide, by decide, by decide⟩)) (ah ai))) (by decide)) (t2 := .sh (.int (a / 4 * 48271 % (10 ^ 30 - 1)))) rfl) ?_
   refine eu (eV (ah (aU (aJ E.cG) (ah ai) (by decide))) (ah ai)).1 (fun hp => ?_) (fun hp => az ?_)
   . refine bA (v_ E.mj.1) ?_
     show T.sh _ = T.sh (.int (dw a))
     rw [dw, aap e, aar (aaD hp)]
   . refine bA (gy (aJ E.mj)) ?_
     show T.sh _ = T.sh (.int (dw a))
     rw [dw, aap e, aap (aaK hp)]
theorem zv : lB (aq qw) ([("cell", av), ("size", av)]) = true := by decide +kernel
theorem zx : aP ["cell", "size"] ["cell"] (aq qw) := aW
abbrev qx : Stmt := top 25
abbrev vS : Type := Int × Int × List Int
def kN : vS -> List L3.D := fun (bx, mo, bs) => [.tup [.int bx, .int mo], .lst (bs.map .int)]
def kO : vS -> Prop := fun (bx, mo, bs) => bx = -1 \/ (0 <= bx /\ bx < bs.length)
def kP : vS -> T := fun (bx, mo, bs) => (.sh (.int (lX bx mo bs)) : T)
structure JN (X : Cx) (CL : Str -> Addr) : Prop extends cN X where
 vU : Ln X 0 "term"
 bY : Ln X 1 "boxes"
theorem JQ {X : Cx} {CL : Str -> Addr} {b : Bx} (E : JN X CL) (bx mo bs) (h : kO (bx, mo, bs)) :
   aE X CL b qx ["term", "boxes"] (kN (bx, mo, bs)) (kP (bx, mo, bs)) := by
 dsimp only [aE, kO, kN, kP] at h ⊢
 refine eu (eV (bT (aJ E.vU) (ah ai) rfl) (ah (gy (ah ai)))).1 (fun hp => ?_) (fun hp => ?_)
 . refine bA (cK (bT (aJ E.vU) (ah ai) rfl) rfl) ?_
   have e : bx = -1 := aaD hp
   show T.sh (.int mo) = T.sh (.int (lX bx mo bs))
   rw [lX, aar e]
 . refine az ?_
   have e : ¬ bx = -1 := aaK hp
   refine bA (dh (aR (aJ E.bY) (bT (aJ E.vU) (ah ai) rfl) (dZ (by omega) (by omega))) (bT (aJ E.vU) (ah ai) rfl)) ?_
   show T.sh _ = T.sh (.int (lX bx mo bs))
   rw [lX, aap e]
theorem zy : lB (aq qx) ([("term", av), ("boxes", av)]) = true := by decide +kernel
theorem zA : aP ["term", "boxes"] ["term", "boxes"] (aq qx) := aW
abbrev Ca : Stmt := top 26
abbrev F6 : Type := Str × Int × Int
def qy : F6 -> List L3.D := fun (mk, i, j) => [.str mk, .int i, .int j]
def qz : F6 -> Prop := fun (mk, i, j) => True
def qA : F6 -> T := fun (mk, i, j) => (.sh (.bl (jL mk i j)) : T)
structure Tq (X : Cx) (CL : Str -> Addr) : Prop extends cN X where
 AQ : Ln X 0 "mark"
 lI : Ln X 1 "one"
 fZ : Ln X 2 "other"
theorem Tr {X : Cx} {CL : Str -> Addr} {b : Bx} (E : Tq X CL) (mk i j) (h : qz (mk, i, j)) :
   aE X CL b Ca ["mark", "one", "other"] (qy (mk, i, j)) (qA (mk, i, j)) := by
 dsimp only [aE, qz, qy, qA] at h ⊢
 refine eu (eH (aJ E.AQ) (ah aY)).1 (fun hp => ?_) (fun hp => az ?_)
 . refine bA (Mt (aJ E.lI) (aJ E.fZ)).2 ?_
   show T.sh _ = T.sh (.bl (jL mk i j))
   rw [jL, aar (aaD hp)]
 refine eu (eH (aJ E.AQ) (ah aY)).1 (fun hq => ?_) (fun hq => az ?_)
 . refine bA (Sh (aJ E.lI) (aJ E.fZ)).2 ?_
   show T.sh _ = T.sh (.bl (jL mk i j))
   rw [jL, aap (aaK hp), aar (aaD hq)]
 refine eu (eH (aJ E.AQ) (ah aY)).1 (fun hr => ?_) (fun hr => az ?_)
 . refine bA (eV (aJ E.lI) (aJ E.fZ)).2 ?_
   show T.sh _ = T.sh (.bl (jL mk i j))
   rw [jL, aap (aaK hp), aap (aaK hq), aar (aaD hr)]
 . refine bA (qQ (aJ E.lI) (aJ E.fZ)).2 ?_
   show T.sh _ = T.sh (.bl (jL mk i j))
   rw [jL, aap (aaK hp), aap (aaK hq), aap (aaK hr)]
theorem AU : lB (aq Ca) ([("mark", av), ("one", av), ("other", av)]) = true := by decide +kernel
theorem F7 : aP ["mark", "one", "other"] ["mark", "one", "other"] (aq Ca) := aW
abbrev Cb : Stmt := top 27
abbrev F8 : Type := Int × List Int × Nat × List Int
def qB : F8 -> List L3.D := fun (c, ops, m, bs) => [.int c, .lst (ops.map .int), .int m, .lst (bs.map .int)]
def nj : F8 -> Prop := fun (c, ops, m, bs) => 1 <= m /\ bs.length <= 1000
def qC : F8 -> T := fun (c, ops, m, bs) => (.sh (cW (lZ ops m bs c)) : T)
structure Tt (X : Cx) (CL : Str -> Addr) : Prop extends cN X where
 cG : Ln X 0 "cell"
 aQ : Ln X 1 "opens"
 e7 : Ln X 2 "many"
 bY : Ln X 3 "boxes"
 aK : Ln X 4 "mixed"
 AV : Ln X 5 "good"
 Pz : X.env.kindOf "good" = some .cell
 gZ : Ln X 6 "mood"
 lI : Ln X 7 "one"
 fZ : Ln X 8 "other"
 F9 : Ln X 9 "side"
 PB : X.env.kindOf "side" = some .cell
 Cd : Ln X 10 "right"
 JR : X.env.kindOf "right" = some .cell
 vV : Ln X 11 "marks"
 bL : Gl X "_law_mixed"
 Ga : Gl X "int"
 cD : Gl X "len"
 nq : Gl X "_law_small"
 nu : Gl X "_law_worth"
 e9 : Fc X CL "_law_mixed" 1 2 eL eN eO
 Gb : X.mg "int" = none
 cE : X.mg "len" = none
 Ce : Fc X CL "_law_small" 1 1 kK kL kM
 Cg : Fc X CL "_law_worth" 1 2 kN kO kP
 Tv : Fc X CL "_law_due" 1 3 qy qz qA
theorem Tw {X : Cx} {CL : Str -> Addr} {b : Bx} (E : Tt X CL) (c ops m bs) (h : nj (c, ops, m, bs)) :
   aE X CL b Cb ["cell", "opens", "many", "boxes", "mixed", "good", "mood", "one", "other", "side", "right", "marks"] (qB (c, ops, m, bs)) (qC (c, ops, m, bs)) := by
 dsimp only [aE, nj, qB, qC] at h ⊢
 obtain ⟨hm, hb⟩ := h
 refine aO E.g E.aK (aZ (c_ ((c, 31)) E.e9 E.bL (ak (aJ E.cG) (ak (ah ai) aM)) (trivial) rfl) (t2 := .sh (.int (b8 c 31))) rfl) ?_
 refine aO E.g E.AV (aZ (Mu (ah (aU (aJ E.aK) (ah ai) (by decide))) (ah ai)).2 (t2 := .sh (.bl (zf c))) rfl) ?_
 show d9 X CL b _ _ { nx := _, rt := fun Fg _ => Fg = T.sh (cW (lZ ops m bs c)), bk := _, ct := _ }
 have c0 := vt c 31
 refine eu (eV (ah (aU (ah (bw (aJ E.aK) (ah ai) ⟨by decide, by decide⟩)) (ah ai) (by decide))) (ah ai)).1 (fun hp => ?_) (fun hp => az ?_)
 . have hp := aaD hp
   rw [show lZ ops m bs c = .tN (decide (decide (b8 c 31 / 9 % (m : Int) ∈ ops) = zf c)) (b8 c 31 / 9 % (m : Int)) by unfold lZ; rw [aar hp]]
   refine aO E.g E.gZ (aU (ah (bw (aJ E.aK) (ah ai) ⟨by decide, by decide⟩)) (aJ E.e7) (by omega)) ?_
   have F0 : ∀ p : Bool, sZ [L3.D.str "shut", .str "open"] (if p then 1 else 0) = some (.str (if p then "open" else "shut")) := fun p => by cases p <;> rfl
   exact bA (cB (aH (cK (aR (cL (gM (ds := [.str "shut", .str "open"]) (aH aY (aH aY bZ)) (aF rfl))) (ah (IE E.Gb (ah (ER (ah (kg (aJ E.gZ) (aJ E.aQ) rfl rfl).2) (aJ E.AV)).2) E.Ga)) (F0 _)) rfl) (aH (v_ E.gZ.1) bZ)) (aF rfl)) rfl
 have hp := aaK hp
 rw [show lZ ops m bs c = .num (zg c bs) (pZ c bs.length) (dw (c / 3)) (oG c bs.length) (vA c) by unfold lZ; rw [aap hp]]
 refine aO E.g E.lI (aZ (cB (aH (jD (ah (aU (ah (bw (aJ E.aK) (ah ai) ⟨by decide, by decide⟩)) (ah (dh (ah (cJ (aaz ..) E.cE (aJ E.bY) E.cD)) (ah ai))) (by omega))) (ah ai)) (aH (c_ (c / 3) E.Ce E.nq (ak (ah (bw (aJ E.cG) (ah ai) ⟨by decide, by decide⟩)) aM) (trivial) rfl) bZ)) (aF rfl)) (t2 := .sh (.tup [.int (pZ c bs.length), .int (dw (c / 3))])) rfl) ?_
 refine aO E.g E.fZ (aZ (cB (aH (jD (ah (aU (ah (bw (aJ E.aK) (ah ai) ⟨by decide, by decide⟩)) (ah (dh (ah (cJ (aaz ..) E.cE (aJ E.bY) E.cD)) (ah ai))) (by omega))) (ah ai)) (aH (c_ (c / 5 + 1) E.Ce E.nq (ak (ah (dh (ah (bw (aJ E.cG) (ah ai) ⟨by decide, by decide⟩)) (ah ai))) aM) (trivial) rfl) bZ)) (aF rfl)) (t2 := .sh (.tup [.int (b8 c 31 / 81 % ((bs.length : Int) + 1) - 1), .int (dw (c / 5 + 1))])) rfl) ?_
 refine t7 (fun δ => δ = [some (.sh (.int c)), some (.sh (.lst (ops.map .int))), some (.sh (.int m)), some (.sh (.lst (bs.map .int))), some (.sh (.int (b8 c 31))), some (.sh (.bl (zf c))), none, some (.sh (.tup [.int (pZ c bs.length), .int (dw (c / 3))])), some (.sh (.tup [.int (oG c bs.length), .int (vA c)])), none, none, none]) (eV (ah (aU (ah (bw (aJ E.aK) (ah ai) ⟨by decide, by decide⟩)) (ah ai) (by decide))) (ah ai)).1 (fun hq => ?_) (fun hq => ?_) ?_
 . have hq := aaD hq
   rw [show oG c bs.length = pZ c bs.length by unfold oG; rw [aar hq], show vA c = dw (c / 3) + b8 c 31 / 2187 % 3 - 1 by unfold vA; rw [aar hq]]
   exact aO E.g E.fZ (cB (aH (cK (bT (aJ E.lI) (ah ai) rfl) rfl) (aH (jD (ah (dh (bT (aJ E.lI) (ah ai) rfl) (ah (aU (ah (bw (aJ E.aK) (ah ai) ⟨by decide, by decide⟩)) (ah ai) (by decide))))) (ah ai)) bZ)) (aF rfl)) (az rfl)
 . have hq := aaK hq
   rw [show oG c bs.length = b8 c 31 / 81 % ((bs.length : Int) + 1) - 1 by unfold oG; rw [aap hq], show vA c = dw (c / 5 + 1) by unfold vA; rw [aap hq]]
   exact az rfl
 rintro δ rfl
 refine aO E.g E.F9 (aZ (c_ ((pZ c bs.length, dw (c / 3), bs)) E.Cg E.nu (ak (aJ E.lI) (ak (aJ E.bY) aM)) (vC c bs.length) rfl) (t2 := .sh (.int (lH c bs))) rfl) ?_
 refine aO E.g E.Cd (aZ (c_ ((oG c bs.length, vA c, bs)) E.Cg E.nu (ak (aJ E.fZ) (ak (aJ E.bY) aM)) (B6 c bs.length) rfl) (t2 := .sh (.int (gY c bs))) rfl) ?_
 have XU : zg c bs = (rQ (zf c) (lH c bs) (gY c bs)).getD (b8 c 31 / 6561 % ((rQ (zf c) (lH c bs) (gY c bs)).length : Nat)).toNat Str.empty := rfl
 rw [XU]
 generalize lH c bs = sd
 generalize gY c bs = rt
 have ZN := zc (zf c) sd rt
 have ZO : (((rO.map L3.D.str).filter fun d => decide (jL d.toS sd rt = zf c)).map fun d => T.sh d) = ((rQ (zf c) sd rt).map L3.D.str).map T.sh := by
   rw [List.filter_map]
   rfl
 refine rq (p := fun d => decide (jL d.toS sd rt = zf c)) (gg := fun d => T.sh d) E.g E.vV (dJ (.cons E.AV.1 (.inl E.Pz) (.cons E.Cd.1 (.inl E.JR) (.cons E.F9.1 (.inl E.PB) .nil))) (by decide +kernel)) (qX (Iz (ds := rO.map L3.D.str) (qh rfl))) (.inr rfl) (fun C s0 H0 f0 b' d hd => ?JB) (aF rfl) ?rest (by exact aat rfl) (jF ⟨_, rfl⟩)
 case JB =>
   obtain ⟨mk, XU, rfl⟩ := aaW.mp hd
   exact ⟨(ER (ah (c_ ((mk, sd, rt)) (qg E.Tv) (j9 (by decide +kernel)) (ak (ah (v_ (gA (i := 0) rfl (by decide +kernel)))) (ak (ah (v_ (gU (i := 3) rfl (by decide +kernel)))) (ak (ah (v_ (gU (i := 2) rfl (by decide +kernel)))) aM))) (trivial) rfl)) (ah (v_ (gU (i := 1) rfl (by decide +kernel))))).1, fun _ => (v_ (gA (i := 0) rfl (by decide +kernel)))⟩
 case rest =>
 rw [ZO]
 generalize rQ (zf c) sd rt = XW at ZN
 have l0 := aaN (b8 c 31 / 6561) (b := (XW.length : Nat)) (by omega)
 have l1 := aaF (b8 c 31 / 6561) (b := (XW.length : Nat)) (by omega)
 exact bA (cB (aH (cK (aR (vL E.vV.1) (ah (aU (ah (bw (aJ E.aK) (ah ai) ⟨by decide, by decide⟩)) (ah (cJ (aaz ..) E.cE (vL E.vV.1) E.cD)) (by omega))) (iS Str.empty l0 l1)) rfl) (aH (v_ E.lI.1) (aH (v_ E.fZ.1) bZ))) (aF rfl)) rfl
theorem cS : lB (aq Cb) ([("cell", av), ("opens", av), ("many", av), ("boxes", av), ("mixed", av), ("good", .cell), ("mood", av), ("one", av), ("other", av), ("side", .cell), ("right", .cell), ("marks", av), ("_law_mixed", aB), ("int", aB), ("len", aB), ("_law_small", aB), ("_law_worth", aB)]) = true := by decide +kernel
theorem Gd : aP ["cell", "opens", "many", "boxes", "mixed", "good", "mood", "one", "other", "side", "right", "marks"] ["cell", "opens", "many", "boxes"] (aq Cb) := aW
abbrev Ci : Stmt := top 28
abbrev Ge : Type := Int × List Int × Nat × List Int × List Str
def qD : Ge -> List L3.D := fun (c, ops, m, bs, th) => [.int c, .lst (ops.map .int), .int m, .lst (bs.map .int), .lst (th.map .str)]
def ny : Ge -> Prop := fun (c, ops, m, bs, th) => 1 <= m /\ 1 <= ops.length /\ bs.length <= 1000 /\ th.length = 3
def qE : Ge -> T := fun (c, ops, m, bs, th) => (.sh (dS (FJ ops m bs th c)) : T)
structure Tz (X : Cx) (CL : Str -> Addr) : Prop extends cN X where
 cG : Ln X 0 "cell"
 aQ : Ln X 1 "opens"
 e7 : Ln X 2 "many"
 bY : Ln X 3 "boxes"
 fE : Ln X 4 "three"
 aK : Ln X 5 "mixed"
 r6 : Ln X 6 "source"
 mq : Ln X 7 "asks"
 jw : Ln X 8 "k"
 Cj : Ln X 9 "deeds"
 r9 : Ln X 10 "target"
 AW : Ln X 11 "mode"
 bL : Gl X "_law_mixed"
 cD : Gl X "len"
 b9 : Gl X "range"
 AX : Gl X "_law_ask"
 JS : Gl X "tuple"
 e9 : Fc X CL "_law_mixed" 1 2 eL eN eO
 cE : X.mg "len" = none
 cg : X.mg "range" = none
 TF : Fc X CL "_law_ask" 2 4 qB nj qC
 JT : X.mg "tuple" = none
theorem TH {X : Cx} {CL : Str -> Addr} {b : Bx} (E : Tz X CL) (c ops m bs th) (h : ny (c, ops, m, bs, th)) :
   aE X CL b Ci ["cell", "opens", "many", "boxes", "three", "mixed", "source", "asks", "k", "deeds", "target", "mode"] (qD (c, ops, m, bs, th)) (qE (c, ops, m, bs, th)) := by
 dsimp only [aE, ny, qD, qE] at h ⊢
 obtain ⟨hm, ho, hb, h3⟩ := h
 refine aO E.g E.aK (aZ (c_ ((c, 11)) E.e9 E.bL (ak (aJ E.cG) (ak (ah ai) aM)) (trivial) rfl) (t2 := .sh (.int (b8 c 11))) rfl) ?_
 have c0 := vt c 11
 show d9 X CL b _ _ { nx := _, rt := fun Fg _ => Fg = T.sh (dS (FJ ops m bs th c)), bk := _, ct := _ }
 have hw : dS (FJ ops m bs th c) = .tup [.int (if b8 c 11 % 2 = 0 then ops.getD (b8 c 11 / 2 % (ops.length : Nat)).toNat 0 else b8 c 11 / 2 % (m : Int)), .str (th.getD (b8 c 13 / 300 % 3).toNat Str.empty), .tup ((Dz ops m bs c).map cW), .tup (MK th (b8 c 11 / 300 % 3)), .int (if b8 c 13 % 5 = 0 then -1 else b8 c 13 / 5 % (m : Int)), .str (if b8 c 13 % 5 = 0 then "new" else (["new", "near", "far"] : List Str).getD (b8 c 13 / 100 % 3).toNat Str.empty)] := rfl
 rw [hw]
 generalize JV : (if b8 c 11 % 2 = 0 then ops.getD (b8 c 11 / 2 % (ops.length : Nat)).toNat 0 else b8 c 11 / 2 % (m : Int)) = src
 refine aO E.g E.r6 (aU (ah (bw (aJ E.aK) (ah ai) ⟨by decide, by decide⟩)) (aJ E.e7) (by omega)) ?_
 have Rj : (ops.map L3.D.int).length = ops.length := by simp
 have l0 := aaN (b8 c 11 / 2) (b := (ops.length : Nat)) (by omega)
 have l1 := aaF (b8 c 11 / 2) (b := (ops.length : Nat)) (by omega)
 refine t7 (fun δ => δ = [some (.sh (.int c)), some (.sh (.lst (ops.map .int))), some (.sh (.int m)), some (.sh (.lst (bs.map .int))), some (.sh (.lst (th.map .str))), some (.sh (.int (b8 c 11))), some (.sh (.int src)), none, none, none, none, none]) (eV (ah (aU (aJ E.aK) (ah ai) (by decide))) (ah ai)).1 (fun hq => ?_) (fun hq => ?_) ?_
 . rw [aar (aaD hq)] at JV
   rw [← JV]
   exact aO E.g E.r6 (cK (aR (aJ E.aQ) (ah (aU (ah (bw (aJ E.aK) (ah ai) ⟨by decide, by decide⟩)) (ah (cJ (Rj) E.cE (aJ E.aQ) E.cD)) (by omega))) (dZ l0 l1)) rfl) (az rfl)
 . rw [aap (aaK hq)] at JV
   rw [← JV]
   exact az rfl
 rintro δ rfl
 refine aO E.g E.mq (dm di (aaY _)) ?_
 have k0 := aaN (b8 c 11 / 100) (show (3 : Int) ≠ 0 by decide)
 have k1 := aaF (b8 c 11 / 100) (show (0 : Int) < 3 by decide)
 refine jt E.g E.jw (fun j δ => ∃ o8, δ = [some (.sh (.int c)), some (.sh (.lst (ops.map .int))), some (.sh (.int m)), some (.sh (.lst (bs.map .int))), some (.sh (.lst (th.map .str))), some (.sh (.int (b8 c 11))), some (.sh (.int src)), some (.lst ((((List.range j).map fun (k : Nat) => lZ ops m bs (c / ((k : Int) + 1) + 17 * (k : Int))).map cW).map T.sh)), o8, none, none, none])
   (ef E.cg (ah (aU (ah (bw (aJ E.aK) (ah ai) ⟨by decide, by decide⟩)) (ah ai) (by decide))) (by omega) E.b9) ⟨_, rfl⟩ (fun j δ ⟨_, e⟩ => by subst e; exact aat rfl) ?turn ?fin
 case turn =>
   rintro j d δ hj ⟨o8, rfl⟩
   obtain ⟨rfl, BV⟩ := gB hj
   have BV : j < (b8 c 11 / 100 % 3).toNat := BV
   rw [abC]
   refine ju E.mq.1 rfl (aZ (c_ ((c / ((j : Int) + 1) + 17 * (j : Int), ops, m, bs)) E.TF E.AX (ak (ah (dh (ah (bw (aJ E.cG) (ah (dh (aJ E.jw) (ah ai))) (⟨by omega, by omega⟩))) (ah (lT (ah ai) (aJ E.jw) (.inl ⟨by decide, by decide⟩))))) (ak (aJ E.aQ) (ak (aJ E.e7) (ak (aJ E.bY) aM)))) (by dsimp only [nj]; exact (⟨hm, hb⟩)) (rP _)) (t2 := .sh (cW (lZ ops m bs (c / ((j : Int) + 1) + 17 * (j : Int))))) rfl) rfl (by simp; omega) (az ?_)
   have e1 : ((((List.range j).map fun (k : Nat) => lZ ops m bs (c / ((k : Int) + 1) + 17 * (k : Int))).map cW).map T.sh) ++ [T.sh (cW (lZ ops m bs (c / ((j : Int) + 1) + 17 * (j : Int))))] = ((((List.range (j + 1)).map fun (k : Nat) => lZ ops m bs (c / ((k : Int) + 1) + 17 * (k : Int))).map cW).map T.sh) := by
     simp [abT]
   rw [e1]
   exact ⟨_, rfl⟩
 case fin =>
   rintro δ ⟨o8, rfl⟩
   have e0 : (bC 0 (b8 c 11 / 100 % 3).toNat).length = (b8 c 11 / 100 % 3).toNat := by simp [bC]
   rw [e0]
   rw [show ((List.range (b8 c 11 / 100 % 3).toNat).map fun (k : Nat) => lZ ops m bs (c / ((k : Int) + 1) + 17 * (k : Int))) = Dz ops m bs c from rfl]
   generalize Dz ops m bs c = al
   have WQ : ∀ i : Nat, i < 3 -> sZ (th.map L3.D.str) (i : Int) = some (.str (th.getD i Str.empty)) := fun i hi => iS Str.empty (by omega) (by omega)
   have F0 : sZ [L3.D.tup [], .tup [.tup [.str "call", .str (th.getD 0 Str.empty)]], .tup [.tup [.str "say", .str (th.getD 1 Str.empty), .tup [.int (-1), .int 7]], .tup [.str "call", .str (th.getD 2 Str.empty)]]] (b8 c 11 / 300 % 3) = some (.tup (MK th (b8 c 11 / 300 % 3))) := by
     have : b8 c 11 / 300 % 3 = 0 \/ b8 c 11 / 300 % 3 = 1 \/ b8 c 11 / 300 % 3 = 2 := by omega
     rcases this with e | e | e <;> rw [e] <;> rfl
   have WR : (L3.D.tup (MK th (b8 c 11 / 300 % 3))).iP = true := by
     have : b8 c 11 / 300 % 3 = 0 \/ b8 c 11 / 300 % 3 = 1 \/ b8 c 11 / 300 % 3 = 2 := by omega
     rcases this with e | e | e <;> rw [e] <;> rfl
   refine aO E.g E.Cj (cK (aR (δ1 := [some (.sh (.int c)), some (.sh (.lst (ops.map .int))), some (.sh (.int m)), some (.sh (.lst (bs.map .int))), some (.sh (.lst (th.map .str))), some (.sh (.int (b8 c 11))), some (.sh (.int src)), some (.lst ((al.map cW).map T.sh)), o8, none, none, none]) (cL (gM (ds := [L3.D.tup [], .tup [.tup [.str "call", .str (th.getD 0 Str.empty)]], .tup [.tup [.str "say", .str (th.getD 1 Str.empty), .tup [.int (-1), .int 7]], .tup [.str "call", .str (th.getD 2 Str.empty)]]])
     (mV ?d1 (mV ?d2 (mV ?d3 bZ))) (aF rfl))) (ah (aU (ah (bw (aJ E.aK) (ah ai) ⟨by decide, by decide⟩)) (ah ai) (by decide))) F0) WR) ?rest
   case d1 => exact cB bZ (aF rfl)
   case d2 => exact cB (aH (cB (aH aY (aH (cK (aR (aJ E.fE) (ah ai) (WQ 0 (by omega))) rfl) bZ)) (aF rfl)) bZ) (aF rfl)
   case d3 =>
     refine cB (mV ?d4 (mV ?d5 bZ)) (aF rfl)
     case d4 => exact cB (aH aY (aH (cK (aR (aJ E.fE) (ah ai) (WQ 1 (by omega))) rfl) (aH (cB (aH (gy (ah ai)) (aH ai bZ)) (aF rfl)) bZ))) (aF rfl)
     case d5 => exact cB (aH aY (aH (cK (aR (aJ E.fE) (ah ai) (WQ 2 (by omega))) rfl) bZ)) (aF rfl)
   case rest =>
   generalize MK th (b8 c 11 / 300 % 3) = de
   refine aO E.g E.aK (aZ (c_ ((c, 13)) E.e9 E.bL (ak (aJ E.cG) (ak (ah ai) aM)) (trivial) rfl) (t2 := .sh (.int (b8 c 13))) rfl) ?_
   have d0 := vt c 13
   generalize b8 c 13 = q at d0 ⊢
   refine aO E.g E.r9 (aU (ah (bw (aJ E.aK) (ah ai) ⟨by decide, by decide⟩)) (aJ E.e7) (by omega)) ?_
   refine aO E.g E.AW (cK (aR (cL (gM (aH aY (aH aY (aH aY bZ))) (aF rfl))) (ah (aU (ah (bw (aJ E.aK) (ah ai) ⟨by decide, by decide⟩)) (ah ai) (by decide))) (iS (f := L3.D.str) (l := ["new", "near", "far"]) Str.empty (aaN _ (by decide)) (aaF _ (by decide)))) rfl) ?_
   generalize U5 : (if q % 5 = 0 then (-1 : Int) else q / 5 % (m : Int)) = tg
   generalize U6 : (if q % 5 = 0 then ("new" : Str) else (["new", "near", "far"] : List Str).getD (q / 100 % 3).toNat Str.empty) = md
   refine t7 (fun δ => δ = [some (.sh (.int c)), some (.sh (.lst (ops.map .int))), some (.sh (.int m)), some (.sh (.lst (bs.map .int))), some (.sh (.lst (th.map .str))), some (.sh (.int q)), some (.sh (.int src)), some (.lst ((al.map cW).map T.sh)), o8, some (.sh (.tup de)), some (.sh (.int tg)), some (.sh (.str md))]) (eV (ah (aU (aJ E.aK) (ah ai) (by decide))) (ah ai)).1 (fun hq => ?_) (fun hq => ?_) ?_
   . rw [aar (aaD hq)] at U5 U6
     rw [← U5, ← U6]
     exact aO E.g E.r9 (gy (ah ai)) (aO E.g E.AW aY (az rfl))
   . rw [aap (aaK hq)] at U5 U6
     rw [← U5, ← U6]
     exact az rfl
   rintro δ rfl
   have q0 := aaN (q / 300) (show (3 : Int) ≠ 0 by decide)
   have q1 := aaF (q / 300) (show (0 : Int) < 3 by decide)
   exact bA (cB (aH (v_ E.r6.1) (aH (cK (aR (aJ E.fE) (ah (aU (ah (bw (aJ E.aK) (ah ai) ⟨by decide, by decide⟩)) (ah ai) (by decide))) (iS Str.empty q0 (by omega))) rfl) (aH (Dc E.JT (vL E.mq.1) (iA (fun a => rP a) _) E.JS) (aH (v_ E.Cj.1) (aH (v_ E.r9.1) (aH (v_ E.AW.1) bZ)))))) (aF rfl)) rfl
theorem dP : lB (aq Ci) ([("cell", av), ("opens", av), ("many", av), ("boxes", av), ("three", av), ("mixed", av), ("source", av), ("asks", av), ("k", av), ("deeds", av), ("target", av), ("mode", av), ("_law_mixed", aB), ("len", aB), ("range", aB), ("_law_ask", aB), ("tuple", aB)]) = true := by decide +kernel
theorem Gf : aP ["cell", "opens", "many", "boxes", "three", "mixed", "source", "asks", "k", "deeds", "target", "mode"] ["cell", "opens", "many", "boxes", "three"] (aq Ci) := aW
theorem JW {α : Type} {l : List α} {k : Nat} (h : l.length <= k) : cutD l none (some (k : Int)) = l := by
 unfold cutD
 have e1 : HT.pU l.length 0 none = 0 := rfl
 have e2 : HT.pU l.length l.length (some (k : Int)) = l.length := by
   unfold HT.pU
   simp
   split <;> omega
 rw [e1, e2]
 simp
abbrev vW : Stmt := top 29
abbrev AY : Type := List Int × List Int × Nat × List Int × List Str
def nA : AY -> List L3.D := fun (s, ops, m, bs, th) => [.lst (s.map .int), .lst (ops.map .int), .int m, .lst (bs.map .int), .lst (th.map .str)]
def jN : AY -> Prop := fun (s, ops, m, bs, th) => s.length <= 63 /\ 1 <= m /\ 1 <= ops.length /\ bs.length <= 1000 /\ th.length = 3 /\ (∀ x ∈ ops, 0 <= x /\ x < m) /\ ∀ x ∈ th, PyData.strOk x = true
def nB : AY -> T := fun (s, ops, m, bs, th) => (.lst (((rS s ops m bs th).map dS).map T.sh) : T)
structure PD (X : Cx) (CL : Str -> Addr) : Prop extends cN X where
 bf : Ln X 0 "script"
 aQ : Ln X 1 "opens"
 vX : X.env.kindOf "opens" = some .cell
 e7 : Ln X 2 "many"
 PF : X.env.kindOf "many" = some .cell
 bY : Ln X 3 "boxes"
 vY : X.env.kindOf "boxes" = some .cell
 fE : Ln X 4 "three"
 JX : X.env.kindOf "three" = some .cell
 cT : Ln X 5 "ways"
 se : Gl X "sorted"
 sf : X.mg "sorted" = none
 TJ : Fc X CL "_law_way" 3 5 qD ny qE
 lam : Fl X CL "#_law_ways.<locals>.<lambda>" "_law_ways.<locals>.<lambda>"
 dp : X.A.depth < recursionLimit
 rm : dF 3 X.A
theorem PJ {X : Cx} {CL : Str -> Addr} {b : Bx} (E : PD X CL) (s ops m bs th) (h : jN (s, ops, m, bs, th)) :
   aE X CL b vW ["script", "opens", "many", "boxes", "three", "ways"] (nA (s, ops, m, bs, th)) (nB (s, ops, m, bs, th)) := by
 dsimp only [aE, jN, nA, nB] at h ⊢
 obtain ⟨hs, hm, ho, hb, h3, Hv, cU⟩ := h
 have WT : cutD (s.map L3.D.int) none (some 63) = s.map L3.D.int := JW (k := 63) (by simpa using hs)
 have Ig := fun c : Int => FL (ops := ops) (m := m) (bs := bs) (th := th) hm ho Hv cU h3 c
 refine rq (p := fun _ => true) (gg := fun d => T.sh (dS (FJ ops m bs th d.yI))) E.g E.cT (dJ (.cons E.bY.1 (.inl E.vY) (.cons E.e7.1 (.inl E.PF) (.cons E.aQ.1 (.inl E.vX) (.cons E.fE.1 (.inl E.JX) .nil)))) (by decide +kernel)) (qX (BL (aZ (yL (aJ E.bf) (cu _) u0 (u5 (ah ai))) (t2 := .lst ((s.map L3.D.int).map T.sh)) (by rw [WT])))) (.inr rfl) (fun C s0 H0 f0 b' d hd => ?JB) (abp (cO (by simp; omega))) ?rest (by exact aat rfl) (jF ⟨_, rfl⟩)
 case JB =>
   obtain ⟨c, hc, rfl⟩ := aaW.mp hd
   exact ⟨rfl, fun _ => aZ (c_ ((c, ops, m, bs, th)) (qg E.TJ) (j9 (by decide +kernel)) (ak (ah (v_ (gA (i := 0) rfl (by decide +kernel)))) (ak (ah (v_ (gU (i := 3) rfl (by decide +kernel)))) (ak (ah (v_ (gU (i := 2) rfl (by decide +kernel)))) (ak (ah (v_ (gU (i := 1) rfl (by decide +kernel)))) (ak (ah (v_ (gU (i := 4) rfl (by decide +kernel)))) aM))))) (by dsimp only [ny]; exact (⟨hm, ho, hb, h3⟩)) ((Ig c).iP)) rfl⟩
 case rest =>
 have em : ((s.map L3.D.int).filter fun _ => true).map (fun d => T.sh (dS (FJ ops m bs th d.yI))) = ((s.map (FJ ops m bs th)).map dS).map T.sh := by
   rw [gK, abh, abh, abh]
   rfl
 rw [em]
 refine bA (aZ (rC (y := "way") (g := fun d => d.Zc.yI) E.lam E.g E.dp E.sf E.se (dJ .nil (by decide +kernel)) (vL E.cT.1) (mP fun d hd => ?iP) (by simp; omega) (fun f c s0 H0 b' d hd => ?key)) ?eq) rfl
 case iP =>
   obtain ⟨w, hw, rfl⟩ := aaW.mp hd
   obtain ⟨c, _, rfl⟩ := aaW.mp hw
   exact (Ig c).iP
 case key =>
   obtain ⟨w, hw, rfl⟩ := aaW.mp hd
   exact bT (ah (v_ (Fp (i := 0) rfl (by decide +kernel)))) (ah ai) rfl
 case eq =>
   rw [iD]
   rfl
theorem fc : lB (aq vW) ([("script", av), ("opens", .cell), ("many", .cell), ("boxes", .cell), ("three", .cell), ("ways", av), ("sorted", aB)]) = true := by decide +kernel
theorem Ck : aP ["script", "opens", "many", "boxes", "three", "ways"] ["script", "opens", "many", "boxes", "three"] (aq vW) := aW
abbrev gO : Stmt := inClass (top 6) 0
abbrev jO : Type := List Str × List Int × List Int
def lJ : jO -> List L3.D := fun (ks, es, ss) => [.lst (ks.map .str), .lst (es.map .int), .lst (ss.map .int)]
def lK : jO -> Prop := fun (ks, es, ss) => True
def lM : jO -> List (Str × T) := fun (ks, es, ss) => (jv ks es ss : List (Str × T))
structure zB (X : Cx) (CL : Str -> Addr) : Prop extends cN X where
 g7 : Ln X 0 "self"
 i6 : Ln X 1 "kinds"
 bV : Ln X 2 "elders"
 iH : Ln X 3 "starts"
 dz : Gl X "list"
 dB : X.mg "list" = none
 fO : uO X.K (CL "Tree")
 jb : aX X.K (CL "Tree") "kinds"
 dg : aX X.K (CL "Tree") "elders"
 g8 : aX X.K (CL "Tree") "starts"
theorem zC {X : Cx} {CL : Str -> Addr} {b : Bx} (E : zB X CL) (ks : List Str) (es ss : List Int) (y : Addr) (h : True) :
   d9 X CL b (eF gO) (E1 ["self", "kinds", "elders", "starts"] y "Tree" [.lst (ks.map .str), .lst (es.map .int), .lst (ss.map .int)]) { nx := fun δ => δ[0]? = some (some (.pin y (.ins "Tree" (jv ks es ss)))), rt := fun _ _ => False } := by
 have hi : D.bO (ks.map L3.D.str) = true := iA (fun _ => rfl) _
 refine mR E.fO E.jb E.g7.1 (cQ E.dB (aJ E.i6) hi E.dz bJ) rfl (aat rfl) ?_
 rw [eX]
 refine mR E.fO E.dg E.g7.1 (cQ E.dB (aJ E.bV) (cu _) E.dz bJ) rfl (aat rfl) ?_
 rw [bB (by decide +kernel), eX]
 refine mR E.fO E.g8 E.g7.1 (cQ E.dB (aJ E.iH) (cu _) E.dz bJ) rfl (aat rfl) ?_
 rw [bB (by decide +kernel), bB (by decide +kernel), eX]
 exact az rfl
theorem fh : lB (aq gO) ([("self", av), ("kinds", av), ("elders", av), ("starts", av), ("list", aB)]) = true := by decide +kernel
theorem nE : aP ["self", "kinds", "elders", "starts"] ["self", "kinds", "elders", "starts"] (aq gO) := aW
abbrev f6 : Stmt := inClass (top 4) 0
abbrev jc : Type := List L3.D × List L3.D × V × List L3.D × List L3.D × List L3.D
def jP : jc -> List L3.D := fun (bs, nm, tv, is, os, ws) => [.lst bs, .lst nm, .val tv, .lst is, .lst os, .lst ws]
def jQ : jc -> Prop := fun (bs, nm, tv, is, os, ws) => D.bO bs = true /\ D.bO nm = true /\ D.bO is = true /\ D.bO os = true /\ D.bO ws = true
def jR : jc -> List (Str × T) := fun (bs, nm, tv, is, os, ws) => (fM bs nm (.sh (.val tv)) is os ws : List (Str × T))
structure vZ (X : Cx) (CL : Str -> Addr) : Prop extends cN X where
 g7 : Ln X 0 "self"
 bY : Ln X 1 "boxes"
 kQ : Ln X 2 "names"
 fP : Ln X 3 "tree"
 TL : Ln X 4 "ins"
 PL : Ln X 5 "outs"
 cT : Ln X 6 "ways"
 dz : Gl X "list"
 dB : X.mg "list" = none
 cY : uO X.K (CL "Chart")
 tQ : aX X.K (CL "Chart") "boxes"
 tR : aX X.K (CL "Chart") "names"
 fj : aX X.K (CL "Chart") "tree"
 zE : aX X.K (CL "Chart") "ins"
 v5 : aX X.K (CL "Chart") "outs"
 dU : aX X.K (CL "Chart") "ways"
theorem v7 {X : Cx} {CL : Str -> Addr} {b : Bx} (E : vZ X CL) (bs nm : List L3.D) (tv : V) (is os ws : List L3.D) (y : Addr) (h : D.bO bs = true /\ D.bO nm = true /\ D.bO is = true /\ D.bO os = true /\ D.bO ws = true) :
   d9 X CL b (eF f6) (E1 ["self", "boxes", "names", "tree", "ins", "outs", "ways"] y "Chart" [.lst bs, .lst nm, .val tv, .lst is, .lst os, .lst ws]) { nx := fun δ => δ[0]? = some (some (.pin y (.ins "Chart" (fM bs nm (.sh (.val tv)) is os ws)))), rt := fun _ _ => False } := by
 obtain ⟨h1, h2, h3, h4, h5⟩ := h
 refine mR E.cY E.tQ E.g7.1 (cQ E.dB (aJ E.bY) h1 E.dz bJ) rfl (aat rfl) ?_
 rw [eX]
 refine mR E.cY E.tR E.g7.1 (cQ E.dB (aJ E.kQ) h2 E.dz bJ) rfl (aat rfl) ?_
 rw [bB (by decide +kernel), eX]
 refine mR E.cY E.fj E.g7.1 (v_ E.fP.1) rfl (aat rfl) ?_
 rw [bB (by decide +kernel), bB (by decide +kernel), eX]
 refine mR E.cY E.zE E.g7.1 (cQ E.dB (aJ E.TL) h3 E.dz bJ) rfl (aat rfl) ?_
 rw [bB (by decide +kernel), bB (by decide +kernel), bB (by decide +kernel), eX]
 refine mR E.cY E.v5 E.g7.1 (cQ E.dB (aJ E.PL) h4 E.dz bJ) rfl (aat rfl) ?_
 rw [bB (by decide +kernel), bB (by decide +kernel), bB (by decide +kernel), bB (by decide +kernel), eX]
 refine mR E.cY E.dU E.g7.1 (cQ E.dB (aJ E.cT) h5 E.dz bJ) rfl (aat rfl) ?_
 rw [bB (by decide +kernel), bB (by decide +kernel), bB (by decide +kernel), bB (by decide +kernel), bB (by decide +kernel), eX]
 exact az rfl
theorem cj : lB (aq f6) ([("self", av), ("boxes", av), ("names", av), ("tree", av), ("ins", av), ("outs", av), ("ways", av), ("list", aB)]) = true := by decide +kernel
theorem lN : aP ["self", "boxes", "names", "tree", "ins", "outs", "ways"] ["self", "boxes", "names", "tree", "ins", "outs", "ways"] (aq f6) := aW
def sI (k : Int) : Str := toString k
def Rk (k : Nat) : Str := ("mood" : Str) ++ sI (k : Int)
def lD (n : Nat) : List Str := (List.range n).map Rk
def Rl (k : Nat) : L3.D := .tup [.str (("box" : Str) ++ sI (k : Int)), .int ((k : Int) - 2)]
def mw (n : Nat) : List L3.D := (List.range n).map Rl
def nF (n : Nat) : List L3.D := (List.replicate n [L3.D.tup []]).flatten
theorem oN (n : Nat) : D.bO (mw n) = true := iA (fun _ => rfl) _
theorem iL (n : Nat) : D.bO (nF n) = true := mP fun d hd => by
 unfold nF at hd
 obtain ⟨l, hl, hd⟩ := List.mem_flatten.mp hd
 rw [(List.mem_replicate.mp hl).2] at hd
 rw [aaU.mp hd]; rfl
theorem zF (k : Nat) (h : k <= 40) : (k : Int).natAbs.log2 < 1920 /\ (toString (k : Int) : Str).length <= 50 /\ PyData.strOk (toString (k : Int) : Str) = true := by
 have h2 : ((List.range 41).all fun k => decide ((k : Int).natAbs.log2 < 1920) && decide ((toString (k : Int) : Str).length <= 50) && PyData.strOk (toString (k : Int) : Str)) = true := by decide +kernel
 have := abq.mp h2 k (abk.mpr (by omega))
 simpa [Bool.and_eq_true, and_assoc] using this
theorem v8 {bs nm is os ws : List L3.D} {t : T} (h1 : D.bO bs = true) (h2 : D.bO nm = true) (h3 : t.clean = true) (h4 : D.bO is = true) (h5 : D.bO os = true) (h6 : D.bO ws = true) : T.aV (fM bs nm t is os ws) = true := by
 unfold fM oB oE
 rw [aaQ, aaQ, ab8, T.aV, T.aV, T.aV, T.aV, T.aV, T.aV, T.aV, bD h1, bD h2, h3, bD h4, bD h5, bD h6]
 rfl
abbrev qF : Stmt := top 30
abbrev v9 : Type := List Str × List Int × List Int × List Int × List Int × List L3.D
def kR : v9 -> List L3.D := fun (ks, es, ss, oo, bs, ws) => [uv ks es ss oo, .lst (bs.map .int), .lst ws]
def iM : v9 -> Prop := fun (ks, es, ss, oo, bs, ws) => es.length <= 40 /\ bs.length <= 40 /\ D.bO ws = true
def kT : v9 -> T := fun (ks, es, ss, oo, bs, ws) => (.ins "Chart" (fM (mw bs.length) ((lD es.length).map .str) (.ins "Tree" (jv ks es ss)) (nF es.length) (nF es.length) ws) : T)
structure JY (X : Cx) (CL : Str -> Addr) : Prop extends cN X where
 bQ : Ln X 0 "lists"
 bY : Ln X 1 "boxes"
 cT : Ln X 2 "ways"
 Cm : Ln X 3 "named"
 kQ : Ln X 4 "names"
 fP : Ln X 5 "tree"
 b9 : Gl X "range"
 cD : Gl X "len"
 PN : Gl X "Tree"
 dz : Gl X "list"
 JZ : Gl X "Chart"
 cg : X.mg "range" = none
 cE : X.mg "len" = none
 PR : Fm X CL "Tree" 1 4 lJ lK lM
 dB : X.mg "list" = none
 J1 : Fm X CL "Chart" 1 7 jP jQ jR
 ML : X.mg "str" = none
theorem J2 {X : Cx} {CL : Str -> Addr} {b : Bx} (E : JY X CL) (ks es ss oo bs ws) (h : iM (ks, es, ss, oo, bs, ws)) :
   aE X CL b qF ["lists", "boxes", "ways", "named", "names", "tree"] (kR (ks, es, ss, oo, bs, ws)) (kT (ks, es, ss, oo, bs, ws)) := by
 dsimp only [aE, iM, kR, kT] at h ⊢
 obtain ⟨hl, hb, iw⟩ := h
 refine rq (p := fun _ => true) (gg := fun d => T.sh (Rl d.yI.toNat)) E.g E.Cm (dJ .nil (by decide +kernel)) (ef E.cg (ah (cJ (aaz ..) E.cE (aJ E.bY) E.cD)) (by omega) E.b9) (.inr rfl) (fun C s0 H0 f0 b' d hd => ?WU) (abp (cO (by simp [bC]; omega))) ?TN (by exact aat rfl) (jF ⟨_, rfl⟩)
 case WU =>
   obtain ⟨i, hi, rfl⟩ := aaW.mp hd
   have D6 : i < bs.length := by simpa using hi
   obtain ⟨q1, q2, _⟩ := zF i (by omega)
   have ei : (0 + (i : Int)) = (i : Int) := abC _
   have et : (L3.D.int (0 + (i : Int))).yI.toNat = i := by show (0 + (i : Int)).toNat = i; omega
   refine ⟨rfl, fun _ => aZ (cB (aH (jE (ah aY) (ah (BJ E.ML (j9 (by decide +kernel)) (ah (v_ (gA (i := 0) rfl (by decide +kernel)))) ((by rw [ei]; exact q1)))) ((by rw [ei, aaX]; show 3 + (toString (i : Int) : Str).length <= _; omega))) (aH (jD (ah (v_ (gA (i := 0) rfl (by decide +kernel)))) (ah ai)) bZ)) (aF rfl)) ?_⟩
   show T.sh _ = T.sh (Rl (L3.D.int (0 + (i : Int))).yI.toNat)
   rw [et]
   unfold Rl
   rw [ei]
   rfl
 case TN =>
 have ZP : ((bC 0 (bs.length : Int).toNat).filter fun _ => true).map (fun d => T.sh (Rl d.yI.toNat)) = (mw bs.length).map T.sh := by
   rw [gK]
   unfold bC mw
   rw [abh, abh, aa6]
   refine abv fun k _ => ?_
   show T.sh (Rl (0 + (k : Int)).toNat) = _
   rw [show (0 + (k : Int)).toNat = k by omega]
   rfl
 rw [ZP]
 refine rq (p := fun _ => true) (gg := fun d => T.sh (.str (Rk d.yI.toNat))) E.g E.kQ (dJ .nil (by decide +kernel)) (ef E.cg (ah (cJ (aaz ..) E.cE (aR (aJ E.bQ) (ah ai) rfl) E.cD)) (by omega) E.b9) (.inr rfl) (fun C s0 H0 f0 b' d hd => ?JB) (abp (cO (by simp [bC]; omega))) ?rest (by exact aat rfl) (jF ⟨_, rfl⟩)
 case JB =>
   obtain ⟨i, hi, rfl⟩ := aaW.mp hd
   have D6 : i < es.length := by simpa using hi
   obtain ⟨q1, q2, _⟩ := zF i (by omega)
   have ei : (0 + (i : Int)) = (i : Int) := abC _
   have et : (L3.D.int (0 + (i : Int))).yI.toNat = i := by show (0 + (i : Int)).toNat = i; omega
   refine ⟨rfl, fun _ => aZ (jE (ah aY) (ah (BJ E.ML (j9 (by decide +kernel)) (ah (v_ (gA (i := 0) rfl (by decide +kernel)))) ((by rw [ei]; exact q1)))) ((by rw [ei, aaX]; show 4 + (toString (i : Int) : Str).length <= _; omega))) ?_⟩
   show T.sh _ = T.sh (.str (Rk (L3.D.int (0 + (i : Int))).yI.toNat))
   rw [et]
   unfold Rk
   rw [ei]
   rfl
 case rest =>
 have em : ((bC 0 (es.length : Int).toNat).filter fun _ => true).map (fun d => T.sh (.str (Rk d.yI.toNat))) = ((lD es.length).map L3.D.str).map T.sh := by
   rw [gK]
   unfold bC lD
   rw [abh, abh, abh, aa6]
   refine abv fun k _ => ?_
   show T.sh (.str (Rk (0 + (k : Int)).toNat)) = _
   rw [show (0 + (k : Int)).toNat = k by omega]
   rfl
 rw [em]
 refine aO E.g E.fP (aZ (YR (ks, es, ss) E.PR E.PN (ak (cL (cQ E.dB (aR (aJ E.bQ) (ah ai) rfl) (iB _) E.dz bJ)) (ak (cL (cQ E.dB (aR (aJ E.bQ) (ah ai) rfl) (cu _) E.dz bJ)) (ak (cL (cQ E.dB (aR (aJ E.bQ) (ah ai) rfl) (cu _) E.dz bJ)) aM))) trivial (pM ks es ss)) (t2 := .ins "Tree" (jv ks es ss)) rfl) ?_
 have U4 : ((lD es.length).map L3.D.str).length = es.length := by simp [lD]
 have XY : ∀ n : Nat, (List.replicate ((n : Int).toNat) [L3.D.tup []]).flatten = nF n := fun n => by rw [aa6]; rfl
 exact bA (Zf (f := "tree") (yQ := oB (mw bs.length) ((lD es.length).map .str)) (D8 := oE (nF es.length) (nF es.length) ws) (fun v => (mw bs.length, (lD es.length).map .str, v, nF es.length, nF es.length, ws)) E.J1 E.JZ
   (yR (vL E.Cm.1) (yR (vL E.kQ.1)
     (Fb (vM E.fP.1)
       (ak (cL (aZ (BR (ds := [.tup []]) (cL (ds := [.tup []]) (dm (eG (cB bZ (aF rfl)) di) (aF rfl))) (ah (cJ U4 E.cE (vL E.kQ.1) E.cD)) rfl (by omega) (by omega) (by rw [aa6, aaX]; show 1 * es.length <= _; omega)) (t2 := .lst ((nF es.length).map T.sh)) (by rw [XY])))
       (ak (cL (aZ (BR (ds := [.tup []]) (cL (ds := [.tup []]) (dm (eG (cB bZ (aF rfl)) di) (aF rfl))) (ah (cJ U4 E.cE (vL E.kQ.1) E.cD)) rfl (by omega) (by omega) (by rw [aa6, aaX]; show 1 * es.length <= _; omega)) (t2 := .lst ((nF es.length).map T.sh)) (by rw [XY])))
       (ak (cL (cQ E.dB (aJ E.cT) iw E.dz bJ)) aM))))))
   (fun v => rfl) (fun v => ⟨oN _, iB _, iL _, iL _, iw⟩) (fun v => rfl) (vo (oN _) (iB _)) (vp (iL _) (iL _) iw)) rfl
theorem dQ : lB (aq qF) ([("lists", av), ("boxes", av), ("ways", av), ("named", av), ("names", av), ("tree", av), ("range", aB), ("len", aB), ("Tree", aB), ("list", aB), ("Chart", aB)]) = true := by decide +kernel
theorem zG : aP ["lists", "boxes", "ways", "named", "names", "tree"] ["lists", "boxes", "ways"] (aq qF) := aW
abbrev kU : Stmt := top 32
abbrev oO : Type := List lY × List Int
def gP : oO -> List L3.D := fun (l, ops) => [.tup (l.map cW), .lst (ops.map .int)]
def fK : oO -> Prop := fun (l, ops) => ∀ a ∈ l, a.Jr
def gQ : oO -> T := fun (l, ops) => (.sh (.bl (fU ops (l.map cW))) : T)
structure DE (X : Cx) (CL : Str -> Addr) : Prop extends cN X where
 mq : Ln X 0 "asks"
 aQ : Ln X 1 "opens"
 fL : Ln X 2 "ask"
theorem DF {X : Cx} {CL : Str -> Addr} {b : Bx} (E : DE X CL) (l ops) (h : fK (l, ops)) :
   aE X CL b kU ["asks", "opens", "ask"] (gP (l, ops)) (gQ (l, ops)) := by
 dsimp only [aE, fK, gP, gQ] at h ⊢
 show d9 X CL b _ _ { nx := _, rt := fun Fg _ => Fg = T.sh (.bl (fU ops (l.map cW))), bk := _, ct := _ }
 refine jt E.g E.fL (fun j δ => ∃ o, (∀ d ∈ (l.map cW).take j, tO ops d = true) /\ δ = [some (.sh (.tup (l.map cW))), some (.sh (.lst (ops.map .int))), o])
   (EK (v_ E.mq.1)) ⟨_, fun x hx => by simp at hx, rfl⟩ (fun j δ ⟨_, _, e⟩ => by subst e; exact aat rfl) ?turn ?fin
 case turn =>
   rintro j d δ hj ⟨o, uc, rfl⟩
   have MF : (l.map cW).take (j + 1) = (l.map cW).take j ++ [d] := by rw [abr, hj]; rfl
   have TQ : d ∈ l.map cW := aa5 hj
   have no : tO ops d = false -> fU ops (l.map cW) = false := fun e => List.all_eq_false.mpr ⟨d, TQ, by rw [e]; decide⟩
   obtain ⟨a, ha, rfl⟩ := aaW.mp TQ
   have hk := h a ha
   have TR : tO ops (cW a) = true -> ∀ y ∈ (l.map cW).take (j + 1), tO ops y = true := fun e y hy => by
     rw [MF] at hy
     rcases aaG.mp hy with hy | hy
     . exact uc y hy
     . rw [aaU.mp hy]; exact e
   cases a with
   | num mk b1 m1 b2 m2 =>
     obtain ⟨n1, n2⟩ := B7 hk
     refine eu (lU (fz (q := false) (eH (bT (aJ E.fL) (ah ai) rfl) (ah aY)).1 (fun hb => absurd (aaD hb) n1))) (fun hp => by simp at hp) (fun _ => az ?_)
     refine eu (lU (fz (q := false) (eH (bT (aJ E.fL) (ah ai) rfl) (ah aY)).1 (fun hb => absurd (aaD hb) n2))) (fun hp => by simp at hp) (fun _ => az (az ⟨_, TR rfl, rfl⟩))
   | tN op m =>
     have hf := zj ops op m
     refine eu (lU (fz (eH (bT (aJ E.fL) (ah ai) rfl) (ah aY)).1 (fun _ => iQ (BK (bT (aJ E.fL) (ah ai) rfl) (aJ E.aQ) rfl rfl).1))) (fun hp => ?_) (fun hp => az ?_)
     . have hp : (decide ((if op = true then ("open" : Str) else "shut") = "open") && !decide (m ∈ ops)) = true := hp
       refine bA mJ ?_
       rw [no]
       rw [hf]
       cases op with
       | false => exact absurd hp (by rw [show decide ((if false = true then ("open" : Str) else "shut") = "open") = false by decide +kernel]; simp)
       | true => rw [Bool.and_eq_true] at hp; simpa using hp.2
     have hp : (decide ((if op = true then ("open" : Str) else "shut") = "open") && !decide (m ∈ ops)) = false := hp
     refine eu (lU (fz (eH (bT (aJ E.fL) (ah ai) rfl) (ah aY)).1 (fun _ => iQ (kg (bT (aJ E.fL) (ah ai) rfl) (aJ E.aQ) rfl rfl).1))) (fun hq => ?_) (fun hq => az (az ⟨_, TR ?_, rfl⟩))
     . have hq : (decide ((if op = true then ("open" : Str) else "shut") = "shut") && decide (m ∈ ops)) = true := hq
       refine bA mJ ?_
       rw [no]
       rw [hf]
       cases op with
       | true => exact absurd hq (by rw [show decide ((if true = true then ("open" : Str) else "shut") = "shut") = false by decide +kernel]; simp)
       | false => rw [Bool.and_eq_true] at hq; simpa using hq.2
     . have hq : (decide ((if op = true then ("open" : Str) else "shut") = "shut") && decide (m ∈ ops)) = false := hq
       rw [hf]
       cases op with
       | true => rw [show decide ((if true = true then ("open" : Str) else "shut") = "open") = true by decide +kernel, Bool.true_and] at hp; simpa using hp
       | false => rw [show decide ((if false = true then ("open" : Str) else "shut") = "shut") = true by decide +kernel, Bool.true_and] at hq; simpa using hq
 case fin =>
   rintro δ ⟨o, uc, rfl⟩
   rw [ab3] at uc
   refine bA mJ ?_
   rw [show fU ops (l.map cW) = true from abq.mpr uc]
theorem mz : lB (aq kU) ([("asks", av), ("opens", av), ("ask", av)]) = true := by decide +kernel
theorem sj : aP ["asks", "opens", "ask"] ["asks", "opens"] (aq kU) := aW
abbrev wc : Stmt := top 33
abbrev AZ : Type := List fN × List Int × List Int × Str
def nG : AZ -> List L3.D := fun (ws, ops, ln, sg) => [.lst (ws.map dS), .lst (ops.map .int), .lst (ln.map .int), .str sg]
def jS : AZ -> Prop := fun (ws, ops, ln, sg) => ws.length <= 63 /\ ln.length <= 1000 /\ AJ ws
def nI : AZ -> T := fun (ws, ops, ln, sg) => (.lst (((WG ws ops sg ln).map .int).map T.sh) : T)
structure PV (X : Cx) (CL : Str -> Addr) : Prop extends cN X where
 cT : Ln X 0 "ways"
 aQ : Ln X 1 "opens"
 kW : Ln X 2 "chain"
 jT : Ln X 3 "sign"
 bz : Ln X 4 "found"
 gZ : Ln X 5 "mood"
 jw : Ln X 6 "k"
 b9 : Gl X "range"
 cD : Gl X "len"
 zH : Gl X "_law_fits"
 cg : X.mg "range" = none
 cE : X.mg "len" = none
 DG : Fc X CL "_law_fits" 1 2 gP fK gQ
theorem PX {X : Cx} {CL : Str -> Addr} {b : Bx} (E : PV X CL) (ws ops ln sg) (h : jS (ws, ops, ln, sg)) :
   aE X CL b wc ["ways", "opens", "chain", "sign", "found", "mood", "k"] (nG (ws, ops, ln, sg)) (nI (ws, ops, ln, sg)) := by
 dsimp only [aE, jS, nG, nI] at h ⊢
 obtain ⟨Ie, hll, MG⟩ := h
 have hlen : (ws.map dS).length = ws.length := by simp
 refine aO E.g E.bz (dm di (aaY _)) ?_
 have aI : ∀ (l : List Int) (x : Int), (l.map L3.D.int).map T.sh ++ [T.sh (.int x)] = ((l ++ [x]).map L3.D.int).map T.sh := by intros; simp
 have Rg : ∀ j, ((ln.take j).flatMap fun m => AH ws ops sg m ws.length).length <= 63 * j := fun j => by
   induction j with
   | zero => simp
   | succ j ih =>
     by_cases hj : j < ln.length
     . rw [abr, aaq hj, ab6, aaM]
       have := B8 ws ops sg ln[j] ws.length
       simp only [Option.toList, abX, List.flatMap_nil, aa1]
       omega
     . rw [abU (by omega)]
       rw [abU (by omega)] at ih
       omega
 refine jt E.g E.gZ (fun j δ => ∃ o5 o6, δ = [some (.sh (.lst (ws.map dS))), some (.sh (.lst (ops.map .int))), some (.sh (.lst (ln.map .int))), some (.sh (.str sg)), some (.lst ((((ln.take j).flatMap fun m => AH ws ops sg m ws.length).map .int).map T.sh)), o5, o6])
   (qX (v_ E.kW.1)) ⟨_, _, rfl⟩ (fun j δ ⟨_, _, e⟩ => by subst e; exact aat rfl) ?turn ?fin
 case turn =>
   rintro j d δ hj ⟨o5, o6, rfl⟩
   obtain ⟨m, rfl, hx, WV, BV, _, MF⟩ := vf hj
   have ZQ := Rg j
   show d9 X CL b _ _ { nx := fun δ => ∃ o5 o6, δ = [_, _, _, _, some (.lst ((((ln.take (j + 1)).flatMap fun m => AH ws ops sg m ws.length).map .int).map T.sh)), o5, o6], rt := _, bk := _, ct := _ }
   rw [MF, ab6, abX, List.flatMap_nil, aa1]
   generalize ((ln.take j).flatMap fun m => AH ws ops sg m ws.length) = fd at ZQ ⊢
   refine jt E.g E.jw (fun i δ => ∃ o6, δ = [some (.sh (.lst (ws.map dS))), some (.sh (.lst (ops.map .int))), some (.sh (.lst (ln.map .int))), some (.sh (.str sg)), some (.lst (((fd ++ AH ws ops sg m i).map .int).map T.sh)), some (.sh (.int m)), o6])
     (ef E.cg (ah (cJ (hlen) E.cE (aJ E.cT) E.cD)) (by omega) E.b9) ⟨_, by rw [show AH ws ops sg m 0 = [] from rfl, aa1]; rfl⟩ (fun j δ ⟨_, e⟩ => by subst e; exact aat rfl) ?Gg ?fin2
   case Gg =>
     rintro i d δ hi ⟨o6, rfl⟩
     obtain ⟨rfl, Rm⟩ := gB hi
     have Rm : i < ws.length := by simpa using Rm
     rw [abC]
     obtain ⟨w, hw⟩ : ∃ w, ws.getD i w0 = w := ⟨_, rfl⟩
     have WW : w ∈ ws := by rw [← hw, aaw, aaq Rm]; exact abG _
     obtain ⟨al, IZ, WX⟩ := MG w WW
     have F0 : sZ (ws.map dS) (i : Int) = some (dS w) := (iS (f := dS) w0 (by omega) (by omega)).trans (by rw [aa6, hw])
     have WY := B8 ws ops sg m i
     show d9 X CL b _ _ { nx := fun δ => ∃ o6, δ = [_, _, _, _, some (.lst (((fd ++ AH ws ops sg m (i + 1)).map .int).map T.sh)), _, o6], rt := _, bk := _, ct := _ }
     rw [FT, hw, ← aav]
     generalize AH ws ops sg m i = gm at WY ⊢
     have WZ : (fd ++ gm).length <= 70000 := by rw [aaM]; omega
     generalize fd ++ gm = fe at WZ ⊢
     refine eu (lU (fz (eV (bT (aR (aJ E.cT) (aJ E.jw) F0) (ah ai) (fC (j := 0) rfl)) (aJ E.gZ)).1 (fun _ => fz (eH (bT (aR (aJ E.cT) (aJ E.jw) F0) (ah ai) (fC (j := 1) rfl)) (aJ E.jT)).1 (fun _ => iQ (qR (aZ (c_ (al, ops) E.DG E.zH (ak (BO (bT (aR (aJ E.cT) (aJ E.jw) F0) (ah ai) (fC (j := 2) rfl)) (congrArg L3.D.tup IZ)) (ak (aJ E.aQ) aM)) (by dsimp only [fK]; exact WX) rfl) (t2 := .sh (.bl (fU ops w.asks))) (by rw [IZ]; rfl))))))) (fun hp => ?_) (fun hp => az (az ?_))
     . have hp : (decide (w.src = m) && (decide (w.sign = sg) && fU ops w.asks)) = true := hp
       refine ju E.bz.1 rfl (v_ E.jw.1) rfl (by simp; omega) (az (az ?_))
       rw [aI, aar hp]
       exact ⟨_, rfl⟩
     . have hp : (decide (w.src = m) && (decide (w.sign = sg) && fU ops w.asks)) = false := hp
       rw [aap (by rw [hp]; decide), aa1]
       exact ⟨_, rfl⟩
   case fin2 =>
     rintro δ ⟨o6, rfl⟩
     rw [show (bC 0 (ws.length : Int).toNat).length = ws.length by simp [bC]]
     exact az ⟨_, _, rfl⟩
 case fin =>
   rintro δ ⟨o5, o6, rfl⟩
   rw [aaz, ab3]
   exact bA (vM E.bz.1) rfl
theorem fF : lB (aq wc) ([("ways", av), ("opens", av), ("chain", av), ("sign", av), ("found", av), ("mood", av), ("k", av), ("range", aB), ("len", aB), ("_law_fits", aB)]) = true := by decide +kernel
theorem Cp : aP ["ways", "opens", "chain", "sign", "found", "mood", "k"] ["ways", "opens", "chain", "sign"] (aq wc) := aW
abbrev qG : Stmt := top 7
abbrev wg : Type := List Str × List Int × List Int × Int
def kX : wg -> List L3.D := fun (ks, es, ss, m) => [rE ks es ss, .int m]
def iN : wg -> Prop := fun (ks, es, ss, m) => gX es /\ 0 <= m /\ m < es.length /\ es.length <= 1000
def kY : wg -> T := fun (ks, es, ss, m) => (.lst (((eS es m).map .int).map T.sh) : T)
structure J3 (X : Cx) (CL : Str -> Addr) : Prop extends cN X where
 fP : Ln X 0 "tree"
 gZ : Ln X 1 "mood"
 bz : Ln X 2 "found"
 fY : Ln X 3 "elder"
 fO : uO X.K (CL "Tree")
 dg : aX X.K (CL "Tree") "elders"
theorem J4 {X : Cx} {CL : Str -> Addr} {b : Bx} (E : J3 X CL) (ks es ss m) (h : iN (ks, es, ss, m)) :
   aE X CL b qG ["tree", "mood", "found", "elder"] (kX (ks, es, ss, m)) (kY (ks, es, ss, m)) := by
 dsimp only [aE, iN, kX, kY] at h ⊢
 obtain ⟨ht, h0, h1, hlen⟩ := h
 refine aO E.g E.bz (dm di (aaY _)) ?_
 refine aO E.g E.fY (cK (aR (jH E.fO E.dg (aJ E.fP) jK) (aJ E.gZ) (dZ h0 h1)) rfl) ?_
 have hm := ht.at h0 h1
 refine BI E.g (fun n δ => ∃ (k : Int) (l : List Int), δ = [some (.sh (rE ks es ss)), some (.sh (.int m)), some (.lst ((l.map .int).map T.sh)), some (.sh (.int k))] /\ -1 <= k /\ k < n /\ k < es.length /\ l ++ n6 n es k = eS es m /\ l.length + n <= es.length + 1) (es.length + 1)
   ⟨es.getD m.toNat 0, [], rfl, hm.1, by omega, by omega, rfl, by simp⟩ ?_
 rintro n δ ⟨k, l, rfl, k0, k1, k2, k3, k4⟩
 refine ⟨_, _, (qQ (aJ E.fY) (ah (gy (ah ai)))).1, fun hp => ?_, fun hp => ?_⟩
 . have hk : ¬ k = -1 := by simpa using hp
   have ha := ht.at (k := k) (by omega) k2
   cases n with
   | zero => omega
   | succ n =>
     refine ju E.bz.1 rfl (v_ E.fY.1) rfl (by simp; omega) ?_
     refine aO E.g E.fY (cK (aR (jH E.fO E.dg (aJ E.fP) jK) (aJ E.fY) (dZ (by omega) k2)) rfl) ?_
     refine az ⟨n, Nat.lt_succ_self _, es.getD k.toNat 0, l ++ [k], ?_, ha.1, by omega, by omega, ?_, by simp; omega⟩
     . show [_, _, some (T.lst (((l.map D.int).map T.sh) ++ [T.sh (.int k)])), _] = _
       simp
     . rw [← k3, n6, aap hk, aav]
       rfl
 . have hk : k = -1 := by simpa using hp
   subst hk
   have e : l = eS es m := by
     rw [← k3]
     cases n with
     | zero => rw [n6, aa1]
     | succ n => rw [n6, aar rfl, aa1]
   subst e
   exact bA (vM E.bz.1) rfl
theorem nJ : lB (aq qG) ([("tree", av), ("mood", av), ("found", av), ("elder", av)]) = true := by decide +kernel
theorem zI : aP ["tree", "mood", "found", "elder"] ["tree", "mood"] (aq qG) := aW
abbrev wj : Stmt := top 10
abbrev A0 : Type := List lY × List Int
def nK : A0 -> List L3.D := fun (l, ops) => [.tup (l.map cW), .lst (ops.map .int)]
def jU : A0 -> Prop := fun (l, ops) => ∀ a ∈ l, a.Jr
def nL : A0 -> T := fun (l, ops) => (.sh (.bl (fU ops (l.map cW))) : T)
structure PY (X : Cx) (CL : Str -> Addr) : Prop extends cN X where
 mq : Ln X 0 "asks"
 aQ : Ln X 1 "opens"
 fL : Ln X 2 "ask"
theorem PZ {X : Cx} {CL : Str -> Addr} {b : Bx} (E : PY X CL) (l ops) (h : jU (l, ops)) :
   aE X CL b wj ["asks", "opens", "ask"] (nK (l, ops)) (nL (l, ops)) := by
 dsimp only [aE, jU, nK, nL] at h ⊢
 show d9 X CL b _ _ { nx := _, rt := fun Fg _ => Fg = T.sh (.bl (fU ops (l.map cW))), bk := _, ct := _ }
 refine jt E.g E.fL (fun j δ => ∃ o, (∀ d ∈ (l.map cW).take j, tO ops d = true) /\ δ = [some (.sh (.tup (l.map cW))), some (.sh (.lst (ops.map .int))), o])
   (EK (v_ E.mq.1)) ⟨_, fun x hx => by simp at hx, rfl⟩ (fun j δ ⟨_, _, e⟩ => by subst e; exact aat rfl) ?turn ?fin
 case turn =>
   rintro j d δ hj ⟨o, uc, rfl⟩
   have MF : (l.map cW).take (j + 1) = (l.map cW).take j ++ [d] := by rw [abr, hj]; rfl
   have TQ : d ∈ l.map cW := aa5 hj
   have no : tO ops d = false -> fU ops (l.map cW) = false := fun e => List.all_eq_false.mpr ⟨d, TQ, by rw [e]; decide⟩
   obtain ⟨a, ha, rfl⟩ := aaW.mp TQ
   have hk := h a ha
   have TR : tO ops (cW a) = true -> ∀ y ∈ (l.map cW).take (j + 1), tO ops y = true := fun e y hy => by
     rw [MF] at hy
     rcases aaG.mp hy with hy | hy
     . exact uc y hy
     . rw [aaU.mp hy]; exact e
   cases a with
   | num mk b1 m1 b2 m2 =>
     obtain ⟨n1, n2⟩ := B7 hk
     refine eu (lU (fz (q := false) (eH (bT (aJ E.fL) (ah ai) rfl) (ah aY)).1 (fun hb => absurd (aaD hb) n1))) (fun hp => by simp at hp) (fun _ => az ?_)
     refine eu (lU (fz (q := false) (eH (bT (aJ E.fL) (ah ai) rfl) (ah aY)).1 (fun hb => absurd (aaD hb) n2))) (fun hp => by simp at hp) (fun _ => az (az ⟨_, TR rfl, rfl⟩))
   | tN op m =>
     have hf := zj ops op m
     refine eu (lU (fz (eH (bT (aJ E.fL) (ah ai) rfl) (ah aY)).1 (fun _ => iQ (BK (bT (aJ E.fL) (ah ai) rfl) (aJ E.aQ) rfl rfl).1))) (fun hp => ?_) (fun hp => az ?_)
     . have hp : (decide ((if op = true then ("open" : Str) else "shut") = "open") && !decide (m ∈ ops)) = true := hp
       refine bA mJ ?_
       rw [no]
       rw [hf]
       cases op with
       | false => exact absurd hp (by rw [show decide ((if false = true then ("open" : Str) else "shut") = "open") = false by decide +kernel]; simp)
       | true => rw [Bool.and_eq_true] at hp; simpa using hp.2
     have hp : (decide ((if op = true then ("open" : Str) else "shut") = "open") && !decide (m ∈ ops)) = false := hp
     refine eu (lU (fz (eH (bT (aJ E.fL) (ah ai) rfl) (ah aY)).1 (fun _ => iQ (kg (bT (aJ E.fL) (ah ai) rfl) (aJ E.aQ) rfl rfl).1))) (fun hq => ?_) (fun hq => az (az ⟨_, TR ?_, rfl⟩))
     . have hq : (decide ((if op = true then ("open" : Str) else "shut") = "shut") && decide (m ∈ ops)) = true := hq
       refine bA mJ ?_
       rw [no]
       rw [hf]
       cases op with
       | true => exact absurd hq (by rw [show decide ((if true = true then ("open" : Str) else "shut") = "shut") = false by decide +kernel]; simp)
       | false => rw [Bool.and_eq_true] at hq; simpa using hq.2
     . have hq : (decide ((if op = true then ("open" : Str) else "shut") = "shut") && decide (m ∈ ops)) = false := hq
       rw [hf]
       cases op with
       | true => rw [show decide ((if true = true then ("open" : Str) else "shut") = "open") = true by decide +kernel, Bool.true_and] at hp; simpa using hp
       | false => rw [show decide ((if false = true then ("open" : Str) else "shut") = "shut") = true by decide +kernel, Bool.true_and] at hq; simpa using hq
 case fin =>
   rintro δ ⟨o, uc, rfl⟩
   rw [ab3] at uc
   refine bA mJ ?_
   rw [show fU ops (l.map cW) = true from abq.mpr uc]
theorem wk : lB (aq wj) ([("asks", av), ("opens", av), ("ask", av)]) = true := by decide +kernel
theorem Cq : aP ["asks", "opens", "ask"] ["asks", "opens"] (aq wj) := aW
abbrev nM : Stmt := top 9
abbrev sq : Type := List L3.D × List L3.D × List Str × List Int × List Int × List L3.D × List L3.D × List fN × List Int × Int × Str
def jd : sq -> List L3.D := fun (bs, nm, ks, es, ss, is, os, ws, ops, leaf, sg) => [rL bs nm (rE ks es ss) is os (ws.map dS), .lst (ops.map .int), .int leaf, .str sg]
def fB : sq -> Prop := fun (bs, nm, ks, es, ss, is, os, ws, ops, leaf, sg) => gX es /\ es.length <= 900 /\ 0 <= leaf /\ leaf < es.length /\ ws.length <= 63 /\ AJ ws
def gE : sq -> T := fun (bs, nm, ks, es, ss, is, os, ws, ops, leaf, sg) => (.lst (((Jt ws ops sg (leaf :: eS es leaf)).map .int).map T.sh) : T)
structure Gh (X : Cx) (CL : Str -> Addr) : Prop extends cN X where
 dW : Ln X 0 "chart"
 wm : X.env.kindOf "chart" = some .cell
 aQ : Ln X 1 "opens"
 je : Ln X 2 "leaf"
 jT : Ln X 3 "sign"
 bz : Ln X 4 "found"
 nO : Ln X 5 "number"
 uA : Ln X 6 "way"
 A1 : Ln X 7 "line"
 P0 : X.env.kindOf "line" = some .cell
 wu : Gl X "above"
 zJ : Gl X "enumerate"
 P1 : Gl X "SIGN"
 Gi : Gl X "SOURCE"
 A2 : Gl X "fits"
 P4 : Gl X "ASKS"
 se : Gl X "sorted"
 J5 : Fc X CL "above" 1 2 kX iN kY
 zK : X.mg "enumerate" = none
 P5 : ∃ u, X.mg "SIGN" = some (.int 1 u)
 zL : ∃ u, X.mg "SOURCE" = some (.int 0 u)
 P6 : Fc X CL "fits" 1 2 nK jU nL
 P7 : ∃ u, X.mg "ASKS" = some (.int 2 u)
 sf : X.mg "sorted" = none
 cY : uO X.K (CL "Chart")
 dU : aX X.K (CL "Chart") "ways"
 fj : aX X.K (CL "Chart") "tree"
 lam : Fl X CL "#goable.<locals>.<lambda>" "goable.<locals>.<lambda>"
 dp : X.A.depth < recursionLimit
 rm : dF 1 X.A
theorem Gj {X : Cx} {CL : Str -> Addr} {b : Bx} (E : Gh X CL) (bs nm ks es ss is os ws ops leaf sg) (h : fB (bs, nm, ks, es, ss, is, os, ws, ops, leaf, sg)) :
   aE X CL b nM ["chart", "opens", "leaf", "sign", "found", "number", "way", "line"] (jd (bs, nm, ks, es, ss, is, os, ws, ops, leaf, sg)) (gE (bs, nm, ks, es, ss, is, os, ws, ops, leaf, sg)) := by
 dsimp only [aE, fB, jd, gE] at h ⊢
 obtain ⟨ht, hl, f0, f1, Ie, MG⟩ := h
 have XS : (eS es leaf).length <= es.length + 1 := mW _ _ _
 have er : ([L3.D.int leaf] ++ (eS es leaf).map L3.D.int) = (leaf :: eS es leaf).map L3.D.int := rfl
 refine aO E.g E.A1 (aZ (qi (ds := [.int leaf]) (D7 := (eS es leaf).map .int) (cL (ds := [.int leaf]) (dm (eG (v_ E.je.1) di) (aF rfl))) (cL (c_ (ks, es, ss, leaf) E.J5 E.wu (ak (jH E.cY E.fj (aJ E.dW) rM) (ak (aJ E.je) aM)) (by dsimp only [iN]; exact ⟨ht, f0, f1, by omega⟩) (cM _))) rfl (cu _) (Nat.le_of_lt (cO (by simp; omega)))) (t2 := .lst (((leaf :: eS es leaf).map .int).map T.sh)) rfl) ?_
 generalize leaf :: eS es leaf = ln
 refine aO E.g E.bz (dm di (aaY _)) ?_
 have aI : ∀ (l : List Int) (x : Int), (l.map L3.D.int).map T.sh ++ [T.sh (.int x)] = ((l ++ [x]).map L3.D.int).map T.sh := by intros; simp
 refine OQ E.g (IJ E.g.nd E.g.calm E.nO E.uA) (fun j δ => ∃ o5 o6, δ = [some (.sh (rL bs nm (rE ks es ss) is os (ws.map dS))), some (.sh (.lst (ops.map .int))), some (.sh (.int leaf)), some (.sh (.str sg)), some (.lst ((((FP ws ops sg ln j).map fun (k : Nat) => (k : Int)).map .int).map T.sh)), o5, o6, some (.lst ((ln.map .int).map T.sh))])
   (E9 (f := dS) (l := ws) w0 E.zK (EZ E.cY E.dU (v_ E.dW.1) lW) E.zJ) ⟨_, _, rfl⟩ (fun j δ ⟨_, _, e⟩ => by subst e; intro i hi; simp only [aau, abH, or_false] at hi; rcases hi with rfl | rfl <;> exact aat rfl) ?turn ?fin
 case turn =>
   rintro j d δ hj ⟨o5, o6, rfl⟩
   obtain ⟨i, rfl, hi, ZR, Rm, _, _⟩ := vf hj
   have ei : i = j := by
     rw [List.getElem?_range (by simpa using (List.getElem?_eq_some_iff.mp hi).1)] at hi
     exact (aaH hi).symm
   subst ei
   have Rm : i < ws.length := abk.mp ZR
   refine ⟨_, rfl, ?_⟩
   obtain ⟨w, hw⟩ : ∃ w, ws.getD i w0 = w := ⟨_, rfl⟩
   have WW : w ∈ ws := by rw [← hw, aaw, aaq Rm]; exact abG _
   obtain ⟨al, IZ, WX⟩ := MG w WW
   show d9 X CL b _ _ { nx := fun δ => ∃ o5 o6, δ = [_, _, _, _, some (.lst ((((FP ws ops sg ln (i + 1)).map fun (k : Nat) => (k : Int)).map .int).map T.sh)), o5, o6, _], rt := _, bk := _, ct := _ }
   rw [FQ, hw]
   have Rg := vG ws ops sg ln i
   generalize FP ws ops sg ln i = fl at Rg ⊢
   refine eu (lU (fz (eH (bT (aJ E.uA) (ah (mQ E.P5 E.P1)) (fC (j := 1) rfl)) (aJ E.jT)).1 (fun _ => fz (kg (bT (aJ E.uA) (ah (mQ E.zL E.Gi)) (fC (j := 0) rfl)) (vL E.A1.1) rfl rfl).1 (fun _ => iQ (qR (aZ (c_ (al, ops) E.P6 E.A2 (ak (BO (bT (aJ E.uA) (ah (mQ E.P7 E.P4)) (fC (j := 2) rfl)) (congrArg L3.D.tup IZ)) (ak (aJ E.aQ) aM)) (by dsimp only [jU]; exact WX) rfl) (t2 := .sh (.bl (fU ops w.asks))) (by rw [IZ]; rfl))))))) (fun hp => ?_) (fun hp => az (az ?_))
   . have hp : Js ops sg ln w = true := hp
     refine ju E.bz.1 rfl (v_ E.nO.1) rfl (by simp; omega) (az (az ?_))
     rw [aI, aar hp, List.map_append]
     exact ⟨_, _, rfl⟩
   . have hp : Js ops sg ln w = false := hp
     rw [aap (by rw [hp]; decide), aa1]
     exact ⟨_, _, rfl⟩
 case fin =>
   rintro δ ⟨o5, o6, rfl⟩
   rw [aaz, abY]
   have Rg := vG ws ops sg ln ws.length
   have O1 : ∀ {k : Nat}, k ∈ FP ws ops sg ln ws.length -> k < ws.length /\ (ws.getD k w0).src ∈ ln := fun hk => by
     obtain ⟨h1, h2⟩ := abn.mp hk
     simp only [Js, aa8, abW] at h2
     exact ⟨abk.mp h1, h2.2.1⟩
   refine bA (aZ (rC (y := "way") (g := fun d => ((oH ln (ws.getD d.yI.toNat w0).src : Nat) : Int)) E.lam E.g E.dp E.sf E.se (dJ (.cons E.dW.1 (.inl E.wm) (.cons E.A1.1 (.inl E.P0) .nil)) (by decide +kernel)) (vL E.bz.1) (cu _) (by simp; omega) (fun f c s0 H0 b' d hd => ?key)) ?eq) rfl
   case key =>
     obtain ⟨x, hx, rfl⟩ := aaW.mp hd
     obtain ⟨k, hk, rfl⟩ := aaW.mp hx
     obtain ⟨k1, k2⟩ := O1 hk
     have F0 : sZ (ws.map dS) (k : Int) = some (dS (ws.getD k w0)) := (iS (f := dS) w0 (by omega) (by omega)).trans (by rw [aa6])
     refine ah (aZ (Fw (l := ln) (j := oH ln (ws.getD k w0).src) (BO (ah (v_ (Fq (i := 2) rfl (by decide +kernel)))) (dD _)) (bT (aR (jH (by exact E.cY) (by exact E.dU) (ah (v_ (Fq (i := 1) rfl (by decide +kernel)))) lW) (ah (v_ (Fp (i := 0) rfl (by decide +kernel)))) F0) (ah (mQ (by exact E.zL) (Ph (by decide +kernel)))) (fC (j := 0) rfl)) (vD k2) (fun i hi => Pu hi)) ?_)
     show T.sh (.int _) = T.sh (.int ((oH ln (ws.getD (k : Int).toNat w0).src : Nat) : Int))
     rw [aa6]
   case eq =>
     rw [iD]
     rfl
theorem bG : lB (aq nM) ([("chart", .cell), ("opens", av), ("leaf", av), ("sign", av), ("found", av), ("number", av), ("way", av), ("line", .cell), ("above", aB), ("enumerate", aB), ("SIGN", aB), ("SOURCE", aB), ("fits", aB), ("ASKS", aB), ("sorted", aB)]) = true := by decide +kernel
theorem uB : aP ["chart", "opens", "leaf", "sign", "found", "number", "way", "line"] ["chart", "opens", "leaf", "sign"] (aq nM) := aW
abbrev qH : Stmt := top 12
abbrev wA : Type := Int
def kZ : wA -> List L3.D := fun i => [.int i]
def k6 : wA -> Prop := fun i => True
def k7 : wA -> T := fun i => (.sh (.bl true) : T)
structure J6 (X : Cx) (CL : Str -> Addr) : Prop extends cN X where
 bz : Ln X 0 "found"
 f7 : Gl X "isinstance"
 Ga : Gl X "int"
 g_bool : Gl X "bool"
 f9 : X.mg "isinstance" = none
 Gb : X.mg "int" = none
 P8 : X.mg "bool" = none
theorem J7 {X : Cx} {CL : Str -> Addr} {b : Bx} (E : J6 X CL) (i) (h : k6 i) :
   aE X CL b qH ["found"] (kZ i) (k7 i) := by
 dsimp only [aE, k6, kZ, k7] at h ⊢
 exact bA (Oi (Yz E.f9 E.Gb E.f7 E.Ga (aJ E.bz)) (fun _ => Oh (Oj (YB E.f9 E.P8 E.f7 E.g_bool (aJ E.bz))))) rfl
theorem nP : lB (aq qH) ([("found", av), ("isinstance", aB), ("int", aB), ("bool", aB)]) = true := by decide +kernel
theorem zM : aP ["found"] ["found"] (aq qH) := aW
abbrev s_same : Stmt := top 16
abbrev A3 : Type := List Int × List Int
def nQ : A3 -> List L3.D := fun (xs, ys) => [.lst (xs.map .int), .lst (ys.map .int)]
def nR : A3 -> Prop := fun (xs, ys) => ys.length <= 100
def nS : A3 -> T := fun (xs, ys) => (.sh (.bl (decide (xs = ys))) : T)
structure P9 (X : Cx) (CL : Str -> Addr) : Prop extends cN X where
 bz : Ln X 0 "found"
 nT : Ln X 1 "due"
 jw : Ln X 2 "k"
 f7 : Gl X "isinstance"
 dz : Gl X "list"
 cD : Gl X "len"
 b9 : Gl X "range"
 wB : Gl X "_law_whole"
 f9 : X.mg "isinstance" = none
 dB : X.mg "list" = none
 cE : X.mg "len" = none
 cg : X.mg "range" = none
 J8 : Fc X CL "_law_whole" 1 1 kZ k6 k7
theorem Qa {X : Cx} {CL : Str -> Addr} {b : Bx} (E : P9 X CL) (xs ys) (h : nR (xs, ys)) :
   aE X CL b s_same ["found", "due", "k"] (nQ (xs, ys)) (nS (xs, ys)) := by
 dsimp only [aE, nR, nQ, nS] at h ⊢
 have hlen : ∀ l : List Int, (l.map L3.D.int).length = l.length := fun l => by simp
 refine eu (lU (yz (qS (qR (YC E.f9 E.dB E.f7 E.dz (aJ E.bz)))) (fun _ => uV (qQ (ah (mK E.cE (aJ E.bz) E.cD)) (ah (mK E.cE (aJ E.nT) E.cD))).1))) (fun hp => ?_) (fun hp => ?_)
 . refine bA mJ ?_
   have uc : xs.length ≠ ys.length := by
     intro e
     simp [hlen, e] at hp
   show T.sh _ = T.sh (.bl (decide (xs = ys)))
   rw [abe (fun e => uc (by rw [e]))]
 . have he : xs.length = ys.length := by
     simp [hlen] at hp
     exact_mod_cast hp
   refine az ?_
   refine jt E.g E.jw (fun j δ => (∃ o, δ = [some (.sh (.lst (xs.map .int))), some (.sh (.lst (ys.map .int))), o]) /\ xs.take j = ys.take j)
     (ef E.cg (ah (mK E.cE (aJ E.nT) E.cD)) (by rw [hlen]; omega) E.b9) ⟨⟨_, rfl⟩, rfl⟩ (fun j δ ⟨⟨o, e⟩, _⟩ => by subst e; exact aat rfl) ?_ ?_
   . rintro j d δ hj ⟨⟨o, rfl⟩, hp⟩
     obtain ⟨rfl, BV⟩ := gB hj
     have BV : j < ys.length := by simpa using BV
     rw [abC]
     refine eu (lU (yz (qS (qR (c_ (xs.getD ((j : Int)).toNat 0) E.J8 E.wB (ak (aR (aJ E.bz) (aJ E.jw) (dZ (bs := xs) (k := (j : Int)) (by omega) (by omega))) aM) trivial rfl))) (fun _ => uV (qQ (aR (aJ E.bz) (aJ E.jw) (dZ (by omega) (by omega))) (aR (aJ E.nT) (aJ E.jw) (dZ (by omega) (by omega)))).1))) (fun hq => ?_) (fun hq => ?_)
     . refine bA mJ ?_
       show T.sh _ = T.sh (.bl (decide (xs = ys)))
       rw [abe]
       intro e
       subst e
       simp at hq
     . refine az (az ⟨⟨_, rfl⟩, ?_⟩)
       rw [abr, abr, hp]
       congr 1
       simp at hq
       rw [aaq (by omega), aaq BV] at hq ⊢
       simpa using hq
   . rintro δ ⟨⟨o, rfl⟩, hp⟩
     refine bA mJ ?_
     show T.sh _ = T.sh (.bl (decide (xs = ys)))
     have : xs = ys := by
       have e : (bC 0 (((ys.map L3.D.int).length : Int)).toNat).length = ys.length := by simp [bC]
       rw [e, ab3] at hp
       rw [← hp, abU (by omega)]
     rw [ab0 this]
theorem gR : lB (aq s_same) ([("found", av), ("due", av), ("k", av), ("isinstance", aB), ("list", aB), ("len", aB), ("range", aB), ("_law_whole", aB)]) = true := by decide +kernel
theorem Cr : aP ["found", "due", "k"] ["found", "due"] (aq s_same) := aW
abbrev nU : Stmt := top 31
abbrev sr : Type := List L3.D × List L3.D × List Str × List Int × List Int × List Int × List L3.D × List L3.D × List L3.D
def jf : sr -> List L3.D := fun (bs, nm, ks, es, ss, oo, is, os, ws) => [rL bs nm (rE ks es ss) is os ws, uv ks es ss oo, .lst ws]
def gF : sr -> Prop := fun (bs, nm, ks, es, ss, oo, is, os, ws) => (∀ x ∈ ks, PyData.strOk x = true) /\ gW 60 (.lst ws)
def jg : sr -> T := fun (bs, nm, ks, es, ss, oo, is, os, ws) => (.sh (.bl true) : T)
structure Gk (X : Cx) (CL : Str -> Addr) : Prop extends cN X where
 dW : Ln X 0 "chart"
 bQ : Ln X 1 "lists"
 cT : Ln X 2 "ways"
 fP : Ln X 3 "tree"
 cY : uO X.K (CL "Chart")
 fO : uO X.K (CL "Tree")
 fj : aX X.K (CL "Chart") "tree"
 dU : aX X.K (CL "Chart") "ways"
 jb : aX X.K (CL "Tree") "kinds"
 dg : aX X.K (CL "Tree") "elders"
 g8 : aX X.K (CL "Tree") "starts"
theorem Gm {X : Cx} {CL : Str -> Addr} {b : Bx} (E : Gk X CL) (bs nm ks es ss oo is os ws) (h : gF (bs, nm, ks, es, ss, oo, is, os, ws)) :
   aE X CL b nU ["chart", "lists", "ways", "tree"] (jf (bs, nm, ks, es, ss, oo, is, os, ws)) (jg (bs, nm, ks, es, ss, oo, is, os, ws)) := by
 dsimp only [aE, gF, jf, jg] at h ⊢
 obtain ⟨hk, hw⟩ := h
 refine aO E.g E.fP (EZ E.cY E.fj (v_ E.dW.1) rM) ?_
 have e1 : ∀ l : List Int, C9 (.lst (l.map L3.D.int)) (.lst (l.map L3.D.int)) = true := fun l => mO (fJ l)
 refine eu (lU (yz (uZ E.u (jH E.fO E.jb (aJ E.fP) AA) (aR (aJ E.bQ) (ah ai) rfl) (O5 59 hk) (O5 59 hk)).1 (fun hb => (yz (uZ E.u (jH E.fO E.dg (aJ E.fP) jK) (aR (aJ E.bQ) (ah ai) rfl) (fJ _) (fJ _)).1 (fun hb2 => (uV (uZ E.u (jH E.fO E.g8 (aJ E.fP) zb) (aR (aJ E.bQ) (ah ai) rfl) (fJ _) (fJ _)).1)))))) (fun hp => ?_) (fun _ => az ?_)
 . rw [mO (O5 59 hk), e1, e1] at hp
   cases hp
 . refine bA (OI E.u (jH E.cY E.dU (aJ E.dW) lW) (aJ E.cT) hw hw).2 ?_
   rw [mO hw]
theorem k8 : lB (aq nU) ([("chart", av), ("lists", av), ("ways", av), ("tree", av)]) = true := by decide +kernel
theorem uC : aP ["chart", "lists", "ways", "tree"] ["chart", "lists", "ways"] (aq nU) := aW
abbrev Ct : Stmt := top 34
abbrev Gn : Type := List Int
def k9 : Gn -> List L3.D := fun a => [.lst (a.map .int)]
def lg : Gn -> Prop := fun a => a.length <= 63
def lq : Gn -> T := fun a => (.sh (.bl true) : T)
structure TV (X : Cx) (CL : Str -> Addr) : Prop extends cN X where
 bf : Ln X 0 "script"
 bQ : Ln X 1 "lists"
 aQ : Ln X 2 "opens"
 bY : Ln X 3 "boxes"
 fE : Ln X 4 "three"
 cT : Ln X 5 "ways"
 dW : Ln X 6 "chart"
 je : Ln X 7 "leaf"
 kW : Ln X 8 "chain"
 jT : Ln X 9 "sign"
 nV : Ln X 10 "handed"
 nT : Ln X 11 "due"
 bz : Ln X 12 "found"
 wC : Gl X "_law_lists"
 wF : Gl X "_law_opens"
 wG : Gl X "_law_boxes"
 wH : Gl X "_law_signs"
 zN : Gl X "_law_ways"
 cD : Gl X "len"
 wI : Gl X "_law_chart"
 iZ : Gl X "_law_chain"
 dz : Gl X "list"
 zO : Gl X "_law_goes"
 jV : Gl X "goable"
 jW : Gl X "_law_same"
 tS : Gl X "_law_stayed"
 J9 : Fc X CL "_law_lists" 3 1 ko kr ku
 Ka : Fc X CL "_law_opens" 1 1 kB iI kC
 Kc : Fc X CL "_law_boxes" 2 1 kD kE kF
 Kd : Fc X CL "_law_signs" 2 1 kH kI kJ
 oQ : Fc X CL "_law_ways" 4 5 nA jN nB
 cE : X.mg "len" = none
 Ke : Fc X CL "_law_chart" 3 3 kR iM kT
 vJ : Fc X CL "_law_chain" 1 2 iF gj iG
 dB : X.mg "list" = none
 Qc : Fc X CL "_law_goes" 2 4 nG jS nI
 gG : Fc X CL "goable" 2 4 jd fB gE
 A4 : Fc X CL "_law_same" 2 2 nQ nR nS
 Gp : Fc X CL "_law_stayed" 1 3 jf gF jg
theorem TX {X : Cx} {CL : Str -> Addr} {b : Bx} (E : TV X CL) (a) (h : lg a) :
   aE X CL b Ct ["script", "lists", "opens", "boxes", "three", "ways", "chart", "leaf", "chain", "sign", "handed", "due", "found"] (k9 a) (lq a) := by
 dsimp only [aE, lg, k9, lq] at h ⊢
 have hs : a.length <= 1000 := by omega
 refine aO E.g E.bQ (aZ (c_ a E.J9 E.wC (ak (aJ E.bf) aM) hs (by
   show T.clean (pO _ _ _ _) = true
   unfold pO
   rw [gi, T.dG, T.dG, T.dG, T.dG, T.dG, bD (iB _), bD (cu _), bD (cu _), bD (cu _)]
   rfl)) (t2 := pO (mY a (gJ a) (gJ a).length) (gJ a) (rN a (gJ a) (gJ a).length) (oF a (gJ a) (gJ a).length)) rfl) ?_
 obtain ⟨n1, n2, pW⟩ := B3 a
 generalize gJ a = es at n1 n2 pW ⊢
 have XZ : ∀ x ∈ mY a es es.length, PyData.strOk x = true := fun x hx => by
   obtain ⟨k, _, rfl⟩ := aaW.mp hx
   exact Pn _ _ _
 have TY : (oF a es es.length).length = es.length := by simp [oF]
 have W0 : (mY a es es.length).length = es.length := by simp [mY]
 generalize mY a es es.length = ks at XZ W0 ⊢
 generalize rN a es es.length = ss
 generalize oF a es es.length = oo at TY ⊢
 have Rn := FG ks es ss oo
 refine aO E.g E.aQ (aZ (c_ (ks, es, ss, oo) E.Ka E.wF (ak (vE E.bQ.1 rfl Rn) aM) (by dsimp only [iI]; exact ⟨n1, by omega, TY, pW.1⟩) (cM _)) (t2 := .lst (((uw es oo (es.length - 1)).map .int).map T.sh)) rfl) ?_
 have Rj := (ql (es := es) (os := oo) (es.length - 1)).1
 have W2 := (ql (es := es) (os := oo) (es.length - 1)).2
 have Hv : ∀ x ∈ uw es oo (es.length - 1), 0 <= x /\ x < es.length := fun x hx => by
   have := qk _ hx
   omega
 generalize uw es oo (es.length - 1) = ops at Rj W2 Hv ⊢
 refine aO E.g E.bY (aZ (c_ (a) E.Kc E.wG (ak (aJ E.bf) aM) (hs) (cM _)) (t2 := .lst (((Ri a).map .int).map T.sh)) rfl) ?_
 have U1 := Jk a
 generalize Ri a = bs at U1 ⊢
 refine aO E.g E.fE (aZ (c_ (a) E.Kd E.wH (ak (aJ E.bf) aM) (hs) (rG _)) (t2 := .lst (((Jl a).map .str).map T.sh)) rfl) ?_
 have h3 := Jm a
 have cU := Pp a
 generalize Jl a = th at h3 cU ⊢
 obtain ⟨wl, wo⟩ := FN (s := a) (bs := bs) n1 Rj Hv cU h3
 have Ro : mZ es.length bs (rS a ops es.length bs th) := ⟨by omega, wo⟩
 refine aO E.g E.cT (aZ (c_ (a, ops, es.length, bs, th) E.oQ E.zN (ak (aJ E.bf) (ak (vL E.aQ.1) (ak (ah (cJ (List.length_map ..) E.cE (aR (vE E.bQ.1 rfl Rn) (ah ai) rfl) E.cD)) (ak (vL E.bY.1) (ak (vL E.fE.1) aM))))) (by dsimp only [jN]; exact ⟨h, n1, Rj, by omega, h3, Hv, cU⟩) (by exact bD Ro.bO)) (t2 := .lst (((rS a ops es.length bs th).map dS).map T.sh)) rfl) ?_
 generalize rS a ops es.length bs th = ws at Ro ⊢
 have iw := Ro.bO
 refine aO E.g E.dW (aZ (c_ (ks, es, ss, oo, bs, ws.map dS) E.Ke E.wI (ak (vE E.bQ.1 rfl Rn) (ak (vL E.bY.1) (ak (vL E.cT.1) aM))) (by dsimp only [iM]; exact ⟨by omega, by omega, iw⟩) (by
   show T.aV (fM _ _ _ _ _ _) = true
   exact v8 (oN _) (iB _) (pM ks es ss) (iL _) (iL _) iw)) (t2 := .ins "Chart" (fM (mw bs.length) ((lD es.length).map .str) (.ins "Tree" (jv ks es ss)) (nF es.length) (nF es.length) (ws.map dS))) rfl) ?_
 have W3 : T.cZ (.ins "Chart" (fM (mw bs.length) ((lD es.length).map .str) (.ins "Tree" (jv ks es ss)) (nF es.length) (nF es.length) (ws.map dS))) = rL (mw bs.length) ((lD es.length).map .str) (rE ks es ss) (nF es.length) (nF es.length) (ws.map dS) := by
   rw [AF, Dt]
 have ht := pW.1
 have Ie := Ro.1
 have MG : AJ ws := fun w hw => by
   obtain ⟨al, e, _, ho⟩ := (Ro.2 w hw).asks
   exact ⟨al, e, fun q hq => (ho q hq).mk⟩
 refine jt E.g E.je (fun j δ => ∃ o7 o8 o9 Qd Qe Qf, δ = [some (.sh (.lst (a.map .int))), some (pO ks es ss oo), some (.sh (.lst (ops.map .int))), some (.lst ((bs.map .int).map T.sh)), some (.lst ((th.map .str).map T.sh)), some (.lst ((ws.map dS).map T.sh)), some (.ins "Chart" (fM (mw bs.length) ((lD es.length).map .str) (.ins "Tree" (jv ks es ss)) (nF es.length) (nF es.length) (ws.map dS))), o7, o8, o9, Qd, Qe, Qf])
   (qX (YG E.aQ.1 rfl)) ⟨_, _, _, _, _, _, rfl⟩ (fun j δ ⟨_, _, _, _, _, _, e⟩ => by subst e; exact aat rfl) ?turn ?fin
 case turn =>
   rintro j d δ hj ⟨o7, o8, o9, Qd, Qe, Qf, rfl⟩
   obtain ⟨x, rfl, _, WV, _, _, _⟩ := vf hj
   obtain ⟨x0, x1⟩ := Hv x WV
   clear hj WV
   have XS : (eS es x).length <= es.length + 1 := mW _ _ _
   refine aO E.g E.kW (aZ (qi (ds := [.int x]) (D7 := (eS es x).map .int) (cL (ds := [.int x]) (dm (eG (v_ E.je.1) di) (aF rfl))) (cL (c_ (es, x) E.vJ E.iZ (ak (aR (vE E.bQ.1 rfl Rn) (ah ai) rfl) (ak (aJ E.je) aM)) (by dsimp only [gj]; exact ⟨ht, x0, x1, by omega⟩) (cM _))) rfl (cu _) (Nat.le_of_lt (cO (by simp; omega)))) (t2 := .lst (((x :: eS es x).map .int).map T.sh)) rfl) ?_
   have VW := AI ht x0 x1
   have hln : (x :: eS es x).length <= 40 := by rw [aaL]; omega
   refine jt E.g E.jT (fun i δ => ∃ o9 Qd Qe Qf, δ = [some (.sh (.lst (a.map .int))), some (pO ks es ss oo), some (.sh (.lst (ops.map .int))), some (.lst ((bs.map .int).map T.sh)), some (.lst ((th.map .str).map T.sh)), some (.lst ((ws.map dS).map T.sh)), some (.ins "Chart" (fM (mw bs.length) ((lD es.length).map .str) (.ins "Tree" (jv ks es ss)) (nF es.length) (nF es.length) (ws.map dS))), some (.sh (.int x)), some (.lst (((x :: eS es x).map .int).map T.sh)), o9, Qd, Qe, Qf])
     (qX (BL (ds := (th ++ [("strange0" : Str)]).map L3.D.str) (aZ (qi (ds := th.map .str) (D7 := [.str "strange0"]) (vL E.fE.1) (cL (ds := [.str "strange0"]) (dm (eG aY di) (aF rfl))) (iB _) rfl (abp (cO (by simp; omega)))) (by simp)))) ⟨_, _, _, _, rfl⟩ (fun j δ ⟨_, _, _, _, e⟩ => by subst e; exact aat rfl) ?Gg ?fin2
   case Gg =>
     rintro i d δ hi ⟨o9, Qd, Qe, Qf, rfl⟩
     obtain ⟨sg, rfl, _, _, _, _, _⟩ := vf hi
     clear hi
     refine eu (eH (aR (aR (vE E.bQ.1 rfl Rn) (ah ai) rfl) (aJ E.je) (iS Str.empty x0 (by omega))) (ah aY)).1 (fun _ => ?_) (fun _ => az (az ⟨_, _, _, _, rfl⟩))
     refine aO E.g E.nV (cQ E.dB (aJ E.aQ) (cu _) E.dz bJ) ?_
     have O7 := go_eq (ws := ws) (ops := ops) (sg := sg) VW
     have WY := Ju ws ops sg (x :: eS es x)
     refine aO E.g E.nT (aZ (c_ (ws, ops, x :: eS es x, sg) E.Qc E.zO (ak (vL E.cT.1) (ak (aJ E.aQ) (ak (vL E.kW.1) (ak (aJ E.jT) aM)))) (by dsimp only [jS]; exact ⟨Ie, by omega, MG⟩) (cM _)) (t2 := .lst (((Jt ws ops sg (x :: eS es x)).map .int).map T.sh)) (by rw [O7]; rfl)) ?_
     refine aO E.g E.bz (aZ (c_ (mw bs.length, (lD es.length).map .str, ks, es, ss, nF es.length, nF es.length, ws, ops, x, sg) E.gG E.jV (ak (vE E.dW.1 rfl W3) (ak (vL E.nV.1) (ak (aJ E.je) (ak (aJ E.jT) aM)))) (by dsimp only [fB]; exact ⟨ht, by omega, x0, x1, Ie, MG⟩) (cM _)) (t2 := .lst (((Jt ws ops sg (x :: eS es x)).map .int).map T.sh)) rfl) ?_
     have W4 : gE (mw bs.length, (lD es.length).map .str, ks, es, ss, nF es.length, nF es.length, ws, ops, x, sg) = T.lst (((Jt ws ops sg (x :: eS es x)).map .int).map T.sh) := rfl
     generalize Xu : Jt ws ops sg (x :: eS es x) = go at WY W4 ⊢
     refine eu (lU (yz (qS (qR (c_ ((go, go)) E.A4 E.jW (ak (vL E.bz.1) (ak (vL E.nT.1) aM)) ((show go.length <= 100 by omega)) rfl))) (fun hb => (uV (qS (qR (c_ ((ops, ops)) E.A4 E.jW (ak (vL E.nV.1) (ak (aJ E.aQ) aM)) ((show ops.length <= 100 by omega)) rfl))))))) (fun hp => ?_) (fun _ => az ?_)
     . have hp : (!decide (go = go) || !decide (ops = ops)) = true := hp
       exact absurd hp (by simp)
     refine ju E.bz.1 rfl ai rfl (by simp; omega) ?_
     refine eu (qS (qR (c_ (go, go) E.A4 E.jW (ak (cL (aZ (c_ (mw bs.length, (lD es.length).map .str, ks, es, ss, nF es.length, nF es.length, ws, ops, x, sg) E.gG E.jV (ak (vE E.dW.1 rfl W3) (ak (vL E.nV.1) (ak (aJ E.je) (ak (aJ E.jT) aM)))) (by dsimp only [fB]; exact ⟨ht, by omega, x0, x1, Ie, MG⟩) (by rw [W4]; exact cM _)) W4)) (ak (vL E.nT.1) aM)) (show go.length <= 100 by omega) rfl))) (fun hp => ?_) (fun _ => az (az (az ⟨_, _, _, _, rfl⟩)))
     have hp : (!decide (go = go)) = true := hp
     exact absurd hp (by simp)
   case fin2 =>
     rintro δ ⟨o9, Qd, Qe, Qf, rfl⟩
     exact az ⟨_, _, _, _, _, _, rfl⟩
 case fin =>
   rintro δ ⟨o7, o8, o9, Qd, Qe, Qf, rfl⟩
   exact bA (c_ (mw bs.length, (lD es.length).map .str, ks, es, ss, oo, nF es.length, nF es.length, ws.map dS) E.Gp E.tS (ak (vE E.dW.1 rfl W3) (ak (vE E.bQ.1 rfl Rn) (ak (vL E.cT.1) aM))) (by dsimp only [gF]; exact ⟨XZ, Ro.dep 47⟩) rfl) rfl
theorem bW : lB (aq Ct) ([("script", av), ("lists", av), ("opens", av), ("boxes", av), ("three", av), ("ways", av), ("chart", av), ("leaf", av), ("chain", av), ("sign", av), ("handed", av), ("due", av), ("found", av), ("_law_lists", aB), ("_law_opens", aB), ("_law_boxes", aB), ("_law_signs", aB), ("_law_ways", aB), ("len", aB), ("_law_chart", aB), ("_law_chain", aB), ("list", aB), ("_law_goes", aB), ("goable", aB), ("_law_same", aB), ("_law_stayed", aB)]) = true := by decide +kernel
theorem Gq : aP ["script", "lists", "opens", "boxes", "three", "ways", "chart", "leaf", "chain", "sign", "handed", "due", "found"] ["script"] (aq Ct) := aW
def cl (aj ao aG ay : Addr) : Str -> Addr := fun c => if c = "Chart" then aj else if c = "Tree" then ao else if c = "#_law_ways.<locals>.<lambda>" then aG else if c = "#goable.<locals>.<lambda>" then ay else 0
theorem uD {aj ao aG ay : Addr} : cl aj ao aG ay "#_law_ways.<locals>.<lambda>" = aG := by unfold cl; rw [aap (by decide +kernel)]; rw [aap (by decide +kernel)]; rw [aar rfl]
theorem pQ {aj ao aG ay : Addr} : cl aj ao aG ay "#goable.<locals>.<lambda>" = ay := by unfold cl; rw [aap (by decide +kernel)]; rw [aap (by decide +kernel)]; rw [aap (by decide +kernel)]; rw [aar rfl]
theorem fq {aj ao aG ay : Addr} : cl aj ao aG ay "Chart" = aj := by unfold cl; rw [aar rfl]
theorem lu {aj ao aG ay : Addr} : cl aj ao aG ay "Tree" = ao := by unfold cl; rw [aap (by decide +kernel)]; rw [aar rfl]
theorem Kf {aj ao aG ay : Addr} {x : Str} (h : yy x = true) (h0 : cl aj ao aG ay x ≠ 0) : (cl aj ao aG ay x, Am x) ∈ ([(aG, "_law_ways.<locals>.<lambda>"), (ay, "goable.<locals>.<lambda>")] : List (Addr × Str)) := by
 unfold cl at h0 ⊢
 rw [aap (fun e => by rw [e] at h; exact absurd h (by decide +kernel))] at h0 ⊢
 rw [aap (fun e => by rw [e] at h; exact absurd h (by decide +kernel))] at h0 ⊢
 by_cases A5 : x = "#_law_ways.<locals>.<lambda>"
 . rw [aar A5, A5, show Am ("#_law_ways.<locals>.<lambda>" : Str) = "_law_ways.<locals>.<lambda>" by decide +kernel]; simp
 rw [aap A5] at h0 ⊢
 by_cases su : x = "#goable.<locals>.<lambda>"
 . rw [aar su, su, show Am ("#goable.<locals>.<lambda>" : Str) = "goable.<locals>.<lambda>" by decide +kernel]; simp
 rw [aap su] at h0 ⊢
 exact absurd rfl h0
theorem all_mk {l : PySem.W.OpenLaw} {w : World} {K : PySem.W.Frag} {h : Heap} {mg : Str -> Option Value} {T0 : List Addr} {fa wJ oR wK sy wL wM sA wN A6 wO wQ wR Gr Gs Gu A7 gS gb wU oS A8 wV A9 sC wW Ba sE MN aj ao aG ay : Addr} (XX : K.In h) (G : h.Ns mainGlobals mg) (ZS : mg "law" = some (.ref fa))
   {Kg DH Kh Gv Kl Km Gw Kn Qg Ko Kp Kq T3 T4 T5 Gy zP wX Kr DI Qh wu A2 jV Ks g_same Gz MP : FuncData}
   (wY : PySem.W.nsIn K mainGlobals "Chart" = some (some (.ref aj))) (sF : PySem.W.plainGet K aj Str.empty = true) (sG : PySem.W.hasDictIn K aj = true) (sH : PySem.W.plainOver K aj = true) (sJ : PySem.W.findIn K (.ref aj) "__setattr__" = some (some (.builtin "object.__setattr__"))) (sL : PySem.W.makesIn K aj = true) (sM : PySem.W.keepIn K (.ref aj) = true)
   (g9 : PySem.W.findIn K (.ref aj) "boxes" = some none)
   (ia : PySem.W.findIn K (.ref aj) "names" = some none)
   (jh : PySem.W.findIn K (.ref aj) "tree" = some none)
   (jX : PySem.W.findIn K (.ref aj) "ins" = some none)
   (ji : PySem.W.findIn K (.ref aj) "outs" = some none)
   (jk : PySem.W.findIn K (.ref aj) "ways" = some none)
   (Bb : PySem.W.nsIn K mainGlobals "Tree" = some (some (.ref ao))) (wZ : PySem.W.plainGet K ao Str.empty = true) (w4 : PySem.W.hasDictIn K ao = true) (w9 : PySem.W.plainOver K ao = true) (xg : PySem.W.findIn K (.ref ao) "__setattr__" = some (some (.builtin "object.__setattr__"))) (xh : PySem.W.makesIn K ao = true) (xj : PySem.W.keepIn K (.ref ao) = true)
   (jl : PySem.W.findIn K (.ref ao) "kinds" = some none)
   (ic : PySem.W.findIn K (.ref ao) "elders" = some none)
   (ig : PySem.W.findIn K (.ref ao) "starts" = some none)
   (xm : PySem.W.nsIn K mainGlobals "_law_mixed" = some (some (.ref wJ))) (xo : jx K "_law_mixed" "_law_mixed" qm wJ Kg)
   (oU : PySem.W.nsIn K mainGlobals "_law_cell_at" = some (some (.ref oR))) (oV : jx K "_law_cell_at" "_law_cell_at" kh oR DH)
   (xq : PySem.W.nsIn K mainGlobals "_law_chain" = some (some (.ref wK))) (xr : jx K "_law_chain" "_law_chain" qo wK Kh)
   (sN : PySem.W.nsIn K mainGlobals "_law_elders" = some (some (.ref sy))) (sO : jx K "_law_elders" "_law_elders" m7 sy Gv)
   (xu : PySem.W.nsIn K mainGlobals "_law_lists" = some (some (.ref wL))) (xx : jx K "_law_lists" "_law_lists" qp wL Kl)
   (xA : PySem.W.nsIn K mainGlobals "_law_opens" = some (some (.ref wM))) (xB : jx K "_law_opens" "_law_opens" qq wM Km)
   (sP : PySem.W.nsIn K mainGlobals "_law_number" = some (some (.ref sA))) (sQ : jx K "_law_number" "_law_number" m8 sA Gw)
   (xC : PySem.W.nsIn K mainGlobals "_law_boxes" = some (some (.ref wN))) (xD : jx K "_law_boxes" "_law_boxes" qu wN Kn)
   (Bc : PySem.W.nsIn K mainGlobals "_law_name" = some (some (.ref A6))) (Bd : jx K "_law_name" "_law_name" vP A6 Qg)
   (xE : PySem.W.nsIn K mainGlobals "_law_signs" = some (some (.ref wO))) (xF : jx K "_law_signs" "_law_signs" qv wO Ko)
   (xG : PySem.W.nsIn K mainGlobals "_law_small" = some (some (.ref wQ))) (xH : jx K "_law_small" "_law_small" qw wQ Kp)
   (xJ : PySem.W.nsIn K mainGlobals "_law_worth" = some (some (.ref wR))) (xK : jx K "_law_worth" "_law_worth" qx wR Kq)
   (GA : PySem.W.nsIn K mainGlobals "_law_due" = some (some (.ref Gr))) (GB : jx K "_law_due" "_law_due" Ca Gr T3)
   (GC : PySem.W.nsIn K mainGlobals "_law_ask" = some (some (.ref Gs))) (GD : jx K "_law_ask" "_law_ask" Cb Gs T4)
   (GF : PySem.W.nsIn K mainGlobals "_law_way" = some (some (.ref Gu))) (GH : jx K "_law_way" "_law_way" Ci Gu T5)
   (Be : PySem.W.nsIn K mainGlobals "_law_ways" = some (some (.ref A7))) (Bf : jx K "_law_ways" "_law_ways" vW A7 Gy)
   {oQ : Addr} {Ku : Option Addr} {Cu : Array Value} {Kv : Array (Option Value)} (xM : Gy.code = .ref oQ) (Cv : K.lookup oQ = some ⟨.type "code", Ku, .fields Cu, Kv⟩) (Cw : Cu[11]? = some (.ref aG)) (qI : PySem.W.codeHdIn K oQ aG = true) (xN : aG ≠ 0) (xO : K.lookup aG = none) (xP : aG ∈ T0)
   (jY : PySem.W.findIn K (.ref ao) "__init__" = some (some (.ref gS))) (jZ : PySem.W.isFn K (.ref gS) = true) (pR : jx K "__init__" "Tree.__init__" gO gS zP)
   (jm : PySem.W.findIn K (.ref aj) "__init__" = some (some (.ref gb))) (jn : PySem.W.isFn K (.ref gb) = true) (nW : jx K "__init__" "Chart.__init__" f6 gb wX)
   (xQ : PySem.W.nsIn K mainGlobals "_law_chart" = some (some (.ref wU))) (xR : jx K "_law_chart" "_law_chart" qF wU Kr)
   (oW : PySem.W.nsIn K mainGlobals "_law_fits" = some (some (.ref oS))) (oX : jx K "_law_fits" "_law_fits" kU oS DI)
   (Bg : PySem.W.nsIn K mainGlobals "_law_goes" = some (some (.ref A8))) (Bh : jx K "_law_goes" "_law_goes" wc A8 Qh)
   (xS : PySem.W.nsIn K mainGlobals "above" = some (some (.ref wV))) (xT : jx K "above" "above" qG wV wu)
   (Bj : PySem.W.nsIn K mainGlobals "fits" = some (some (.ref A9))) (Bk : jx K "fits" "fits" wj A9 A2)
   (sR : PySem.W.nsIn K mainGlobals "goable" = some (some (.ref sC))) (sS : jx K "goable" "goable" nM sC jV)
   {gG : Addr} {DJ : Option Addr} {uE : Array Value} {DK : Array (Option Value)} (oY : jV.code = .ref gG) (uF : K.lookup gG = some ⟨.type "code", DJ, .fields uE, DK⟩) (uG : uE[11]? = some (.ref ay)) (ly : PySem.W.codeHdIn K gG ay = true) (oZ : ay ≠ 0) (pe : K.lookup ay = none) (pA : ay ∈ T0)
   (xU : PySem.W.nsIn K mainGlobals "_law_whole" = some (some (.ref wW))) (xV : jx K "_law_whole" "_law_whole" qH wW Ks)
   (Bl : PySem.W.nsIn K mainGlobals "_law_same" = some (some (.ref Ba))) (Bm : jx K "_law_same" "_law_same" s_same Ba g_same)
   (sU : PySem.W.nsIn K mainGlobals "_law_stayed" = some (some (.ref sE))) (sV : jx K "_law_stayed" "_law_stayed" nU sE Gz)
   (Cy : PySem.W.nsIn K mainGlobals "law" = some (some (.ref MN))) (GJ : jx K "law" "law" Ct MN MP)
   (GK : PySem.W.nsIn K mainGlobals "len" = some none)
   (xW : PySem.W.nsIn K mainGlobals "range" = some none)
   (GL : PySem.W.nsIn K mainGlobals "int" = some none)
   (xX : PySem.W.nsIn K mainGlobals "tuple" = some none)
   (sW : PySem.W.nsIn K mainGlobals "sorted" = some none)
   (Bo : PySem.W.nsIn K mainGlobals "list" = some none)
   (GN : PySem.W.nsIn K mainGlobals "str" = some none)
   (j3 : PySem.W.nsIn K mainGlobals "enumerate" = some none)
   {Kw : Tok} (Bp : PySem.W.nsIn K mainGlobals "SIGN" = some (some (.int 1 Kw)))
   {DL : Tok} (sX : PySem.W.nsIn K mainGlobals "SOURCE" = some (some (.int 0 DL)))
   {Kx : Tok} (Bq : PySem.W.nsIn K mainGlobals "ASKS" = some (some (.int 2 Kx)))
   (jo : PySem.W.nsIn K mainGlobals "isinstance" = some none)
   (y_bool : PySem.W.nsIn K mainGlobals "bool" = some none)
   (gH : ay ≠ aG)
   : ∃ (fd : FuncData) (ts : List (Addr × Str)), (∀ p ∈ ts, p.1 ∈ T0 /\ ts.lookup p.1 = some p.2 /\ K.lookup p.1 = none /\ ∃ c, PySem.W.CodeHd h c p.1) /\ (∀ (s : Shared) (v : Value), BindsTo s fd ⟨[v], []⟩ [("script", v)]) /\ ∀ base : Heap, K.In base -> base.Ns mainGlobals mg -> rD mg base -> bR l.prog w K mg base fQ 5 fa fd ["script"] (spT K ts 1 k9 lg lq) := by
 have e := ZS.symm.trans (aaI XX G Cy)
 cases e
 have Ky := aaI XX G xm
 have Kz := xo.binds (ps := ["cell", "salt"]) fun _ _ _ _ _ _ us hl => match us, hl with | [_, _], _ => rfl
 have DM := aaI XX G oU
 have DN := oV.binds (ps := ["script", "k"]) fun _ _ _ _ _ _ us hl => match us, hl with | [_, _], _ => rfl
 have KC := aaI XX G xq
 have KD := xr.binds (ps := ["elders", "mood"]) fun _ _ _ _ _ _ us hl => match us, hl with | [_, _], _ => rfl
 have GO := aaI XX G sN
 have GP := sO.binds (ps := ["script"]) fun _ _ _ _ _ _ us hl => match us, hl with | [_], _ => rfl
 have KG := aaI XX G xu
 have KH := xx.binds (ps := ["script"]) fun _ _ _ _ _ _ us hl => match us, hl with | [_], _ => rfl
 have KJ := aaI XX G xA
 have KL := xB.binds (ps := ["lists"]) fun _ _ _ _ _ _ us hl => match us, hl with | [_], _ => rfl
 have GQ := aaI XX G sP
 have GR := sQ.binds (ps := ["cell"]) fun _ _ _ _ _ _ us hl => match us, hl with | [_], _ => rfl
 have KN := aaI XX G xC
 have KP := xD.binds (ps := ["script"]) fun _ _ _ _ _ _ us hl => match us, hl with | [_], _ => rfl
 have Qi := aaI XX G Bc
 have Qj := Bd.binds (ps := ["cell"]) fun _ _ _ _ _ _ us hl => match us, hl with | [_], _ => rfl
 have KQ := aaI XX G xE
 have KR := xF.binds (ps := ["script"]) fun _ _ _ _ _ _ us hl => match us, hl with | [_], _ => rfl
 have KS := aaI XX G xG
 have KW := xH.binds (ps := ["cell"]) fun _ _ _ _ _ _ us hl => match us, hl with | [_], _ => rfl
 have KY := aaI XX G xJ
 have KZ := xK.binds (ps := ["term", "boxes"]) fun _ _ _ _ _ _ us hl => match us, hl with | [_, _], _ => rfl
 have T6 := aaI XX G GA
 have T7 := GB.binds (ps := ["mark", "one", "other"]) fun _ _ _ _ _ _ us hl => match us, hl with | [_, _, _], _ => rfl
 have T8 := aaI XX G GC
 have T9 := GD.binds (ps := ["cell", "opens", "many", "boxes"]) fun _ _ _ _ _ _ us hl => match us, hl with | [_, _, _, _], _ => rfl
 have Ua := aaI XX G GF
 have Ub := GH.binds (ps := ["cell", "opens", "many", "boxes", "three"]) fun _ _ _ _ _ _ us hl => match us, hl with | [_, _, _, _, _], _ => rfl
 have Qk := aaI XX G Be
 have Ql := Bf.binds (ps := ["script", "opens", "many", "boxes", "three"]) fun _ _ _ _ _ _ us hl => match us, hl with | [_, _, _, _, _], _ => rfl
 have zQ := pR.binds (ps := ["self", "kinds", "elders", "starts"]) fun _ _ _ _ _ _ us hl => match us, hl with | [_, _, _, _], _ => rfl
 have xY := nW.binds (ps := ["self", "boxes", "names", "tree", "ins", "outs", "ways"]) fun _ _ _ _ _ _ us hl => match us, hl with | [_, _, _, _, _, _, _], _ => rfl
 have K0 := aaI XX G xQ
 have K1 := xR.binds (ps := ["lists", "boxes", "ways"]) fun _ _ _ _ _ _ us hl => match us, hl with | [_, _, _], _ => rfl
 have DP := aaI XX G oW
 have DQ := oX.binds (ps := ["asks", "opens"]) fun _ _ _ _ _ _ us hl => match us, hl with | [_, _], _ => rfl
 have Qm := aaI XX G Bg
 have Qn := Bh.binds (ps := ["ways", "opens", "chain", "sign"]) fun _ _ _ _ _ _ us hl => match us, hl with | [_, _, _, _], _ => rfl
 have K2 := aaI XX G xS
 have K3 := xT.binds (ps := ["tree", "mood"]) fun _ _ _ _ _ _ us hl => match us, hl with | [_, _], _ => rfl
 have Qo := aaI XX G Bj
 have Qp := Bk.binds (ps := ["asks", "opens"]) fun _ _ _ _ _ _ us hl => match us, hl with | [_, _], _ => rfl
 have GU := aaI XX G sR
 have GV := sS.binds (ps := ["chart", "opens", "leaf", "sign"]) fun _ _ _ _ _ _ us hl => match us, hl with | [_, _, _, _], _ => rfl
 have K4 := aaI XX G xU
 have K5 := xV.binds (ps := ["found"]) fun _ _ _ _ _ _ us hl => match us, hl with | [_], _ => rfl
 have Qq := aaI XX G Bl
 have Qs := Bm.binds (ps := ["found", "due"]) fun _ _ _ _ _ _ us hl => match us, hl with | [_, _], _ => rfl
 have GW := aaI XX G sU
 have GX := sV.binds (ps := ["chart", "lists", "ways"]) fun _ _ _ _ _ _ us hl => match us, hl with | [_, _, _], _ => rfl
 have X3 := aaI XX G Cy
 have X4 := GJ.binds (ps := ["script"]) fun _ _ _ _ _ _ us hl => match us, hl with | [_], _ => rfl
 have K6 := aaI XX G wY
 have cY : uO K aj := ⟨sF, sG, sH, sJ⟩
 have xZ : uO K ((cl aj ao aG ay) "Chart") := by rw [fq]; exact cY
 have tT : aX K ((cl aj ao aG ay) "Chart") "boxes" := by rw [fq]; exact g9
 have tU : aX K ((cl aj ao aG ay) "Chart") "names" := by rw [fq]; exact ia
 have jq : aX K ((cl aj ao aG ay) "Chart") "tree" := by rw [fq]; exact jh
 have zR : aX K ((cl aj ao aG ay) "Chart") "ins" := by rw [fq]; exact jX
 have x6 : aX K ((cl aj ao aG ay) "Chart") "outs" := by rw [fq]; exact ji
 have jr : aX K ((cl aj ao aG ay) "Chart") "ways" := by rw [fq]; exact jk
 have Qt := aaI XX G Bb
 have fO : uO K ao := ⟨wZ, w4, w9, xg⟩
 have Br : uO K ((cl aj ao aG ay) "Tree") := by rw [lu]; exact fO
 have nX : aX K ((cl aj ao aG ay) "Tree") "kinds" := by rw [lu]; exact jl
 have iu : aX K ((cl aj ao aG ay) "Tree") "elders" := by rw [lu]; exact ic
 have lO : aX K ((cl aj ao aG ay) "Tree") "starts" := by rw [lu]; exact ig
 have lP := abi XX G GK
 have gf := abi XX G xW
 have MQ := abi XX G GL
 have K7 := abi XX G xX
 have zS := abi XX G sW
 have sY := abi XX G Bo
 have Uc := abi XX G GN
 have zT := abi XX G j3
 have Qu : ∃ u, mg "SIGN" = some (.int 1 u) := ⟨_, aaI XX G Bp⟩
 have GY : ∃ u, mg "SOURCE" = some (.int 0 u) := ⟨_, aaI XX G sX⟩
 have Qv : ∃ u, mg "ASKS" = some (.int 2 u) := ⟨_, aaI XX G Bq⟩
 have nY := abi XX G jo
 have Qw := abi XX G y_bool
 refine ⟨MP, [(aG, "_law_ways.<locals>.<lambda>"), (ay, "goable.<locals>.<lambda>")], ?tabs, ?bind, fun base kb _ bl => ?_⟩
 case tabs =>
   intro p hp
   simp only [aau, abH, or_false] at hp
   rcases hp with rfl | rfl
   . exact ⟨xP, by simp only [aaS, abF], xO, oQ, PySem.W.codeHd_of_K XX qI⟩
   . exact ⟨pA, by simp only [aaS, abF, beq_false_of_ne gH], pe, gG, PySem.W.codeHd_of_K XX ly⟩
 case bind =>
   obtain ⟨oc, od, kV, doc, pm, an, c6, ct, D4, rfl, lk, gI⟩ := GJ.ex
   exact fun s v => .of_eq rfl
 have K8 : bR l.prog w K mg base fQ 1 wJ _ ["cell", "salt"] (lF K (cl aj ao aG ay) 2 eL eN eO) := bH xo zk fun c6 Ar outer s H E b a hr hp => by
   obtain ⟨p0, p1⟩ := a; refine Jw ?_ p0 p1 hp
   exact ⟨⟨⟨zk.nd, rfl, rfl⟩, hr.units⟩, bE rT 0, bE rT 1, bE rT 2⟩
 have n5 := c7 K8 Ky xo.kp Kz
 have DR : bR l.prog w K mg base fQ 1 oR _ ["script", "k"] (lF K (cl aj ao aG ay) 2 dM dN dO) := bH oV rV fun c6 Ar outer s H E b a hr hp => by
   obtain ⟨p0, p1⟩ := a; refine DC ?_ p0 p1 hp
   exact ⟨⟨⟨rV.nd, rfl, rfl⟩, hr.units⟩, bE mh 0, bE mh 1, dX mh 2, lP⟩
 have lz := c7 DR DM oV.kp DN
 have K9 : bR l.prog w K mg base fQ 1 wK _ ["elders", "mood"] (lF K (cl aj ao aG ay) 2 iF gj iG) := bH xr zl fun c6 Ar outer s H E b a hr hp => by
   obtain ⟨p0, p1⟩ := a; refine Jy ?_ p0 p1 hp
   exact ⟨⟨⟨zl.nd, rfl, rfl⟩, hr.units⟩, bE m5 0, bE m5 1, bE m5 2, bE m5 3⟩
 have Cz := c7 K9 KC xr.kp KD
 have GZ : bR l.prog w K mg base fQ 2 sy _ ["script"] (lF K (cl aj ao aG ay) 1 iW iX iY) := bH sO ux fun c6 Ar outer s H E b a hr hp => by
   refine FY ?_ a hp
   exact ⟨⟨⟨ux.nd, rfl, rfl⟩, hr.units⟩, bE cR 0, bE cR 1, bE cR 2, bE cR 3, bE cR 4, bE cR 5, dX cR 6, dX cR 7, dX cR 8, dX cR 9, dX cR 10, d7 n5 hr, d7 lz hr, gf, d7 Cz hr, lP⟩
 have G0 := c7 GZ GO sO.kp GP
 have La : bR l.prog w K mg base fQ 3 wL _ ["script"] (lF K (cl aj ao aG ay) 1 ko kr ku) := bH xx zm fun c6 Ar outer s H E b a hr hp => by
   refine JA ?_ a hp
   exact ⟨⟨⟨zm.nd, rfl, rfl⟩, hr.units⟩, bE cy 0, D9 cy 1, cX cy 1 rfl, bE cy 2, bE cy 3, bE cy 4, D9 cy 5, cX cy 5 rfl, bE cy 6, bE cy 7, dX cy 8, dX cy 9, dX cy 10, dX cy 11, dX cy 12, d7 G0 hr, gf, lP, d7 n5 hr, d7 lz hr⟩
 have Lb := c7 La KG xx.kp KH
 have Lc : bR l.prog w K mg base fQ 1 wM _ ["lists"] (lF K (cl aj ao aG ay) 1 kB iI kC) := bH xB zo fun c6 Ar outer s H E b a hr hp => by
   obtain ⟨p0, p1, p2, p3⟩ := a; refine JD ?_ p0 p1 p2 p3 hp
   exact ⟨⟨⟨zo.nd, rfl, rfl⟩, hr.units⟩, bE iJ 0, bE iJ 1, bE iJ 2, bE iJ 3, dX iJ 4, dX iJ 5, gf, lP⟩
 have Ld := c7 Lc KJ xB.kp KL
 have G3 : bR l.prog w K mg base fQ 1 sA _ ["cell"] (lF K (cl aj ao aG ay) 1 i7 i9 ja) := bH sQ uz fun c6 Ar outer s H E b a hr hp => by
   refine F3 ?_ a hp
   exact ⟨⟨⟨uz.nd, rfl, rfl⟩, hr.units⟩, bE uy 0, bE uy 1⟩
 have G4 := c7 G3 GQ sQ.kp GR
 have Le : bR l.prog w K mg base fQ 2 wN _ ["script"] (lF K (cl aj ao aG ay) 1 kD kE kF) := bH xD zq fun c6 Ar outer s H E b a hr hp => by
   refine JG ?_ a hp
   exact ⟨⟨⟨zq.nd, rfl, rfl⟩, hr.units⟩, D9 iK 0, cX iK 0 rfl, bE iK 1, dX iK 2, dX iK 3, dX iK 4, d7 n5 hr, d7 lz hr, gf, d7 G4 hr⟩
 have Lf := c7 Le KN xD.kp KP
 have Qx : bR l.prog w K mg base fQ 1 A6 _ ["cell"] (lF K (cl aj ao aG ay) 1 m9 ng nh) := bH Bd B9 fun c6 Ar outer s H E b a hr hp => by
   refine Py ?_ a hp
   exact ⟨⟨⟨B9.nd, rfl, rfl⟩, hr.units⟩, bE kG 0, bE kG 1, bE kG 2, bE kG 3, bE kG 4, dX kG 5, gf⟩
 have Qy := c7 Qx Qi Bd.kp Qj
 have Lg : bR l.prog w K mg base fQ 2 wO _ ["script"] (lF K (cl aj ao aG ay) 1 kH kI kJ) := bH xF zu fun c6 Ar outer s H E b a hr hp => by
   refine JK ?_ a hp
   exact ⟨⟨⟨zu.nd, rfl, rfl⟩, hr.units⟩, bE ni 0, bE ni 1, dX ni 2, dX ni 3, d7 Qy hr, d7 lz hr⟩
 have Lh := c7 Lg KQ xF.kp KR
 have Li : bR l.prog w K mg base fQ 1 wQ _ ["cell"] (lF K (cl aj ao aG ay) 1 kK kL kM) := bH xH zx fun c6 Ar outer s H E b a hr hp => by
   refine JM ?_ a hp
   exact ⟨⟨⟨zx.nd, rfl, rfl⟩, hr.units⟩, bE zv 0, bE zv 1⟩
 have Lj := c7 Li KS xH.kp KW
 have Lk : bR l.prog w K mg base fQ 1 wR _ ["term", "boxes"] (lF K (cl aj ao aG ay) 2 kN kO kP) := bH xK zA fun c6 Ar outer s H E b a hr hp => by
   obtain ⟨p0, p1, p2⟩ := a; refine JQ ?_ p0 p1 p2 hp
   exact ⟨⟨⟨zA.nd, rfl, rfl⟩, hr.units⟩, bE zy 0, bE zy 1⟩
 have Lp := c7 Lk KY xK.kp KZ
 have Ud : bR l.prog w K mg base fQ 1 Gr _ ["mark", "one", "other"] (lF K (cl aj ao aG ay) 3 qy qz qA) := bH GB F7 fun c6 Ar outer s H E b a hr hp => by
   obtain ⟨p0, p1, p2⟩ := a; refine Tr ?_ p0 p1 p2 hp
   exact ⟨⟨⟨F7.nd, rfl, rfl⟩, hr.units⟩, bE AU 0, bE AU 1, bE AU 2⟩
 have Ue := c7 Ud T6 GB.kp T7
 have Ug : bR l.prog w K mg base fQ 2 Gs _ ["cell", "opens", "many", "boxes"] (lF K (cl aj ao aG ay) 4 qB nj qC) := bH GD Gd fun c6 Ar outer s H E b a hr hp => by
   obtain ⟨p0, p1, p2, p3⟩ := a; refine Tw ?_ p0 p1 p2 p3 hp
   exact ⟨⟨⟨Gd.nd, rfl, rfl⟩, hr.units⟩, bE cS 0, bE cS 1, bE cS 2, bE cS 3, bE cS 4, D9 cS 5, cX cS 5 rfl, bE cS 6, bE cS 7, bE cS 8, D9 cS 9, cX cS 9 rfl, D9 cS 10, cX cS 10 rfl, bE cS 11, dX cS 12, dX cS 13, dX cS 14, dX cS 15, dX cS 16, d7 n5 hr, MQ, lP, d7 Lj hr, d7 Lp hr, d7 Ue hr⟩
 have Uh := c7 Ug T8 GD.kp T9
 have Ui : bR l.prog w K mg base fQ 3 Gu _ ["cell", "opens", "many", "boxes", "three"] (lF K (cl aj ao aG ay) 5 qD ny qE) := bH GH Gf fun c6 Ar outer s H E b a hr hp => by
   obtain ⟨p0, p1, p2, p3, p4⟩ := a; refine TH ?_ p0 p1 p2 p3 p4 hp
   exact ⟨⟨⟨Gf.nd, rfl, rfl⟩, hr.units⟩, bE dP 0, bE dP 1, bE dP 2, bE dP 3, bE dP 4, bE dP 5, bE dP 6, bE dP 7, bE dP 8, bE dP 9, bE dP 10, bE dP 11, dX dP 12, dX dP 13, dX dP 14, dX dP 15, dX dP 16, d7 n5 hr, lP, gf, d7 Uh hr, K7⟩
 have Uj := c7 Ui Ua GH.kp Ub
 have Qz : bR l.prog w K mg base fQ 4 A7 _ ["script", "opens", "many", "boxes", "three"] (lF K (cl aj ao aG ay) 5 nA jN nB) := za Bf Ck fun c6 Ar outer s H E b a gI hr hp => by
   obtain ⟨p0, p1, p2, p3, p4⟩ := a; refine PJ ?_ p0 p1 p2 p3 p4 hp
   exact ⟨⟨⟨Ck.nd, rfl, rfl⟩, hr.units⟩, bE fc 0, D9 fc 1, cX fc 1 rfl, D9 fc 2, cX fc 2 rfl, D9 fc 3, cX fc 3 rfl, D9 fc 4, cX fc 4 rfl, bE fc 5, dX fc 6, zS, d7 Uj hr, S9 bl kb gI xM (by rw [uD]; exact qI) (by rw [uD]; exact xN), BW hr, hr⟩
 have QB := c7 Qz Qk Bf.kp Ql
 have zU : bR l.prog w K mg base fQ 1 gS _ ["self", "kinds", "elders", "starts"] (Sx K (cl aj ao aG ay) "Tree" 4 lJ lK lM) := BH pR nE fun c6 Ar outer s H E b a y hr hp => by
   obtain ⟨p0, p1, p2⟩ := a; refine zC ?_ p0 p1 p2 y hp
   exact ⟨⟨⟨nE.nd, rfl, rfl⟩, hr.units⟩, bE fh 0, bE fh 1, bE fh 2, bE fh 3, dX fh 4, sY, Br, nX, iu, lO⟩
 have x8 : bR l.prog w K mg base fQ 1 gb _ ["self", "boxes", "names", "tree", "ins", "outs", "ways"] (Sx K (cl aj ao aG ay) "Chart" 7 jP jQ jR) := BH nW lN fun c6 Ar outer s H E b a y hr hp => by
   obtain ⟨p0, p1, p2, p3, p4, p5⟩ := a; refine v7 ?_ p0 p1 p2 p3 p4 p5 y hp
   exact ⟨⟨⟨lN.nd, rfl, rfl⟩, hr.units⟩, bE cj 0, bE cj 1, bE cj 2, bE cj 3, bE cj 4, bE cj 5, bE cj 6, dX cj 7, sY, xZ, tT, tU, jq, zR, x6, jr⟩
 have Lq : bR l.prog w K mg base fQ 3 wU _ ["lists", "boxes", "ways"] (lF K (cl aj ao aG ay) 3 kR iM kT) := bH xR zG fun c6 Ar outer s H E b a hr hp => by
   obtain ⟨p0, p1, p2, p3, p4, p5⟩ := a; refine J2 ?_ p0 p1 p2 p3 p4 p5 hp
   exact ⟨⟨⟨zG.nd, rfl, rfl⟩, hr.units⟩, bE dQ 0, bE dQ 1, bE dQ 2, bE dQ 3, bE dQ 4, bE dQ 5, dX dQ 6, dX dQ 7, dX dQ 8, dX dQ 9, dX dQ 10, gf, lP, ⟨⟨_, _, _, by rw [lu]; exact ⟨xh, jY, jZ, xj⟩, zU, by rw [lu]; exact Qt, zQ⟩, hr.mono (by decide)⟩, sY, ⟨⟨_, _, _, by rw [fq]; exact ⟨sL, jm, jn, sM⟩, x8, by rw [fq]; exact K6, xY⟩, hr.mono (by decide)⟩, Uc⟩
 have Lr := c7 Lq K0 xR.kp K1
 have DS : bR l.prog w K mg base fQ 1 oS _ ["asks", "opens"] (lF K (cl aj ao aG ay) 2 gP fK gQ) := bH oX sj fun c6 Ar outer s H E b a hr hp => by
   obtain ⟨p0, p1⟩ := a; refine DF ?_ p0 p1 hp
   exact ⟨⟨⟨sj.nd, rfl, rfl⟩, hr.units⟩, bE mz 0, bE mz 1, bE mz 2⟩
 have DT := c7 DS DP oX.kp DQ
 have QC : bR l.prog w K mg base fQ 2 A8 _ ["ways", "opens", "chain", "sign"] (lF K (cl aj ao aG ay) 4 nG jS nI) := bH Bh Cp fun c6 Ar outer s H E b a hr hp => by
   obtain ⟨p0, p1, p2, p3⟩ := a; refine PX ?_ p0 p1 p2 p3 hp
   exact ⟨⟨⟨Cp.nd, rfl, rfl⟩, hr.units⟩, bE fF 0, bE fF 1, bE fF 2, bE fF 3, bE fF 4, bE fF 5, bE fF 6, dX fF 7, dX fF 8, dX fF 9, gf, lP, d7 DT hr⟩
 have QD := c7 QC Qm Bh.kp Qn
 have Ls : bR l.prog w K mg base fQ 1 wV _ ["tree", "mood"] (lF K (cl aj ao aG ay) 2 kX iN kY) := bH xT zI fun c6 Ar outer s H E b a hr hp => by
   obtain ⟨p0, p1, p2, p3⟩ := a; refine J4 ?_ p0 p1 p2 p3 hp
   exact ⟨⟨⟨zI.nd, rfl, rfl⟩, hr.units⟩, bE nJ 0, bE nJ 1, bE nJ 2, bE nJ 3, Br, iu⟩
 have Lv := c7 Ls K2 xT.kp K3
 have QF : bR l.prog w K mg base fQ 1 A9 _ ["asks", "opens"] (lF K (cl aj ao aG ay) 2 nK jU nL) := bH Bk Cq fun c6 Ar outer s H E b a hr hp => by
   obtain ⟨p0, p1⟩ := a; refine PZ ?_ p0 p1 hp
   exact ⟨⟨⟨Cq.nd, rfl, rfl⟩, hr.units⟩, bE wk 0, bE wk 1, bE wk 2⟩
 have QG := c7 QF Qo Bk.kp Qp
 have G5 : bR l.prog w K mg base fQ 2 sC _ ["chart", "opens", "leaf", "sign"] (lF K (cl aj ao aG ay) 4 jd fB gE) := za sS uB fun c6 Ar outer s H E b a gI hr hp => by
   obtain ⟨p0, p1, p2, p3, p4, p5, p6, p7, p8, p9, ZT⟩ := a; refine Gj ?_ p0 p1 p2 p3 p4 p5 p6 p7 p8 p9 ZT hp
   exact ⟨⟨⟨uB.nd, rfl, rfl⟩, hr.units⟩, D9 bG 0, cX bG 0 rfl, bE bG 1, bE bG 2, bE bG 3, bE bG 4, bE bG 5, bE bG 6, D9 bG 7, cX bG 7 rfl, dX bG 8, dX bG 9, dX bG 10, dX bG 11, dX bG 12, dX bG 13, dX bG 14, d7 Lv hr, zT, Qu, GY, d7 QG hr, Qv, zS, xZ, jr, jq, S9 bl kb gI oY (by rw [pQ]; exact ly) (by rw [pQ]; exact oZ), BW hr, hr⟩
 have G6 := c7 G5 GU sS.kp GV
 have Lw : bR l.prog w K mg base fQ 1 wW _ ["found"] (lF K (cl aj ao aG ay) 1 kZ k6 k7) := bH xV zM fun c6 Ar outer s H E b a hr hp => by
   refine J7 ?_ a hp
   exact ⟨⟨⟨zM.nd, rfl, rfl⟩, hr.units⟩, bE nP 0, dX nP 1, dX nP 2, dX nP 3, nY, MQ, Qw⟩
 have Lx := c7 Lw K4 xV.kp K5
 have QH : bR l.prog w K mg base fQ 2 Ba _ ["found", "due"] (lF K (cl aj ao aG ay) 2 nQ nR nS) := bH Bm Cr fun c6 Ar outer s H E b a hr hp => by
   obtain ⟨p0, p1⟩ := a; refine Qa ?_ p0 p1 hp
   exact ⟨⟨⟨Cr.nd, rfl, rfl⟩, hr.units⟩, bE gR 0, bE gR 1, bE gR 2, dX gR 3, dX gR 4, dX gR 5, dX gR 6, dX gR 7, nY, sY, lP, gf, d7 Lx hr⟩
 have QI := c7 QH Qq Bm.kp Qs
 have G7 : bR l.prog w K mg base fQ 1 sE _ ["chart", "lists", "ways"] (lF K (cl aj ao aG ay) 3 jf gF jg) := bH sV uC fun c6 Ar outer s H E b a hr hp => by
   obtain ⟨p0, p1, p2, p3, p4, p5, p6, p7, p8⟩ := a; refine Gm ?_ p0 p1 p2 p3 p4 p5 p6 p7 p8 hp
   exact ⟨⟨⟨uC.nd, rfl, rfl⟩, hr.units⟩, bE k8 0, bE k8 1, bE k8 2, bE k8 3, xZ, Br, jq, jr, nX, iu, lO⟩
 have G8 := c7 G7 GW sV.kp GX
 have Uk : bR l.prog w K mg base fQ 5 _ _ ["script"] (lF K (cl aj ao aG ay) 1 k9 lg lq) := bH GJ Gq fun c6 Ar outer s H E b a hr hp => by
   refine TX ?_ a hp
   exact ⟨⟨⟨Gq.nd, rfl, rfl⟩, hr.units⟩, bE bW 0, bE bW 1, bE bW 2, bE bW 3, bE bW 4, bE bW 5, bE bW 6, bE bW 7, bE bW 8, bE bW 9, bE bW 10, bE bW 11, bE bW 12, dX bW 13, dX bW 14, dX bW 15, dX bW 16, dX bW 17, dX bW 18, dX bW 19, dX bW 20, dX bW 21, dX bW 22, dX bW 23, dX bW 24, dX bW 25, d7 Lb hr, d7 Ld hr, d7 Lf hr, d7 Lh hr, d7 QB hr, lP, d7 Lr hr, d7 Cz hr, sY, d7 QD hr, d7 G6 hr, d7 QI hr, d7 G8 hr⟩
 exact Uk.imp (Jd (fun _ => rfl) (fun _ => rfl) fun x hx h0 => Kf hx h0)
theorem walk {l : PySem.W.OpenLaw} {q : Program} {loose : List Str} {XP : (Str -> Option Value) -> Heap -> Prop} {YP : World -> Heap -> Prop} {d : DefRec} {K : Params -> PySem.W.Frag} {T0 : List Addr} (hn : l.most = some 63) (R9 : d.params.defaults = [])
   (hY : ∀ (w : World) (h : Heap), YP w h -> (K w.params).In h) (hT : ∀ (w : World) (h : Heap), YP w h -> ∀ P ∈ T0, h.get? P = some (PySem.W.tabObj #[]))
   (F : ∀ (w : World) (mg : Str -> Option Value) (fa : Addr) (h : Heap), (K w.params).In h -> h.Ns mainGlobals mg -> mg d.name = some (.ref fa) →
     ∃ (fd : FuncData) (ts : List (Addr × Str)), (∀ p ∈ ts, p.1 ∈ T0 /\ ts.lookup p.1 = some p.2 /\ (K w.params).lookup p.1 = none /\ ∃ c, PySem.W.CodeHd h c p.1) /\ (∀ (s : Shared) (u : Value), BindsTo s fd ⟨[u], []⟩ [("script", u)]) /\ ∀ base : Heap, (K w.params).In base -> base.Ns mainGlobals mg -> rD mg base -> bR l.prog w (K w.params) mg base fQ 5 fa fd ["script"] (spT (K w.params) ts 1 k9 lg lq)) :
   PySem.W.WalkO q loose XP YP l.row.toRowW d [] (fun f vs => PySem.call f vs) :=
 Ft (n := 63) (k := 5) (x := "script") (sp := fun w ts => spT (K w.params) ts 1 k9 lg lq) hn (by decide) R9 ⟨rfl, by decide, by decide⟩ hY hT F (fun _ _ _ a ns hl hS ht => Je rfl hl rfl hS ht)
end Law
open PySem PySem.W PyProof.Rows
set_option maxRecDepth 100000 in
set_option maxHeartbeats 0 in
theorem PySem.Challenge.cw_moodtree_k31_what_a_leaf_may_go_holds : PySem.Challenge.rw_moodtree_k31_what_a_leaf_may_go.Holds := by
 w_on; o_law; k_head; (case hw => w_witness2)
 k_fill
 refine Law.walk (l := PySem.Challenge.rw_moodtree_k31_what_a_leaf_may_go) rfl rfl (fun w h Y => PySem.W.km_in_of Y) (fun w h Y => PySem.W.km_tabs_of Y) ?F
 case F =>
   intro w mg fa h KX G Sb
   refine' Law.all_mk KX G Sb ?wY ?sF ?sG ?sH ?sJ ?sL ?sM ?g9 ?ia ?jh ?jX ?ji ?jk ?Bb ?wZ ?w4 ?w9 ?xg ?xh ?xj ?jl ?ic ?ig ?xm (L2.bM ?aK ?Ly ?Lz) ?oU (L2.bM ?DU ?DV ?DW) ?xq (L2.bM ?kW ?LC ?LD) ?sN (L2.bM ?bV ?G9 ?rX) ?xu (L2.bM ?bQ ?LJ ?LK) ?xA (L2.bM ?aQ ?LN ?vX) ?sP (L2.bM ?nO ?Hf ?Hg) ?xC (L2.bM ?bY ?LQ ?vY) ?Bc (L2.bM ?g6 ?QJ ?QK) ?xE (L2.bM ?LR ?LV ?LW) ?xG (L2.bM ?LX ?LY ?LZ) ?xJ (L2.bM ?L0 ?L1 ?L4) ?GA (L2.bM ?nT ?Ul ?Um) ?GC (L2.bM ?fL ?Uo ?Up) ?GF (L2.bM ?uA ?Uq ?Ur) ?Be (L2.bM ?cT ?QL ?QM) ?xM ?Cv ?Cw ?qI ?xN ?xO ?xP ?jY ?jZ (L2.bM ?zV ?zW ?zX) ?jm ?jn (L2.bM ?x9 ?yb ?yc) ?xQ (L2.bM ?dW ?L5 ?wm) ?oW (L2.bM ?DX ?DY ?DZ) ?Bg (L2.bM ?QN ?QO ?QS) ?xS (L2.bM ?L6 ?L7 ?L8) ?Bj (L2.bM ?QT ?QV ?QW) ?sR (L2.bM ?Hh ?Hi ?Hj) ?oY ?uF ?uG ?ly ?oZ ?pe ?pA ?xU (L2.bM ?Ma ?Mb ?k_whole) ?Bl (L2.bM ?QX ?QY ?k_same) ?sU (L2.bM ?Hl ?Ho ?Hq) ?Cy (L2.bM ?Us ?Ut ?Uu) ?GK ?xW ?GL ?xX ?sW ?Bo ?GN ?j3 ?Bp ?sX ?Bq ?jo ?y_bool ?gH
   case wY | sF | sG | sH | sJ | sL | sM | g9 | ia | jh | jX | ji | jk | Bb | wZ | w4 | w9 | xg | xh | xj | jl | ic | ig | xm | aK | Ly | Lz | oU | DU | DV | DW | xq | kW | LC | LD | sN | bV | G9 | rX | xu | bQ | LJ | LK | xA | aQ | LN | vX | sP | nO | Hf | Hg | xC | bY | LQ | vY | Bc | g6 | QJ | QK | xE | LR | LV | LW | xG | LX | LY | LZ | xJ | L0 | L1 | L4 | GA | nT | Ul | Um | GC | fL | Uo | Up | GF | uA | Uq | Ur | Be | cT | QL | QM => k_is
   case xM => exact rfl
   case Cv => k_is
   case Cw => exact rfl
   case qI => kernel_rfl
   case xN => decide
   case xO => kernel_rfl
   case xP => decide
   case jY | jZ | zV | zW | zX | jm | jn | x9 | yb | yc | xQ | dW | L5 | wm | oW | DX | DY | DZ | Bg | QN | QO | QS | xS | L6 | L7 | L8 | Bj | QT | QV | QW | sR | Hh | Hi | Hj => k_is
   case oY => exact rfl
   case uF => k_is
   case uG => exact rfl
   case ly => kernel_rfl
   case oZ => decide
   case pe => kernel_rfl
   case pA => decide
   case xU | Ma | Mb | k_whole | Bl | QX | QY | k_same | sU | Hl | Ho | Hq | Cy | Us | Ut | Uu | GK | xW | GL | xX | sW | Bo | GN | j3 | Bp | sX | Bq | jo | y_bool => k_is
   case gH => decide
