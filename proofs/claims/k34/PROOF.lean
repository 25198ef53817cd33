import PyProof.Rows.All
import Wide.All
import OpenK.AllK
import Wide.FinOn
import Lean
import PyProof.EqAt
import PyProof.EqKinds
import PyProof.TupleCall
import PySem.Challenge.RW_moodtree_k34_ways_that_meet
set_option Elab.async false
set_option linter.all false
set_option maxRecDepth 100000
set_option maxHeartbeats 4000000
namespace L2
open PySem PySem.Spec PyProof.Rows
abbrev aaD := @List.mem_append_right
abbrev aaE := @if_neg
abbrev aaF := @if_pos
abbrev aaG := @List.append_assoc
abbrev aaH := @List.mem_cons
abbrev aaI := @Nat.le_refl
abbrev aaJ := @Nat.le_of_ble_eq_true
abbrev aaK := @List.length_map
abbrev aaL := @Bool.false_ne_true
abbrev aaM := @List.mem_cons_of_mem
abbrev aaN := @Heap.get?_push_of_some
abbrev aaO := @wpAny_bind
abbrev aaP := @List.mem_cons_self
abbrev aaQ := @Int.emod_lt_of_pos
abbrev aaR := @PySem.W.mg_of
abbrev aaS := @List.mem_append
abbrev aaT := @Heap.lt_size
abbrev aaU := @Int.emod_nonneg
abbrev aaV := @of_decide_eq_false
abbrev aaW := @List.getD_eq_getElem?_getD
abbrev aaX := @List.mem_append_left
abbrev aaY := @Option.some.inj
abbrev aaZ := @List.length_cons
abbrev aa0 := @List.size_toArray
abbrev aa1 := @List.length_append
abbrev aa2 := @of_decide_eq_true
abbrev aa3 := @List.getElem?_eq_getElem
abbrev aa4 := @List.getElem?_eq_some_iff
abbrev aa5 := @Nat.lt_of_lt_of_le
abbrev aa6 := @List.cons_append
abbrev aa7 := @List.lookup_cons
abbrev aa8 := @List.map_cons
abbrev aa9 := @Heap.get?_push_size
abbrev abb := @List.Sublist.refl
abbrev abd := @List.Sublist.append
abbrev abe := @sizeLine_eq
abbrev abf := @Nat.zero_le
abbrev abg := @List.mem_map
abbrev abh := @Nat.ne_of_lt
abbrev abi := @List.mem_singleton
abbrev abj := @decide_eq_false
abbrev abk := @wpAny_pure
abbrev abl := @List.perm_append_comm
abbrev abm := @List.nodup_append
abbrev abn := @List.getElem?_map
abbrev abo := @Nat.le_trans
abbrev abp := @wpS_bind
abbrev abq := @List.append_nil
abbrev abr := @List.Perm.append_left
abbrev abt := @Bool.and_eq_true
abbrev abu := @List.mem_of_getElem?
abbrev abv := @Bool.false_eq_true
abbrev abw := @Int.toNat_natCast
abbrev abx := @List.map_map
abbrev aby := @PySem.mem_of_lookup
abbrev abz := @PySem.W.mg_none_of
abbrev abA := @List.filterMap_cons
abbrev abB := @wpS_pure
abbrev abC := @List.sublist_append_right
abbrev abD := @List.replicate_succ
abbrev abE := @Nat.le_of_lt
abbrev abF := @wpAny_mono
abbrev abG := @List.getElem?_append_right
abbrev abH := @List.length_replicate
abbrev abI := @List.length_nil
abbrev abJ := @Int.zero_add
abbrev abK := @Array.length_toList
abbrev abL := @List.mem_range
abbrev abM := @List.nodup_nil
abbrev abN := @List.all_eq_true
abbrev abO := @List.not_mem_nil
abbrev abP := @wpAny_Call_Name_kw
abbrev abQ := @List.pairwise_cons
abbrev abR := @List.mem_filter
abbrev abS := @wpAny_passesOwn
abbrev abT := @List.nodup_cons
abbrev abU := @if_false
abbrev abV := @List.flatten_cons
abbrev abW := @List.reverse_cons
abbrev abX := @decide_eq_true_eq
abbrev abY := @List.take_add_one
abbrev abZ := @List.getElem_mem
abbrev ab0 := @List.getElem?_range
abbrev ab1 := @wpAny_getItem_str_slice
abbrev ab2 := @PySem.W.kia_one
abbrev ab3 := @List.ext_getElem?
abbrev ab4 := @if_true
abbrev ab5 := @decide_eq_true
abbrev ab6 := @List.getElem?_eq_none
abbrev ab7 := @Array.getElem?_toList
abbrev ab8 := @PyProof.Rows.callWith_type1
abbrev ab9 := @beq_self_eq_true
abbrev acd := @Nat.lt_irrefl
abbrev ace := @beq_eq_false_iff_ne
abbrev acf := @List.getElem?_append_left
abbrev acg := @List.drop_eq_getElem_cons
abbrev ach := @List.nil_append
abbrev aci := @List.range_succ
abbrev acj := @wpS_forRange
abbrev ack := @List.find?_eq_none
abbrev acm := @List.Perm.refl
abbrev acn := @wpAny_truthy_bool
abbrev aco := @wpAny_holding
abbrev Key := Sum Int Str
def MH : Key -> Value -> Bool
 | .inl k, v => Value.isInt k v
 | .inr x, v => Value.isStrOf x v
def Vp (w : World) : Key -> Int
 | .inl k => hashInt k
 | .inr x => hashStr w x
theorem cG : ∀ {k : Key} {v : Value}, MH k v = true -> (∃ i t, k = Sum.inl i /\ v = Value.int i t) \/ (∃ x t, k = Sum.inr x /\ v = Value.str x t)
 | .inl i, v, h => by
   obtain ⟨t, e⟩ := Value.isInt_shape (k := i) (v := v) h
   exact .inl ⟨i, t, rfl, e⟩
 | .inr x, v, h => by
   obtain ⟨t, e⟩ := Value.isStrOf_shape (x := x) (v := v) h
   exact .inr ⟨x, t, rfl, e⟩
theorem Nu (a b : Int) : decide ((Sum.inl a : Key) = Sum.inl b) = (a == b) := by
 by_cases e : a = b
 . subst e; simp
 . have h : ¬ (Sum.inl a : Key) = Sum.inl b := fun q => e (Sum.inl.inj q)
   rw [abj h]
   exact (ace.mpr e).symm
theorem Nv (a b : Str) : decide ((Sum.inr a : Key) = Sum.inr b) = decide (a = b) := by
 by_cases e : a = b
 . subst e; simp
 . have h : ¬ (Sum.inr a : Key) = Sum.inr b := fun q => e (Sum.inr.inj q)
   rw [abj h, abj e]
theorem Nx (a : Int) (b : Str) : decide ((Sum.inl a : Key) = Sum.inr b) = false := abj (fun q => nomatch q)
theorem Ny (a : Str) (b : Int) : decide ((Sum.inr a : Key) = Sum.inl b) = false := abj (fun q => nomatch q)
def BQ (prog : Program) (w : World) : PySem.KeyKind prog w Key where
 is := MH
 hash := Vp w
 inj := fun v a b ha hb => by
   rcases cG ha with ⟨i, t, rfl, rfl⟩ | ⟨x, t, rfl, rfl⟩
   . rcases cG hb with ⟨j, u, rfl, e⟩ | ⟨y, u, rfl, e⟩
     . injection e with e1 _; rw [e1]
     . exact nomatch e
   . rcases cG hb with ⟨j, u, rfl, e⟩ | ⟨y, u, rfl, e⟩
     . exact nomatch e
     . injection e with e1 _; rw [e1]
 byValue := fun k v h => by
   rcases cG h with ⟨i, t, rfl, rfl⟩ | ⟨x, t, rfl, rfl⟩ <;> rfl
 pyHash := fun hv h => by
   rcases cG hv with ⟨i, t, rfl, rfl⟩ | ⟨x, t, rfl, rfl⟩
   . exact wpAny_pyHash_int h
   . exact wpAny_pyHash_str h
 eqBool := fun hu hv h => by
   rcases cG hu with ⟨i, t, rfl, rfl⟩ | ⟨x, t, rfl, rfl⟩
   . rcases cG hv with ⟨j, u, rfl, rfl⟩ | ⟨y, u, rfl, rfl⟩
     . rw [Nu] at h; exact wpAny_eqBool_int h
     . rw [Nx] at h; exact SeqAt.EqAt.int_str i t y u _ _ _ _ h
   . rcases cG hv with ⟨j, u, rfl, rfl⟩ | ⟨y, u, rfl, rfl⟩
     . rw [Ny] at h; exact SeqAt.EqAt.str_int x t j u _ _ _ _ h
     . rw [Nv] at h; exact wpAny_eqBool_str h
 «strs» := fun k x t v h => by
   rcases cG h with ⟨i, u, rfl, e⟩ | ⟨y, u, rfl, e⟩
   . exact nomatch e
   . injection e with e1 _
     subst e1
     cases v <;> rfl
inductive V where
 | non | bl (b : Bool) | int (i : Int) | str (x : Str) | Ek (b : Array UInt8) | UN (b : UInt64) | ref (a : Addr) | ty (n : String)
 deriving DecidableEq
def RelV : V -> Value -> Prop
 | .non, u => u = Value.none
 | .bl b, u => u = Value.bool b
 | .int i, u => ∃ t, u = Value.int i t
 | .str x, u => ∃ t, u = Value.str x t
 | .Ek b, u => ∃ t, u = Value.bytes b t
 | .UN b, u => ∃ t, u = Value.float b t
 | .ref a, u => u = Value.ref a
 | .ty n, u => u = Value.type n
abbrev Vals : List V -> List Value -> Prop := Paired RelV
theorem Vals.length {xs : List V} {us : List Value} (r : Vals xs us) : xs.length = us.length := Paired.length r
theorem Vals.get : ∀ {xs : List V} {us : List Value} {i : Nat} {x : V}, Vals xs us -> xs[i]? = some x -> ∃ u, us[i]? = some u /\ RelV x u
 | _, _, _, _, .nil, e => by simp at e
 | _, _, 0, _, .cons r _, e => by simp at e; subst e; exact ⟨_, rfl, r⟩
 | _, _, i + 1, x, .cons _ t, e => by
   obtain ⟨u, h1, h2⟩ := Vals.get (i := i) (x := x) t (by simpa using e)
   exact ⟨u, by simpa using h1, h2⟩
theorem Vals.set {x : V} {u : Value} (r : RelV x u) : ∀ {xs : List V} {us : List Value} (i : Nat), Vals xs us -> Vals (xs.set i x) (us.set i u)
 | _, _, _, .nil => .nil
 | _, _, 0, .cons _ t => .cons r t
 | _, _, i + 1, .cons q t => .cons q (Vals.set r i t)
theorem Vals.append : ∀ {xs ys : List V} {us ws : List Value}, Vals xs us -> Vals ys ws -> Vals (xs ++ ys) (us ++ ws)
 | _, _, _, _, .nil, s => s
 | _, _, _, _, .cons r t, s => .cons r (Vals.append t s)
theorem Vals.take : ∀ {xs : List V} {us : List Value} (n : Nat), Vals xs us -> Vals (xs.take n) (us.take n)
 | _, _, 0, _ => .nil
 | _, _, _ + 1, .nil => .nil
 | _, _, n + 1, .cons r t => .cons r (Vals.take n t)
theorem Vals.drop : ∀ {xs : List V} {us : List Value} (n : Nat), Vals xs us -> Vals (xs.drop n) (us.drop n)
 | _, _, 0, r => r
 | _, _, _ + 1, .nil => .nil
 | _, _, n + 1, .cons _ t => Vals.drop n t
def AH : Option V -> Option Value -> Prop
 | some v, some u => RelV v u
 | none, none => True
 | _, _ => False
def KV {κ : Type} : List (κ × V) -> List (κ × Value) -> Prop := Paired fun (p : κ × V) (q : κ × Value) => p.1 = q.1 /\ RelV p.2 q.2
def kV : Key -> V
 | .inl i => .int i
 | .inr x => .str x
inductive HO where
 | lst (xs : List V)
 | tup (xs : List V)
 | dK (kH : List (Key × V)) | dT (kH : List (List Key × V))
 | set (S : Int -> Bool) (n : Nat)
 | ins (C dx : Addr) (fs : List (Str × V))
 | own (x : Addr)
 | xd (fs : List (Str × V))
 | met (f x : Addr)
 | Vq (lo hi : Int)
 | cW (o : Obj) (u : HO)
 | Nz (ps : Array Value)
 | tabs (q : Str)
 | CY (q : Str)
 | ext (φ : Heap -> Prop)
abbrev Hp := Addr -> Option HO
def upd (H : Hp) (a : Addr) (o : HO) : Hp := fun b => if b = a then some o else H b
theorem aN {H : Hp} {a : Addr} {o : HO} : upd H a o a = some o := by unfold upd; rw [aaF rfl]
theorem av {H : Hp} {a b : Addr} {o : HO} (h : b ≠ a) : upd H a o b = H b := by unfold upd; rw [aaE h]
theorem aC {H : Hp} {a b : Addr} {o : HO} (h : H a = some o) (h' : H b = none) : a ≠ b := by
 intro e; subst e; rw [h] at h'; cases h'
section
variable (P : Program) (w : World)
def fP (H : Hp) (h : Heap) (a : Addr) : HO -> Prop
 | .lst xs => xs.length <= sizeLine /\ ∃ (its : List Value) (n : Nat), Vals xs its /\ h.get? a = some { cls := .type "list", data := .seq its.toArray n }
 | .tup xs => xs.length <= sizeLine /\ ∃ its : List Value, Vals xs its /\ IsTup h a its.toArray
 | .dK kH => kH.length <= sizeLine /\ (a == sysModules) = false /\ ∃ vs, KV kH vs /\ h.DictOf (BQ P w) a vs
 | .dT kH => kH.length <= sizeLine /\ (a == sysModules) = false /\ ∃ xs : List (List Key × Addr × Value),
     Paired (fun (p : List Key × V) (q : List Key × Addr × Value) => p.1 = q.1 /\ H q.2.1 = some (.tup (p.1.map kV)) /\ RelV p.2 q.2.2) kH xs ∧
     ∃ o es ep, h.get? a = some o /\ o.ExactDict /\ o.data = .dict es ep /\ es.toList = xs.map (entryOfKey (tupleKind (BQ P w))) /\ (xs.map (·.1)).Nodup
 | .set S n => h.SetOf (intKind P w) a S n
 | .ins C dx fs => H dx = some (.own a) /\ fs.length <= 1000 /\ dx ≠ a /\ h.get? a = some (PySem.W.instObj C dx) ∧
     ∃ mA, h.Ns1 dx mA /\ (∀ f, AH (fs.lookup f) (mA f)) /\ PySem.Within mA (fs.map (·.1))
 | .own _ => ∃ o, h.get? a = some o
 | .xd fs => ∃ mA, h.Ns1 a mA /\ ∀ f, AH (fs.lookup f) (mA f)
 | .Vq lo hi => ∃ t u v, h.get? a = some { cls := .type "range", data := .fields #[.int lo t, .int hi u, .int 1 v] }
 | .cW o u => h.get? a = some o /\ fP H h a u
 | .Nz ps => h.get? a = some { cls := .none, data := .fields ps }
 | .tabs q => ∃ ps : Array Value, h.get? a = some { cls := .none, data := .fields ps } /\ TriplesOk ps.toList /\ ∀ pos cv, codeAmong pos ps.toList = some cv -> ∃ c, cv = .ref c /\ H c = some (.CY q)
 | .CY q => ∃ o vs t, h.get? a = some o /\ o.data = .fields vs /\ vs[1]? = some (.str q t)
 | .met f x => h.get? a = some (PySem.W.methodObj (.ref f) (.ref x))
 | .ext φ => φ h /\ (∃ o, h.get? a = some o) /\ ∀ h1 h2 : Heap, φ h1 -> (∀ o, h1.get? a = some o -> h2.get? a = some o) -> φ h2
def qg (H : Hp) (h : Heap) : Prop := ∀ a o, H a = some o -> fP P w H h a o
end
section
variable {P : Program} {w : World} {H H' : Hp} {h h' : Heap} {a : Addr} {o : HO}
theorem fP.lt (x : fP P w H h a o) : a < h.objs.size := by
 cases o with
 | lst xs => obtain ⟨_, _, _, _, e⟩ := x; exact aaT e
 | tup xs => obtain ⟨_, _, _, p⟩ := x; exact p.lt
 | dK kH => obtain ⟨_, _, _, _, o, _, _, e, _⟩ := x; exact aaT e
 | dT kH => obtain ⟨_, _, _, _, o, _, _, e, _⟩ := x; exact aaT e
 | set S n => obtain ⟨o, _, _, _, e, _⟩ := x; exact aaT e
 | ins C dx fs => obtain ⟨_, _, _, e, _⟩ := x; exact aaT e
 | own y => obtain ⟨_, e⟩ := x; exact aaT e
 | xd fs => obtain ⟨_, ⟨_, _, _, e, _⟩, _⟩ := x; exact aaT e
 | Vq lo hi => obtain ⟨_, _, _, e⟩ := x; exact aaT e
 | cW ob u => obtain ⟨e, _⟩ := x; exact aaT e
 | Nz ps => exact aaT (show h.get? a = some _ from x)
 | tabs q => obtain ⟨_, e, _⟩ := x; exact aaT e
 | CY q => obtain ⟨_, _, _, e, _⟩ := x; exact aaT e
 | met f y => exact aaT (show h.get? a = some _ from x)
 | ext φ => obtain ⟨_, ⟨_, e⟩, _⟩ := x; exact aaT e
theorem Paired.Rt {α β : Type} {F G : α -> β -> Prop} : ∀ {l₁ : List α} {l₂ : List β}, Paired F l₁ l₂ -> (∀ a b, F a b -> G a b) -> Paired G l₁ l₂
 | _, _, .nil, _ => .nil
 | _, _, .cons r t, f => .cons (f _ _ r) (Paired.Rt t f)
theorem fP.yE (x : fP P w H h a o) (k : ∀ b u, (b = a \/ H b = some (.own a)) -> h.get? b = some u -> h'.get? b = some u)
   (ho : ∀ b, H b = some (.own a) -> H' b = some (.own a)) (ht : ∀ b xs, H b = some (.tup xs) -> H' b = some (.tup xs)) (iL : ∀ b q, H b = some (.CY q) -> H' b = some (.CY q) := by intro _ _ q; exact q) : fP P w H' h' a o := by
 induction o with
 | lst xs => obtain ⟨z, its, n, r, e⟩ := x; exact ⟨z, its, n, r, k _ _ (.inl rfl) e⟩
 | tup xs => obtain ⟨z, its, r, ob, e, c⟩ := x; exact ⟨z, its, r, ob, k _ _ (.inl rfl) e, c⟩
 | dK kH => obtain ⟨z, y, vs, r, ob, es, ep, e, c⟩ := x; exact ⟨z, y, vs, r, ob, es, ep, k _ _ (.inl rfl) e, c⟩
 | dT kH =>
   obtain ⟨z, y, xs, r, ob, es, ep, e, c⟩ := x
   exact ⟨z, y, xs, Paired.Rt r fun p q z => ⟨z.1, ht _ _ z.2.1, z.2.2⟩, ob, es, ep, k _ _ (.inl rfl) e, c⟩
 | set S n => obtain ⟨ob, es, ep, t, e, c⟩ := x; exact ⟨ob, es, ep, t, k _ _ (.inl rfl) e, c⟩
 | ins C dx fs =>
   obtain ⟨d, z, ne, e, mA, ⟨od, es, ep, e2, c⟩, r⟩ := x
   exact ⟨ho _ d, z, ne, k _ _ (.inl rfl) e, mA, ⟨od, es, ep, k _ _ (.inr d) e2, c⟩, r⟩
 | own y => obtain ⟨ob, e⟩ := x; exact ⟨ob, k _ _ (.inl rfl) e⟩
 | xd fs => obtain ⟨mA, ⟨od, es, ep, e, c⟩, r⟩ := x; exact ⟨mA, ⟨od, es, ep, k _ _ (.inl rfl) e, c⟩, r⟩
 | Vq lo hi => obtain ⟨t, u, v, e⟩ := x; exact ⟨t, u, v, k _ _ (.inl rfl) e⟩
 | cW ob u ih => obtain ⟨e, q⟩ := x; exact ⟨k _ _ (.inl rfl) e, ih q⟩
 | Nz ps =>
   have e : h.get? a = some { cls := .none, data := .fields ps } := x
   show h'.get? a = some { cls := .none, data := .fields ps }
   exact k a _ (.inl rfl) e
 | met f y =>
   have e : h.get? a = some (PySem.W.methodObj (.ref f) (.ref y)) := x
   show h'.get? a = some (PySem.W.methodObj (.ref f) (.ref y))
   exact k a _ (.inl rfl) e
 | tabs q => obtain ⟨ps, e, tr, cs⟩ := x; exact ⟨ps, k _ _ (.inl rfl) e, tr, fun pos cv z => let ⟨c, e1, e2⟩ := cs pos cv z; ⟨c, e1, iL _ _ e2⟩⟩
 | CY q => obtain ⟨ob, vs, t, e, r⟩ := x; exact ⟨ob, vs, t, k _ _ (.inl rfl) e, r⟩
 | ext φ => obtain ⟨p, ⟨o, e⟩, st⟩ := x; exact ⟨st _ _ p fun o q => k _ _ (.inl rfl) q, ⟨o, k _ _ (.inl rfl) e⟩, st⟩
theorem qg.lt (x : qg P w H h) (e : H a = some o) : a < h.objs.size := (x a o e).lt
theorem qg.fresh (x : qg P w H h) (e : h.objs.size <= a) : H a = none := by
 cases q : H a with
 | none => rfl
 | some u => exact absurd (aa5 (x.lt q) e) (acd _)
theorem qg.kept (x : qg P w H h) (k : ∀ b u, h.get? b = some u -> h'.get? b = some u) : qg P w H h' := fun a o e =>
 (x a o e).yE (fun b u _ q => k b u q) (fun _ q => q) fun _ _ q => q
theorem qg.laid (x : qg P w H h) (k : ∀ b u, h.get? b = some u -> h'.get? b = some u) (hp : h.objs.size <= a) (new : fP P w (upd H a o) h' a o) : qg P w (upd H a o) h' := fun b u e => by
 have hn := x.fresh hp
 by_cases hb : b = a
 . subst hb; rw [aN] at e; cases e; exact new
 . rw [av hb] at e
   exact (x b u e).yE (fun c v _ q => k c v q) (fun c q => by rw [av (aC q hn)]; exact q) (fun c xs q => by rw [av (aC q hn)]; exact q) fun c z q => by rw [av (aC q hn)]; exact q
end
def Rd (H : Hp) (a : Addr) (u : HO) : Prop := H a = some u \/ ∃ o, H a = some (.cW o u)
theorem Rd.ok {P : Program} {w : World} {H : Hp} {h : Heap} {a : Addr} {u : HO} (r : Rd H a u) (x : qg P w H h) : fP P w H h a u := by
 rcases r with r | ⟨o, r⟩
 . exact x a u r
 . obtain ⟨_, q⟩ := x a _ r
   exact q
def UO : Option HO -> Prop
 | some (.lst _) => True
 | some (.dK _) => True
 | some (.dT _) => True
 | some (.set _ _) => True
 | some (.ins _ _ _) => True
 | some (.ext _) => True
 | some (.tabs _) => True
 | _ => False
section
variable {P : Program} {w : World} {H : Hp} {h h' : Heap} {x e : Addr} {o' : HO}
theorem qg.write (ok : qg P w H h) (mu : UO (H x)) (he : e = x \/ H e = some (.own x)) (k : ∀ b u, b ≠ e -> h.get? b = some u -> h'.get? b = some u) (Q9 : ∃ u, h'.get? e = some u)
   (new : fP P w (upd H x o') h' x o') : qg P w (upd H x o') h' := fun b u q => by
 have Ru : ∀ c y, H c = some (.own y) -> c ≠ x := fun c y r z => by subst z; rw [r] at mu; exact mu
 have Vr : ∀ c xs, H c = some (.tup xs) -> c ≠ x := fun c xs r z => by subst z; rw [r] at mu; exact mu
 have Vs : ∀ c q, H c = some (.CY q) -> c ≠ x := fun c q r z => by subst z; rw [r] at mu; exact mu
 by_cases hb : b = x
 . subst hb; rw [aN] at q; cases q; exact new
 . rw [av hb] at q
   by_cases NB : b = e
   . have q' : H b = some (.own x) := by
       rcases he with z | z
       . exact absurd (NB.trans z) hb
       . rw [NB]; exact z
     rw [q] at q'; cases q'
     obtain ⟨v, hv⟩ := Q9
     exact ⟨v, by rw [NB]; exact hv⟩
   . refine (ok b u q).yE (fun c v hc r => k c v ?_ r) (fun c r => by rw [av (Ru c b r)]; exact r) (fun c xs r => by rw [av (Vr c xs r)]; exact r) fun c z r => by rw [av (Vs c z r)]; exact r
     rcases hc with rfl | hc
     . exact NB
     . rintro rfl
       rcases he with z | z
       . exact Ru c b hc z
       . rw [hc] at z; cases z; exact hb rfl
end
structure Un (fs ex : List Addr) (H H' : Hp) (h h' : Heap) : Prop where
 keep : ∀ b o, h.get? b = some o -> H b = none -> b ∉ fs -> b ∉ ex -> h'.get? b = some o
 slot : ∀ b o, h.get? b = some o -> H b = none -> b ∈ fs -> b ∉ ex -> ∃ sl, h'.get? b = some { o with slots := sl }
 free : ∀ b o, h.get? b = some o -> H b = none -> b ∉ ex -> H' b = none
 there : ∀ b o, h.get? b = some o -> b ∉ ex -> ∃ o', h'.get? b = some o'
 uN : ∀ b xs, H b = some (.tup xs) -> H' b = some (.tup xs)
 fW : ∀ b o u, H b = some (.cW o u) -> H' b = some (.cW o u)
 uO : ∀ b ps, H b = some (.Nz ps) -> ∃ more, H' b = some (.Nz (ps ++ more))
section
variable {fs Yn ex ex' : List Addr} {H H1 H2 : Hp} {h h1 h2 h' : Heap} {a x e : Addr} {o : HO}
theorem Un.any (u : Un fs ex H H1 h h1) {b : Addr} {ob : Obj} (q : h.get? b = some ob) (n : H b = none) (hx : b ∉ ex) : ∃ sl, h1.get? b = some { ob with slots := sl } := by
 by_cases hb : b ∈ fs
 . exact u.slot b ob q n hb hx
 . exact ⟨ob.slots, u.keep b ob q n hb hx⟩
theorem Un.kept (k : ∀ b u, h.get? b = some u -> h'.get? b = some u) : Un fs ex H H h h' :=
 ⟨fun b ob q _ _ _ => k b ob q, fun b ob q _ _ _ => ⟨ob.slots, k b ob q⟩, fun _ _ _ n _ => n, fun b ob q _ => ⟨ob, k b ob q⟩, fun _ _ q => q, fun _ _ _ q => q, fun _ ps q => ⟨#[], by rw [q]; simp⟩⟩
theorem Un.refl : Un fs ex H H h h := Un.kept fun _ _ q => q
theorem Un.laid (k : ∀ b u, h.get? b = some u -> h'.get? b = some u) (hp : h.objs.size <= a) (hn : H a = none) : Un fs ex H (upd H a o) h h' where
 keep := fun b u q _ _ _ => k b u q
 slot := fun b u q _ _ _ => ⟨u.slots, k b u q⟩
 free := fun b u q n _ => by rw [av (abh (aa5 (aaT q) hp))]; exact n
 there := fun b u q _ => ⟨u, k b u q⟩
 uN := fun b xs q => by rw [av (aC q hn)]; exact q
 fW := fun b u xs q => by rw [av (aC q hn)]; exact q
 uO := fun b ps q => ⟨#[], by rw [av (aC q hn), q]; simp⟩
theorem Un.write (mu : UO (H x)) (he : e = x \/ H e = some (.own x)) (k : ∀ b u, b ≠ e -> h.get? b = some u -> h'.get? b = some u) (Q9 : ∃ u, h'.get? e = some u) : Un fs ex H (upd H x o) h h' := by
 have hx : ∀ b, H b = none -> b ≠ x := fun b n z => by subst z; rw [n] at mu; exact mu
 have hb : ∀ b, H b = none -> b ≠ e := fun b n z => by
   subst z
   rcases he with r | r
   . exact hx b n r
   . rw [n] at r; cases r
 have hm : ∀ b u, H b = some u -> ¬ UO (some u) -> b ≠ x := fun b u q nm z => by subst z; rw [q] at mu; exact nm mu
 refine ⟨fun b u q n _ _ => k b u (hb b n) q, fun b u q n _ _ => ⟨u.slots, k b u (hb b n) q⟩, fun b u q n _ => by rw [av (hx b n)]; exact n, fun b u q _ => ?_,
   fun b xs q => by rw [av (hm b _ q fun z => z)]; exact q, fun b u xs q => by rw [av (hm b _ q fun z => z)]; exact q, fun b ps q => ⟨#[], by rw [av (hm b _ q fun z => z), q]; simp⟩⟩
 by_cases NB : b = e
 . subst NB; exact Q9
 . exact ⟨u, k b u NB q⟩
end
def UQ (h : Heap) (H : Hp) : List Addr := (List.range h.objs.size).filter fun a => (H a).isSome
def tU (h : Heap) (H : Hp) : Heap := PySem.W.hideAll h (UQ h H)
theorem CZ (h : Heap) (H : Hp) : (tU h H).objs.size = h.objs.size := PySem.W.hideAll_size _ _
theorem Et {h : Heap} {H : Hp} {b : Addr} {o : Obj} (e : h.get? b = some o) (n : H b = none) : (tU h H).get? b = some o :=
 PySem.W.hideAll_get _ e fun hm => by
   have q : (H b).isSome = true := (abR.mp hm).2
   rw [n] at q; simp at q
theorem Io {h : Heap} {H : Hp} {b : Addr} {o : Obj} (e : (tU h H).get? b = some o) : h.get? b = some o /\ H b = none := by
 have e' : h.get? b = some o := PySem.W.of_hideAll (UQ h H) e
 refine ⟨e', ?_⟩
 cases q : H b with
 | none => rfl
 | some x =>
   have hm : b ∈ UQ h H := abR.mpr ⟨abL.mpr (aaT e'), by simp [q]⟩
   have z : (tU h H).get? b = none := PySem.W.hideAll_none (UQ h H) hm
   rw [z] at e; cases e
def Iq (g h : Heap) (L : Addr) : List (Addr × Obj) := (List.range h.objs.size).filterMap fun a => if a = L \/ (g.get? a).isSome = true then none else (h.get? a).map fun o => (a, o)
def rest (g h : Heap) (L d : Addr) : List (Addr × Obj) := (Iq g h L).filter fun p => decide (p.1 ≠ d)
structure Mod (K : PySem.W.Frag) (mg : Str -> Option Value) (base : Heap) : Prop where
 UR : K.In base
 glob : base.Ns mainGlobals mg
 blt : ∃ mb, base.Ns builtinsNs mb /\ ∀ x : Str, x ≠ "__name__" -> mb x = bootBuiltins x
 nolimit : base.NoLimit
structure Cx where
 prog : Program
 w : World
 K : PySem.W.Frag
 mg : Str -> Option Value
 base : Heap
 A : Around
 N : List Str
 s₀ : Shared
 H₀ : Hp
 env : Env
 outer : List Env
 stack : List Env
 ex : List Addr
 fn : Str -> Bool
 calm : Bool
 pn : List (Addr × Obj)
 xe : Value -> Shared -> Prop
def El (l : List Env) : List Addr := l.filterMap (·.frame)
abbrev Cx.fs (X : Cx) : List Addr := El X.outer
def NC (sc : Scope) (x : Str) : Prop := sc.names.lookup x = some .local \/ sc.names.lookup x = some .cell \/ sc.names.lookup x = some .free
def Loc (sc : Scope) (x : Str) : Prop := sc.names.lookup x = some .local \/ sc.names.lookup x = some .cell
def Look (env : Env) (h : Heap) (m : Str -> Option Value) (x : Str) (u : Value) : Prop :=
 (env.kindOf x = some .local /\ m x = some u) \/ ((env.kindOf x = some .cell \/ env.kindOf x = some .free) /\ ∃ c, env.cells.lookup x = some c /\ h.IsCell c (some u))
structure Cx.Ok (X : Cx) : Prop where
 mod : Mod X.K X.mg X.base
 kind : X.env.scope.kind = .function
 glob : X.env.globals = mainGlobals
 blt : X.env.builtins = builtinsNs
 above : X.s₀.heap.objs.size <= X.env.locals
 inj : ∀ x y c, X.env.cells.lookup x = some c -> X.env.cells.lookup y = some c -> x = y
 has : ∀ x, (X.env.kindOf x = some .cell \/ X.env.kindOf x = some .free) -> ∃ c, X.env.cells.lookup x = some c
 Rw : ∀ x c, X.fn x = true -> X.env.cells.lookup x = some c -> X.s₀.heap.objs.size <= c
 hd : X.calm = true -> X.A.handled = none
 frames : X.A.frames = some X.stack
 UT : X.stack = X.outer \/ (X.stack = X.env :: X.outer /\ X.env.frame = some X.env.locals)
 Xl : ∀ b ∈ X.ex, b ≠ X.env.locals /\ ∀ x c, X.env.cells.lookup x = some c -> c ≠ b
 bs : ∀ b o, X.base.get? b = some o -> X.s₀.heap.get? b = some o /\ X.H₀ b = none
 Ii : X.base.objs.size <= X.s₀.heap.objs.size
 Eu : ∀ b o, X.base.get? b = some o -> b ∉ X.ex
 Ir : ∀ b ∈ X.ex, b ∉ X.fs
 qh : X.s₀.heap.FunFrames X.base X.outer
 NF : ∀ b ∈ X.fs, X.H₀ b = none
structure Inv (X : Cx) (pins : List (Addr × Obj)) (σ : List (Option V)) (H : Hp) (s : Shared) : Prop where
 ok : X.Ok
 os : s.os = X.s₀.os
 bare : AllBare s.gens
 base : Un X.fs X.ex X.H₀ H X.s₀.heap s.heap
 loc : ∃ m, s.heap.Ns X.env.locals m /\ ∀ (i : Nat) (x : Str) (v : V), X.N[i]? = some x -> σ[i]? = some (some v) -> NC X.env.scope x -> ∃ u, RelV v u /\ Look X.env s.heap m x u
 cell : ∀ x c, X.env.cells.lookup x = some c -> ∃ v, s.heap.IsCell c v
 free : H X.env.locals = none
 jP : ∀ x c, X.env.cells.lookup x = some c -> H c = none
 pin : ∀ p ∈ X.pn ++ pins, s.heap.get? p.1 = some p.2 /\ H p.1 = none /\ p.1 ≠ X.env.locals /\ p.1 ∉ X.fs /\ ∀ v, p.2.data ≠ .cell v
 c7 : qg X.prog X.w H s.heap
 len : σ.length = X.N.length
section
variable {X : Cx} {pins : List (Addr × Obj)} {σ : List (Option V)} {H H' : Hp} {s : Shared} {h' : Heap}
theorem Cx.Ok.Vt (ok : X.Ok) {b : Addr} {o : Obj} (e : X.base.get? b = some o) : b ∉ X.fs := fun hb => by
 have := (ok.qh.mem hb).1
 rw [e] at this; cases this
theorem Inv.bs (I : Inv X pins σ H s) : ∀ b o, X.base.get? b = some o -> s.heap.get? b = some o /\ H b = none := fun b o e =>
 ⟨I.base.keep b o (I.ok.bs b o e).1 (I.ok.bs b o e).2 (I.ok.Vt e) (I.ok.Eu b o e), I.base.free b o (I.ok.bs b o e).1 (I.ok.bs b o e).2 (I.ok.Eu b o e)⟩
theorem Inv.bk (I : Inv X pins σ H s) : ∀ b o, X.base.get? b = some o -> s.heap.get? b = some o := fun b o e => (I.bs b o e).1
theorem Inv.mod (I : Inv X pins σ H s) : Mod X.K X.mg X.base := I.ok.mod
theorem Inv.yC (I : Inv X pins σ H s) : X.K.In s.heap := I.ok.mod.UR.keeps I.bk
theorem Inv.nolimit (I : Inv X pins σ H s) : s.heap.NoLimit := I.ok.mod.nolimit.keeps I.bk
theorem Inv.lt (I : Inv X pins σ H s) : X.env.locals < s.heap.objs.size := let ⟨_, hn, _⟩ := I.loc; hn.lt
theorem Inv.sz (I : Inv X pins σ H s) : X.s₀.heap.objs.size <= s.heap.objs.size := abo I.ok.above (abE I.lt)
theorem Inv.Vu (I : Inv X pins σ H s) {a : Addr} (h : s.heap.objs.size <= a) : a ∉ X.fs := fun hb => by
 obtain ⟨_, o, ho, _⟩ := I.ok.qh.mem hb
 exact absurd (aa5 (aaT ho) (abo I.sz h)) (acd _)
theorem Inv.NK (I : Inv X pins σ H s) : ∀ x c, X.env.cells.lookup x = some c -> c ≠ X.env.locals := fun x c e z => by
 obtain ⟨v, o, ho, hd⟩ := I.cell x c e
 obtain ⟨m, ⟨o', es, ep, NP, NQ, _⟩, _⟩ := I.loc
 rw [z, NP] at ho; cases ho; rw [NQ] at hd; cases hd
theorem Inv.qh (I : Inv X pins σ H s) : s.heap.FunFrames X.base X.outer := by
 have all : ∀ (l : List Env), (∀ b ∈ El l, b ∈ X.fs) -> X.s₀.heap.FunFrames X.base l -> s.heap.FunFrames X.base l := by
   intro l
   induction l with
   | nil => intro _ _; trivial
   | cons env r ih =>
     intro hs hl
     obtain ⟨hk, ⟨L, o, hf, hn, ho, hd⟩, hr⟩ := hl
     have hL : L ∈ X.fs := hs L (by unfold El; rw [abA, hf]; exact aaP)
     obtain ⟨sl, e⟩ := I.base.slot L o ho (I.ok.NF L hL) hL fun z => I.ok.Ir L z hL
     exact ⟨hk, ⟨L, _, hf, hn, e, hd⟩, ih (fun b hb => hs b (by unfold El; rw [abA, hf]; exact aaM _ hb)) hr⟩
 exact all X.outer (fun _ hb => hb) I.ok.qh
theorem Inv.stack (I : Inv X pins σ H s) : s.heap.FunFrames X.base X.stack := by
 rcases I.ok.UT with e | ⟨e, hf⟩
 . rw [e]; exact I.qh
 . rw [e]
   obtain ⟨m, hn, _⟩ := I.loc
   refine .cons (by rw [I.ok.kind]; decide) hf hn ?_ I.qh
   exact Heap.get?_none_of_le (abo I.ok.Ii I.ok.above)
theorem Inv.uP (I : Inv X pins σ H s) : ∀ b ∈ El X.stack, b ∈ X.env.locals :: X.fs := fun b hb => by
 rcases I.ok.UT with e | ⟨e, hf⟩
 . rw [e] at hb; exact aaM _ hb
 . rw [e] at hb
   unfold El at hb
   rw [abA, hf] at hb
   exact hb
theorem Inv.uQ (I : Inv X pins σ H s) : ∀ b ∈ El X.stack, H b = none := fun b hb => by
 rcases aaH.mp (I.uP b hb) with e | hb
 . rw [e]; exact I.free
 . obtain ⟨_, o, ho, _⟩ := I.ok.qh.mem hb
   exact I.base.free b o ho (I.ok.NF b hb) fun z => I.ok.Ir b z hb
theorem Inv.step {g' : Array GenState} {t' : Nat} {d' : Drawn} {ch : List Addr} (I : Inv X pins σ H s)
   (MJ : ∀ b ∈ ch, (b ∈ X.ex \/ X.s₀.heap.objs.size <= b) /\ b ≠ X.env.locals /\ (∀ x c, X.env.cells.lookup x = some c -> c ≠ b) /\ ∀ p ∈ X.pn ++ pins, p.1 ≠ b)
   (keep : ∀ b o, b ≠ X.env.locals -> b ∉ X.fs -> b ∉ ch -> s.heap.get? b = some o -> H b = none -> h'.get? b = some o)
   (slot : ∀ b o, b ≠ X.env.locals -> b ∈ X.fs -> b ∉ ch -> s.heap.get? b = some o -> H b = none -> ∃ sl, h'.get? b = some { o with slots := sl }) (free : ∀ b o, b ∉ ch -> s.heap.get? b = some o -> H b = none -> H' b = none)
   (there : ∀ b o, b ∉ ch -> s.heap.get? b = some o -> ∃ o', h'.get? b = some o')
   (uN : ∀ b xs, H b = some (.tup xs) -> H' b = some (.tup xs)) (fW : ∀ b o u, H b = some (.cW o u) -> H' b = some (.cW o u)) (uO : ∀ b ps, H b = some (.Nz ps) -> ∃ more, H' b = some (.Nz (ps ++ more)))
   (ns : ∀ m, s.heap.Ns X.env.locals m -> h'.Ns X.env.locals m) (c7 : qg X.prog X.w H' h') (hg : AllBare g') :
   Inv X pins σ H' { s with heap := h', gens := g', drawn := d', toks := t' } := by
 have Xm : ∀ b o, X.s₀.heap.get? b = some o -> b ≠ X.env.locals := fun b o e => abh (aa5 (aaT e) I.ok.above)
 have UU : ∀ b o, X.s₀.heap.get? b = some o -> b ∉ X.ex -> b ∉ ch := fun b o e hx hb => by
   rcases (MJ b hb).1 with z | z
   . exact hx z
   . exact absurd (aa5 (aaT e) z) (acd _)
 have cellK : ∀ x c, X.env.cells.lookup x = some c -> ∀ v, s.heap.IsCell c v -> h'.IsCell c v := fun x c e v ⟨o, ho, hd⟩ => by
   have Rx : c ∉ ch := fun z => (MJ c z).2.2.1 x c e rfl
   by_cases hc : c ∈ X.fs
   . obtain ⟨sl, q⟩ := slot c o (I.NK x c e) hc Rx ho (I.jP x c e)
     exact ⟨_, q, hd⟩
   . exact ⟨o, keep c o (I.NK x c e) hc Rx ho (I.jP x c e), hd⟩
 refine ⟨I.ok, I.os, hg, ⟨fun b o e n hb hx => ?_, fun b o e n hb hx => ?_, fun b o e n hx => ?_, fun b o e hx => ?_, fun b xs e => uN b xs (I.base.uN b xs e), fun b o xs e => fW b o xs (I.base.fW b o xs e), fun b ps e => ?_⟩, ?_, fun x c e => ?_, ?_, fun x c e => ?_, fun p hp => ?_, c7, I.len⟩
 . exact keep b o (Xm b o e) hb (UU b o e hx) (I.base.keep b o e n hb hx) (I.base.free b o e n hx)
 . obtain ⟨sl, e1⟩ := I.base.slot b o e n hb hx
   obtain ⟨Yo, e2⟩ := slot b _ (Xm b o e) hb (UU b o e hx) e1 (I.base.free b o e n hx)
   exact ⟨Yo, e2⟩
 . obtain ⟨o', e1⟩ := I.base.there b o e hx
   exact free b o' (UU b o e hx) e1 (I.base.free b o e n hx)
 . obtain ⟨o', e1⟩ := I.base.there b o e hx
   exact there b o' (UU b o e hx) e1
 . obtain ⟨m1, e1⟩ := I.base.uO b ps e
   obtain ⟨m2, e2⟩ := uO b _ e1
   exact ⟨m1 ++ m2, by rw [e2, Array.append_assoc]⟩
 . obtain ⟨m, hn, hl⟩ := I.loc
   refine ⟨m, ns m hn, fun i x v e1 e2 e3 => ?_⟩
   obtain ⟨u, r, l⟩ := hl i x v e1 e2 e3
   refine ⟨u, r, ?_⟩
   rcases l with l | ⟨k, c, e, z⟩
   . exact .inl l
   . exact .inr ⟨k, c, e, cellK x c e _ z⟩
 . obtain ⟨v, z⟩ := I.cell x c e
   exact ⟨v, cellK x c e v z⟩
 . obtain ⟨m, ⟨o, _, _, ho, _⟩, _⟩ := I.loc
   exact free _ o (fun z => (MJ _ z).2.1 rfl) ho I.free
 . obtain ⟨v, o, ho, hd⟩ := I.cell x c e
   exact free c o (fun z => (MJ c z).2.2.1 x c e rfl) ho (I.jP x c e)
 . obtain ⟨e, n, ne, nf, d⟩ := I.pin p hp
   have Rx : p.1 ∉ ch := fun z => (MJ p.1 z).2.2.2 p hp rfl
   exact ⟨keep p.1 p.2 ne nf Rx e n, free p.1 p.2 Rx e n, ne, nf, d⟩
theorem Inv.un {t' : Nat} (I : Inv X pins σ H s) (u : Un X.fs [] H H' s.heap h') (c7 : qg X.prog X.w H' h') : Inv X pins σ H' { s with heap := h', toks := t' } := by
 obtain ⟨m, ⟨o, es, ep, ho, r⟩, _⟩ := id I.loc
 obtain ⟨sl, hL⟩ := u.any ho I.free (by simp)
 exact I.step (g' := s.gens) (d' := s.drawn) (ch := []) (fun _ z => nomatch z) (fun b o _ hb _ e n => u.keep b o e n hb (by simp)) (fun b o _ hb _ e n => u.slot b o e n hb (by simp)) (fun b o _ e n => u.free b o e n (by simp)) (fun b o _ e => u.there b o e (by simp)) u.uN u.fW u.uO (fun m' hm => by
   obtain ⟨o', Vv, Vw, NP, r'⟩ := hm
   rw [ho] at NP; cases NP
   exact ⟨_, Vv, Vw, hL, r'⟩) c7 I.bare
theorem Inv.call {g' : Array GenState} {t' : Nat} {d' : Drawn} {ch : List Addr} (I : Inv X pins σ H s) (u : Un (El X.stack) ch H H' s.heap h') (c7 : qg X.prog X.w H' h') (hg : AllBare g')
   (MJ : ∀ b ∈ ch, (b ∈ X.ex \/ X.s₀.heap.objs.size <= b) /\ b ≠ X.env.locals /\ (∀ x c, X.env.cells.lookup x = some c -> c ≠ b) /\ ∀ p ∈ X.pn ++ pins, p.1 ≠ b) :
   Inv X pins σ H' { s with heap := h', gens := g', drawn := d', toks := t' } := by
 obtain ⟨m, ⟨o, es, ep, ho, r⟩, _⟩ := id I.loc
 obtain ⟨sl, hL⟩ := u.any ho I.free fun z => (MJ _ z).2.1 rfl
 exact I.step (ch := ch) MJ (fun b o hL hb hc e n => u.keep b o e n (fun z => (aaH.mp (I.uP b z)).elim hL hb) hc) (fun b o _ _ hc e n => u.any e n hc) (fun b o hc e n => u.free b o e n hc) (fun b o hc e => u.there b o e hc) u.uN u.fW u.uO (fun m' hm => by
   obtain ⟨o', Vv, Vw, NP, r'⟩ := hm
   rw [ho] at NP; cases NP
   exact ⟨_, Vv, Vw, hL, r'⟩) c7 hg
theorem Inv.turned {t' : Nat} {it : Addr} (I : Inv X pins σ H s) (k : ∀ b o, b ≠ it -> s.heap.get? b = some o -> h'.get? b = some o) (hn : H it = none) (hL : it ≠ X.env.locals)
   (h1 : it ∈ X.ex \/ X.s₀.heap.objs.size <= it) (h2 : ∀ x c, X.env.cells.lookup x = some c -> c ≠ it) (h3 : ∀ p ∈ X.pn ++ pins, p.1 ≠ it) : Inv X pins σ H { s with heap := h', toks := t' } := by
 have Xn : ∀ b u, H b = some u -> b ≠ it := fun b u e z => by rw [z, hn] at e; cases e
 refine I.step (g' := s.gens) (d' := s.drawn) (ch := [it]) (fun b hb => ?_) (fun b o _ _ hc e _ => k b o (fun z => hc (by simp [z])) e) (fun b o _ _ hc e _ => ⟨o.slots, k b o (fun z => hc (by simp [z])) e⟩) (fun _ _ _ _ n => n)
   (fun b o hc e => ⟨o, k b o (fun z => hc (by simp [z])) e⟩) (fun _ _ e => e) (fun _ _ _ e => e) (fun b ps e => ⟨#[], by rw [e]; simp⟩) (fun m hm => ?_) (fun b u e => ?_) I.bare
 . have e : b = it := by simpa using hb
   subst e
   exact ⟨h1, hL, h2, h3⟩
 . obtain ⟨o, es, ep, ho, r⟩ := hm
   exact ⟨o, es, ep, k _ o (Ne.symm hL) ho, r⟩
 . refine (I.c7 b u e).yE (fun c v hc q => k c v ?_ q) (fun _ q => q) fun _ _ q => q
   rcases hc with z | z
   . rw [z]; exact Xn b u e
   . exact Xn c _ z
theorem Inv.tok (I : Inv X pins σ H s) (t : Nat) : Inv X pins σ H { s with toks := t } := I.un (h' := s.heap) (t' := t) Un.refl I.c7
theorem Inv.kept {t' : Nat} (I : Inv X pins σ H s) (k : ∀ b u, s.heap.get? b = some u -> h'.get? b = some u) : Inv X pins σ H { s with heap := h', toks := t' } := I.un (Un.kept k) (I.c7.kept k)
theorem Inv.laid {a : Addr} {o : HO} {t' : Nat} (I : Inv X pins σ H s) (k : ∀ b u, s.heap.get? b = some u -> h'.get? b = some u) (hp : s.heap.objs.size <= a) (new : fP X.prog X.w (upd H a o) h' a o) :
   Inv X pins σ (upd H a o) { s with heap := h', toks := t' } := I.un (Un.laid k hp (I.c7.fresh hp)) (I.c7.laid k hp new)
theorem Inv.write {x e : Addr} {o : HO} {t' : Nat} (I : Inv X pins σ H s) (mu : UO (H x)) (he : e = x \/ H e = some (.own x)) (k : ∀ b u, b ≠ e -> s.heap.get? b = some u -> h'.get? b = some u) (Q9 : ∃ u, h'.get? e = some u)
   (new : fP X.prog X.w (upd H x o) h' x o) : Inv X pins σ (upd H x o) { s with heap := h', toks := t' } := I.un (Un.write mu he k Q9) (I.c7.write mu he k Q9 new)
theorem Inv.qp {gJ : List (Addr × Obj)} (I : Inv X pins σ H s) (h : ∀ p ∈ gJ, s.heap.get? p.1 = some p.2 /\ H p.1 = none /\ p.1 ≠ X.env.locals /\ p.1 ∉ X.fs /\ ∀ v, p.2.data ≠ .cell v) : Inv X gJ σ H s :=
 ⟨I.ok, I.os, I.bare, I.base, I.loc, I.cell, I.free, I.jP, fun p hp => (aaS.mp hp).elim (fun z => I.pin p (aaX _ z)) (h p), I.c7, I.len⟩
theorem yF {N : List Str} (hN : N.Nodup) {i j : Nat} {x : Str} (a : N[i]? = some x) (b : N[j]? = some x) : i = j := by
 obtain ⟨h1, e1⟩ := aa4.mp a
 obtain ⟨h2, e2⟩ := aa4.mp b
 exact (List.getElem_inj hN).mp (e1.trans e2.symm)
theorem C1 {M : Model} {A : Around} {E : Value -> Shared -> Prop} {i : Nat} {x : Str} {v : V} {u : Value} {Q : Unit -> Shared -> Prop} (I : Inv X pins σ H s) (hN : X.N.Nodup) (hi : X.N[i]? = some x) (hx : Loc X.env.scope x) (r : RelV v u)
   (h : ∀ s', Inv X pins (σ.set i (some v)) H s' -> (∃ a, Heap.SameBut a s.heap s'.heap /\ (a = X.env.locals \/ X.env.cells.lookup x = some a)) -> Q () s') (hf : X.fn x = true \/ X.env.scope.names.lookup x = some .local := by first | exact .inl rfl | exact .inr rfl | assumption) : wpAny M A (storeName X.env x u) Q E s := by
 obtain ⟨m, hn, hl⟩ := id I.loc
 have Vx : (X.env.scope.kind == .class || (X.env.scope.kind == .module && X.env.locals != X.env.globals)) = false := by rw [I.ok.kind]; rfl
 have Ry : i < σ.length := by rw [I.len]; exact (aa4.mp hi).1
 have NK := I.NK
 have tracked : ∀ {a : Addr} {h' : Heap}, (∃ o, s.heap.get? a = some o /\ H a = none) -> Heap.SameBut a s.heap h' -> qg X.prog X.w H h' := fun {a h'} ha hs b ob e => by
   obtain ⟨_, _, yG⟩ := ha
   refine (I.c7 b ob e).yE (fun c w' hc q => (hs.2 c ?_).trans q) (fun _ q => q) fun _ _ q => q
   rintro rfl
   rcases hc with rfl | hc
   . rw [yG] at e; cases e
   . rw [yG] at hc; cases hc
 rcases hx with hk | hk
 . refine wpAny_storeName_local hk hn (fun h' Yp hs => ?_) Vx
   obtain ⟨oL, _, _, UW, _⟩ := id hn
   refine h _ ⟨I.ok, I.os, I.bare, ⟨fun b o e n hb hx => ?_, fun b o e n hb hx => ?_, I.base.free, fun b o e hx => ?_, I.base.uN, I.base.fW, I.base.uO⟩, ⟨_, Yp, fun j y v' e1 e2 e3 => ?_⟩, fun y c e => ?_, I.free, I.jP, fun p hp => ?_, tracked ⟨oL, UW, I.free⟩ hs, by simpa using I.len⟩ ⟨_, hs, .inl rfl⟩
   . exact (hs.2 b (abh (aa5 (aaT e) I.ok.above))).trans (I.base.keep b o e n hb hx)
   . obtain ⟨sl, e1⟩ := I.base.slot b o e n hb hx
     exact ⟨sl, (hs.2 b (abh (aa5 (aaT e) I.ok.above))).trans e1⟩
   . obtain ⟨o', e1⟩ := I.base.there b o e hx
     exact ⟨o', (hs.2 b (abh (aa5 (aaT e) I.ok.above))).trans e1⟩
   . by_cases hj : j = i
     . subst hj
       rw [hi] at e1; cases e1
       rw [List.getElem?_set_self Ry] at e2
       cases e2
       exact ⟨u, r, .inl ⟨hk, by simp⟩⟩
     . rw [List.getElem?_set_ne (Ne.symm hj)] at e2
       obtain ⟨u', r', q⟩ := hl j y v' e1 e2 e3
       refine ⟨u', r', ?_⟩
       rcases q with ⟨k, e⟩ | ⟨k, c, e, z⟩
       . refine .inl ⟨k, ?_⟩
         have : y ≠ x := fun e => hj (yF hN e1 (e ▸ hi))
         simp [this, e]
       . exact .inr ⟨k, c, e, z.sameBut hs (NK y c e)⟩
   . obtain ⟨w', z⟩ := I.cell y c e
     exact ⟨w', z.sameBut hs (NK y c e)⟩
   . obtain ⟨e, n, ne, nf, d⟩ := I.pin p hp
     exact ⟨(hs.2 p.1 ne).trans e, n, ne, nf, d⟩
 . have Vy : X.fn x = true := by
     rcases hf with z | z
     . exact z
     . rw [z] at hk; cases hk
   obtain ⟨c, hc⟩ := I.ok.has x (.inl hk)
   obtain ⟨w', z⟩ := I.cell x c hc
   refine wpAny_storeName_cell I.ok.kind hk hc z (fun h' Ew hs => ?_)
   obtain ⟨oc, Ra, Vz⟩ := id z
   refine h { s with heap := h' } ⟨I.ok, I.os, I.bare, ⟨fun b o e n hb hx => ?_, fun b o e n hb hx => ?_, I.base.free, fun b o e hx => ?_, I.base.uN, I.base.fW, I.base.uO⟩, ⟨m, hn.sameBut hs (Ne.symm (NK x c hc)), fun j y v' e1 e2 e3 => ?_⟩, fun y c' e => ?_, I.free, I.jP, fun p hp => ?_, tracked ⟨oc, Ra, I.jP x c hc⟩ hs, by simpa using I.len⟩ ⟨c, hs, .inr hc⟩
   . exact (hs.2 b (abh (aa5 (aaT e) (I.ok.Rw x c Vy hc)))).trans (I.base.keep b o e n hb hx)
   . obtain ⟨sl, e1⟩ := I.base.slot b o e n hb hx
     exact ⟨sl, (hs.2 b (abh (aa5 (aaT e) (I.ok.Rw x c Vy hc)))).trans e1⟩
   . obtain ⟨o', e1⟩ := I.base.there b o e hx
     exact ⟨o', (hs.2 b (abh (aa5 (aaT e) (I.ok.Rw x c Vy hc)))).trans e1⟩
   . by_cases hj : j = i
     . subst hj
       rw [hi] at e1; cases e1
       rw [List.getElem?_set_self Ry] at e2
       cases e2
       exact ⟨u, r, .inr ⟨.inl hk, c, hc, Ew⟩⟩
     . rw [List.getElem?_set_ne (Ne.symm hj)] at e2
       obtain ⟨u', r', q⟩ := hl j y v' e1 e2 e3
       refine ⟨u', r', ?_⟩
       rcases q with q | ⟨k, c', e, z'⟩
       . exact .inl q
       . refine .inr ⟨k, c', e, z'.sameBut hs ?_⟩
         rintro rfl
         exact hj (yF hN e1 (I.ok.inj _ _ _ e hc ▸ hi))
   . by_cases Xo : c' = c
     . subst Xo; exact ⟨_, Ew⟩
     . obtain ⟨w2, z2⟩ := I.cell y c' e
       exact ⟨w2, z2.sameBut hs Xo⟩
   . obtain ⟨e, n, ne, nf, d⟩ := I.pin p hp
     refine ⟨(hs.2 p.1 ?_).trans e, n, ne, nf, d⟩
     intro q
     rw [q, Ra] at e
     have q' : oc = p.2 := aaY e
     exact d w' (by rw [← q']; exact Vz)
theorem yH {M : Model} {A : Around} {E : Value -> Shared -> Prop} {i : Nat} {x : Str} {v : V} {u : Value} {Q : Unit -> Shared -> Prop} (I : Inv X pins σ H s) (hN : X.N.Nodup) (hi : X.N[i]? = some x) (hx : Loc X.env.scope x) (r : RelV v u)
   (h : ∀ s', Inv X pins (σ.set i (some v)) H s' -> Q () s') (hf : X.fn x = true \/ X.env.scope.names.lookup x = some .local := by first | exact .inl rfl | exact .inr rfl | assumption) : wpAny M A (storeName X.env x u) Q E s :=
 C1 I hN hi hx r (fun s' I' _ => h s' I') hf
end
abbrev XK := Value -> Option Addr -> Hp -> Prop
abbrev St := List (Option V)
abbrev VK := V -> Hp -> Prop
abbrev TE := St -> Hp -> VK -> Prop
abbrev TT := St -> Hp -> (Bool -> Hp -> Prop) -> Prop
abbrev TA := St -> Hp -> (List V -> Hp -> Prop) -> Prop
structure Ends where
 nx : St -> Hp -> Prop
 rt : VK
 bk : St -> Hp -> Prop := fun _ _ => False
 ct : St -> Hp -> Prop := fun _ _ => False
abbrev TS := Ends -> St -> Hp -> Prop
def EP (X : Cx) (pins : List (Addr × Obj)) (σ : St) (Q : VK) (u : Value) (s' : Shared) : Prop := ∃ v H', Inv X pins σ H' s' /\ RelV v u /\ Q v H'
def TP (X : Cx) (pins : List (Addr × Obj)) (σ : St) (Q : Bool -> Hp -> Prop) (b : Bool) (s' : Shared) : Prop := ∃ H', Inv X pins σ H' s' /\ Q b H'
def AP (X : Cx) (pins : List (Addr × Obj)) (σ : St) (Q : List V -> Hp -> Prop) (us : List Value) (s' : Shared) : Prop := ∃ vs H', Inv X pins σ H' s' /\ Vals vs us /\ Q vs H'
def SP (X : Cx) (pins : List (Addr × Obj)) (D : Ends) (f : Flow) (s' : Shared) : Prop :=
 match f with
 | .next => ∃ σ' H', Inv X pins σ' H' s' /\ D.nx σ' H'
 | .brk => ∃ σ' H', Inv X pins σ' H' s' /\ D.bk σ' H'
 | .cont => ∃ σ' H', Inv X pins σ' H' s' /\ D.ct σ' H'
 | .ret u => ∃ v σ' H', Inv X pins σ' H' s' /\ RelV v u /\ D.rt v H'
def PE (X : Cx) (e : Expr) (t : TE) : Prop :=
 ∀ (pins : List (Addr × Obj)) (s : Shared) (σ : St) (H : Hp) (Q : VK), Inv X pins σ H s -> t σ H Q -> wpAny (model X.prog X.w) X.A (eval e X.env) (EP X pins σ Q) X.xe s
def PT (X : Cx) (e : Expr) (t : TT) : Prop :=
 ∀ (pins : List (Addr × Obj)) (s : Shared) (σ : St) (H : Hp) (Q : Bool -> Hp -> Prop), Inv X pins σ H s -> t σ H Q -> wpAny (model X.prog X.w) X.A (isTrue e X.env (eval e X.env)) (TP X pins σ Q) X.xe s
def PW (X : Cx) (e : Expr) (t : TT) : Prop :=
 ∀ (whole : Sem Value) (pins : List (Addr × Obj)) (s : Shared) (σ : St) (H : Hp) (Q : Bool -> Hp -> Prop), Inv X pins σ H s -> t σ H Q -> wpAny (model X.prog X.w) X.A (isTrue e X.env whole) (TP X pins σ Q) X.xe s
def PA (X : Cx) (es : List Expr) (t : TA) : Prop :=
 ∀ (pos : Pos) (pins : List (Addr × Obj)) (s : Shared) (σ : St) (H : Hp) (Q : List V -> Hp -> Prop), Inv X pins σ H s -> t σ H Q -> wpAny (model X.prog X.w) X.A (spliced (backTo pos (starEach es X.env))) (AP X pins σ Q) X.xe s
def PS (X : Cx) (st : Stmt) (t : TS) : Prop :=
 ∀ (pins : List (Addr × Obj)) (s : Shared) (σ : St) (H : Hp) (D : Ends), Inv X pins σ H s -> t D σ H -> wpAny (model X.prog X.w) X.A (exec st X.env) (SP X pins D) X.xe s
def AI (X : Cx) (st : List Stmt) (t : TS) : Prop :=
 ∀ (pins : List (Addr × Obj)) (s : Shared) (σ : St) (H : Hp) (D : Ends), Inv X pins σ H s -> t D σ H -> wpAny (model X.prog X.w) X.A (execs st X.env) (SP X pins D) X.xe s
theorem dG {α : Type} {t : Sem α} {Q Q' : α -> Shared -> Prop} {M : Model} {A : Around} {E : Value -> Shared -> Prop} {s : Shared} (h : wpAny M A t Q E s) (hQ : ∀ a s, Q a s -> Q' a s) : wpAny M A t Q' E s := abF h hQ fun _ _ x => x
section
variable {X : Cx}
theorem bin {a b : Expr} {ta tb : TE} (ha : PE X a ta) (hb : PE X b tb) {pins : List (Addr × Obj)} {s : Shared} {σ : St} {H : Hp} {R : V -> V -> Hp -> Prop} (I : Inv X pins σ H s) (h : ta σ H fun x H1 => tb σ H1 fun y H2 => R x y H2)
   {α : Type} {Q : α -> Shared -> Prop} {f : Value -> Value -> Sem α}
   (hf : ∀ v u s2 x y H2, Inv X pins σ H2 s2 -> RelV x v -> RelV y u -> R x y H2 -> wpAny (model X.prog X.w) X.A (f v u) Q X.xe s2) :
   wpAny (model X.prog X.w) X.A (eval a X.env) (fun v s₁ => wpAny (model X.prog X.w) X.A (eval b X.env) (fun u s₂ => wpAny (model X.prog X.w) X.A (f v u) Q X.xe s₂) X.xe s₁) X.xe s := by
 refine dG (ha pins s σ H _ I h) fun v s1 ⟨x, H1, I1, r1, q1⟩ => ?_
 refine dG (hb pins s1 σ H1 _ I1 q1) fun u s2 ⟨y, H2, I2, r2, q2⟩ => ?_
 exact hf v u s2 x y H2 I2 r1 r2 q2
def VA (i : Nat) : TE := fun σ H Q => ∃ v, σ[i]? = some (some v) /\ Q v H
def tC (v : V) : TE := fun _ H Q => Q v H
theorem mz {i : Nat} {x : Str} {pos : Pos} (hN : X.N[i]? = some x) (hv : NC X.env.scope x) (hd : (x == ("__debug__" : Str)) = false := by decide) (iL : (x == ("__classdict__" : Str)) = false := by decide) : PE X (.Name x pos) (VA i) := by
 intro pins s σ H Q I h
 obtain ⟨v, e, h⟩ := h
 obtain ⟨m, hn, hl⟩ := I.loc
 obtain ⟨u, r, l⟩ := hl i x v hN e hv
 have fin : EP X pins σ Q u s := ⟨v, H, I, r, h⟩
 rcases l with ⟨hk, hm⟩ | ⟨hk, c, hc, pP⟩
 . exact wpAny_Name (wpAny_loadName_local I.ok.kind hk hn hm fin) hd
 . rcases hk with hk | hk
   . exact wpAny_Name (wpAny_loadName_cell I.ok.kind hk hc pP fin) hd
   . exact wpAny_Name (wpAny_loadName_free I.ok.kind hk hc pP fin iL) hd
theorem NR {i j pos} : PE X (.Constant (.int i) j pos) (tC (.int i)) := fun _ _ _ H _ I h => wpAny_Constant_int ⟨.int i, H, I.tok _, ⟨_, rfl⟩, h⟩
theorem Rz {b j pos} : PE X (.Constant (.bool b) j pos) (tC (.bl b)) := fun _ _ _ H _ I h => Constant_bool ⟨.bl b, H, I, rfl, h⟩
theorem NS {x j pos} : PE X (.Constant (.str x) j pos) (tC (.str x)) := fun _ _ _ H _ I h => Calls.Constant_str ⟨.str x, H, I.tok _, ⟨_, rfl⟩, h⟩
def Gl (X : Cx) (x : Str) : Prop := X.env.kindOf x = some .globalImplicit
theorem qq {E : Value -> Shared -> Prop} {pins : List (Addr × Obj)} {s : Shared} {σ : St} {H : Hp} {x : Str} {u : Value} {pos : Pos} {Q : Value -> Shared -> Prop} (I : Inv X pins σ H s) (hg : Gl X x) (hm : X.mg x = some u) (h : Q u s)
   (hd : (x == ("__debug__" : Str)) = false := by decide) : wpAny (model X.prog X.w) X.A (eval (.Name x pos) X.env) Q E s :=
 Calls.Name_function_global I.ok.kind hg (Calls.loadGlobal_global (by rw [I.ok.glob]; exact I.mod.glob.keeps I.bk) hm h) hd
theorem oq {E : Value -> Shared -> Prop} {pins : List (Addr × Obj)} {s : Shared} {σ : St} {H : Hp} {x : Str} {u : Value} {pos : Pos} {Q : Value -> Shared -> Prop} (I : Inv X pins σ H s) (hg : Gl X x) (hm : X.mg x = none) (hv : bootBuiltins x = some u) (h : Q u s)
   (hn : x ≠ "__name__" := by decide) (hd : (x == ("__debug__" : Str)) = false := by decide) : wpAny (model X.prog X.w) X.A (eval (.Name x pos) X.env) Q E s := by
 obtain ⟨mb, h1, h2⟩ := I.mod.blt
 exact Calls.Name_function_global I.ok.kind hg (Calls.loadGlobal_builtin (by rw [I.ok.glob]; exact I.mod.glob.keeps I.bk) hm (by rw [I.ok.blt]; exact h1.keeps I.bk) ((h2 x hn).trans hv) h) hd
theorem Iu {x : Str} {v : V} {u : Value} {pos : Pos} (hg : Gl X x) (hm : X.mg x = some u) (r : RelV v u) (hd : (x == ("__debug__" : Str)) = false := by decide) : PE X (.Name x pos) (tC v) :=
 fun _ _ _ H _ I h => qq I hg hm ⟨v, H, I, r, h⟩ hd
theorem Iv {x : Str} {v : V} {u : Value} {pos : Pos} (hg : Gl X x) (hm : X.mg x = none) (hv : bootBuiltins x = some u) (r : RelV v u) (hn : x ≠ "__name__" := by decide) (hd : (x == ("__debug__" : Str)) = false := by decide) : PE X (.Name x pos) (tC v) :=
 fun _ _ _ H _ I h => oq I hg hm hv ⟨v, H, I, r, h⟩ hn hd
variable {a b : Expr} {ta tb : TE} {pos : Pos}
def PC (X : Cx) (op : CmpOp) (a b : Expr) (t : TE) : Prop :=
 ∀ (pins : List (Addr × Obj)) (s : Shared) (σ : St) (H : Hp) (Q : VK), Inv X pins σ H s -> t σ H Q →
   wpAny (model X.prog X.w) X.A (eval a X.env) (fun v s₁ => wpAny (model X.prog X.w) X.A (eval b X.env) (fun u s₂ => wpAny (model X.prog X.w) X.A (compareOp op v u) (EP X pins σ Q) X.xe s₂) X.xe s₁) X.xe s
theorem Ex (b : Expr) {op : CmpOp} (h : op ≠ .In) (h2 : op ≠ .NotIn) : behindInMarks op b = false := by
 have e1 : (op == CmpOp.In) = false := by cases op <;> first | rfl | exact absurd rfl h
 have e2 : (op == CmpOp.NotIn) = false := by cases op <;> first | rfl | exact absurd rfl h2
 cases b <;> simp [behindInMarks, e1, e2]
def tB (t : TE) : TT := fun σ H Q => t σ H fun x H1 => ∃ c, x = .bl c /\ Q c H1
theorem VB {op : CmpOp} {t : TE} (h : PC X op a b t) (h1 : behindInMarks op b = false := by first | exact Ex _ (by decide) (by decide) | rfl) : PT X (.Compare a [op] [b] pos) (tB t) := by
 intro pins s σ H Q I hw
 refine wpAny_isTrue_Compare1 (dG (h pins s σ H _ I hw) fun v s1 h1 => dG h1 fun u s2 h2 => dG h2 fun c s3 ⟨x, H1, I1, r1, q1⟩ => ?_) h1
 obtain ⟨d, rfl, q⟩ := q1
 cases r1
 exact acn ⟨H1, I1, q⟩
theorem NT {e : Expr} {t : TE} (h : PE X e t) (he : ∀ whole, isTrue e X.env whole = (do let v ← whole; standAt e.pos; holding [v] (truthy v)) := by intro _; rfl) : PT X e (tB t) := by
 intro pins s σ H Q I hw
 refine isTrue_plain (dG (h pins s σ H _ I hw) fun v s1 ⟨x, H1, I1, r1, q1⟩ => ?_) (he _)
 obtain ⟨d, rfl, q⟩ := q1
 cases r1
 exact acn ⟨H1, I1, q⟩
variable {tA UX : TT} {rest : List Expr}
def VC (t u : TT) : TT := fun σ H Q => t σ H fun c H1 => if c = true then u σ H1 Q else Q false H1
def Yq (t u : TT) : TT := fun σ H Q => t σ H fun c H1 => if c = true then Q true H1 else u σ H1 Q
def VD (t : TT) : TT := fun σ H Q => t σ H fun c H1 => Q (!c) H1
theorem Iw (ha : PT X a tA) : PW X (.BoolOp .And [a] pos) tA := by
 intro wh pins s σ H Q I h
 refine isTrue_and (dG (ha pins s σ H Q I h) fun c s1 e => ?_)
 cases c with
 | true => exact isTrue_and_nil e
 | false => exact e
theorem NV (ha : PT X a tA) : PW X (.BoolOp .Or [a] pos) tA := by
 intro wh pins s σ H Q I h
 refine isTrue_or (dG (ha pins s σ H Q I h) fun c s1 e => ?_)
 cases c with
 | false => exact isTrue_or_nil e
 | true => exact e
theorem NW (ha : PT X a tA) (hb : PW X (.BoolOp .And (b :: rest) pos) UX) : PW X (.BoolOp .And (a :: b :: rest) pos) (VC tA UX) := by
 intro wh pins s σ H Q I h
 refine isTrue_and (dG (ha pins s σ H _ I h) fun c s1 ⟨H1, I1, q1⟩ => ?_)
 cases c with
 | true => exact hb wh pins s1 σ H1 Q I1 q1
 | false => exact ⟨H1, I1, q1⟩
theorem RA (ha : PT X a tA) (hb : PW X (.BoolOp .Or (b :: rest) pos) UX) : PW X (.BoolOp .Or (a :: b :: rest) pos) (Yq tA UX) := by
 intro wh pins s σ H Q I h
 refine isTrue_or (dG (ha pins s σ H _ I h) fun c s1 ⟨H1, I1, q1⟩ => ?_)
 cases c with
 | true => exact ⟨H1, I1, q1⟩
 | false => exact hb wh pins s1 σ H1 Q I1 q1
theorem NX (ha : PT X a tA) : PT X (.UnaryOp .Not a pos) (VD tA) := by
 intro pins s σ H Q I h
 exact isTrue_not (ha pins s σ H (fun c H1 => Q (!c) H1) I h)
def VF (ta tb : TE) : TE := fun σ H Q => ta σ H fun x H1 => ∃ c, x = .bl c /\ if c = true then Q (.bl true) H1 else tb σ H1 Q
theorem NZ {op} {t : TE} (h : PE X a t) : PE X (.BoolOp op [a] pos) t := fun pins s σ H Q I hw => BoolOp_one (h pins s σ H Q I hw)
theorem RB (ha : PE X a ta) (hb : PE X (.BoolOp .Or (b :: rest) pos) tb) : PE X (.BoolOp .Or (a :: b :: rest) pos) (VF ta tb) := by
 intro pins s σ H Q I h
 refine BoolOp_or (dG (ha pins s σ H _ I h) fun v s1 ⟨x, H1, I1, r1, q1⟩ => ?_)
 obtain ⟨c, rfl, q1⟩ := q1
 cases r1
 refine acn ?_
 cases c with
 | false => exact hb pins s1 σ H1 Q I1 q1
 | true => exact ⟨.bl true, H1, I1, rfl, q1⟩
end
def mQ (K : PySem.W.Frag) (H : Hp) (a : Addr) (xs : List V) : Prop :=
 Rd H a (.lst xs) ∨
   ∃ (o : Obj) (its : Array Value) (n : Nat), K.lookup a = some o /\ o.cls = .type "list" /\ o.dict = none /\ o.data = .seq its n /\ its.size <= sizeLine /\ Vals xs its.toList
def AJ (K : PySem.W.Frag) (H : Hp) (a : Addr) (xs : List V) : Prop :=
 Rd H a (.tup xs) ∨
   ∃ (o : Obj) (its : Array Value) (n : Nat), K.lookup a = some o /\ o.cls = .type "tuple" /\ o.data = .seq its n /\ its.size <= sizeLine /\ Vals xs its.toList
def VG : Value -> Option V
 | .none => some .non
 | .bool b => some (.bl b)
 | .int i _ => some (.int i)
 | .str x _ => some (.str x)
 | .bytes b _ => some (.Ek b)
 | .float b _ => some (.UN b)
 | .ref a => some (.ref a)
 | .type n => some (.ty n)
 | _ => none
theorem RelV.abs {x : V} {u : Value} (r : RelV x u) : VG u = some x := by
 cases x with
 | non => cases r; rfl
 | bl _ => cases r; rfl
 | int _ => obtain ⟨t, rfl⟩ := r; rfl
 | str _ => obtain ⟨t, rfl⟩ := r; rfl
 | Ek _ => obtain ⟨t, rfl⟩ := r; rfl
 | UN _ => obtain ⟨t, rfl⟩ := r; rfl
 | ref _ => cases r; rfl
 | ty _ => cases r; rfl
theorem RelV.inj {x y : V} {u : Value} (r : RelV x u) (q : RelV y u) : x = y := aaY (r.abs.symm.trans q.abs)
theorem Vals.inj : ∀ {xs ys : List V} {us : List Value}, Vals xs us -> Vals ys us -> xs = ys
 | _, _, _, .nil, .nil => rfl
 | _, _, _, .cons r t, .cons r' t' => by rw [r.inj r', Vals.inj t t']
section
variable {X : Cx} {pins : List (Addr × Obj)} {σ : St} {H : Hp} {s : Shared} {a : Addr} {xs ys : List V}
theorem mQ.of {K : PySem.W.Frag} (h : H a = some (.lst xs)) : mQ K H a xs := .inl (.inl h)
theorem AJ.of {K : PySem.W.Frag} (h : H a = some (.tup xs)) : AJ K H a xs := .inl (.inl h)
theorem Inv.list (I : Inv X pins σ H s) (h : mQ X.K H a xs) : ∃ its : List Value, Vals xs its /\ PlainL s.heap a its.toArray /\ xs.length <= sizeLine := by
 rcases h with h | ⟨o, its, n, hk, hc, hd, hs, hz, r⟩
 . obtain ⟨z, its, n, r, e⟩ := h.ok I.c7
   exact ⟨its, r, ⟨_, n, e, rfl, rfl, rfl⟩, z⟩
 . refine ⟨its.toList, r, ⟨o, n, I.yC a o hk, hc, hd, by simpa using hs⟩, ?_⟩
   have e := r.length
   simp only [abK] at e
   omega
theorem Inv.tuple (I : Inv X pins σ H s) (h : AJ X.K H a xs) : ∃ its : List Value, Vals xs its /\ IsTup s.heap a its.toArray /\ xs.length <= sizeLine := by
 rcases h with h | ⟨o, its, n, hk, hc, hs, hz, r⟩
 . obtain ⟨z, its, r, p⟩ := h.ok I.c7
   exact ⟨its, r, p, z⟩
 . refine ⟨its.toList, r, ⟨o, I.yC a o hk, hc, n, by simpa using hs⟩, ?_⟩
   have e := r.length
   simp only [abK] at e
   omega
theorem Inv.Ey (I : Inv X pins σ H s) (h : mQ X.K H a xs) (h' : mQ X.K H a ys) : xs = ys := by
 obtain ⟨its, r, ⟨o, n, e, _, _, d⟩, _⟩ := I.list h
 obtain ⟨its', r', ⟨o', n', e', _, _, d'⟩, _⟩ := I.list h'
 rw [e] at e'; cases e'
 rw [d] at d'
 injection d' with d1 _
 have : its = its' := by simpa using congrArg Array.toList d1
 subst this
 exact r.inj r'
end
abbrev Cx.wish (X : Cx) (E : Value -> Shared -> Prop) : Cx := { X with xe := E }
abbrev Cx.Ij (X : Cx) : Cx := X.wish fun _ _ => False
theorem Cx.Ok.wish {X : Cx} (ok : X.Ok) (E : Value -> Shared -> Prop) : (X.wish E).Ok :=
 ⟨ok.mod, ok.kind, ok.glob, ok.blt, ok.above, ok.inj, ok.has, ok.Rw, ok.hd, ok.frames, ok.UT, ok.Xl, ok.bs, ok.Ii, ok.Eu, ok.Ir, ok.qh, ok.NF⟩
theorem Cx.Ok.jQ {X : Cx} {E : Value -> Shared -> Prop} (ok : (X.wish E).Ok) : X.Ok :=
 ⟨ok.mod, ok.kind, ok.glob, ok.blt, ok.above, ok.inj, ok.has, ok.Rw, ok.hd, ok.frames, ok.UT, ok.Xl, ok.bs, ok.Ii, ok.Eu, ok.Ir, ok.qh, ok.NF⟩
section
variable {X : Cx} {pins : List (Addr × Obj)} {σ : St} {H : Hp} {s : Shared} {E : Value -> Shared -> Prop}
theorem Inv.wish (I : Inv X pins σ H s) (E : Value -> Shared -> Prop) : Inv (X.wish E) pins σ H s := ⟨I.ok.wish E, I.os, I.bare, I.base, I.loc, I.cell, I.free, I.jP, I.pin, I.c7, I.len⟩
theorem Inv.jQ (I : Inv (X.wish E) pins σ H s) : Inv X pins σ H s := ⟨I.ok.jQ, I.os, I.bare, I.base, I.loc, I.cell, I.free, I.jP, I.pin, I.c7, I.len⟩
theorem SP.jQ {D : Ends} {f : Flow} {s' : Shared} (h : SP (X.wish E) pins D f s') : SP X pins D f s' := by
 cases f with
 | next => obtain ⟨σ', H', I, q⟩ := h; exact ⟨σ', H', I.jQ, q⟩
 | brk => obtain ⟨σ', H', I, q⟩ := h; exact ⟨σ', H', I.jQ, q⟩
 | cont => obtain ⟨σ', H', I, q⟩ := h; exact ⟨σ', H', I.jQ, q⟩
 | ret u => obtain ⟨v, σ', H', I, r, q⟩ := h; exact ⟨v, σ', H', I.jQ, r, q⟩
theorem AI.Ij {st : List Stmt} {t : TS} (h : AI X.Ij st t) : AI X st t := fun pins s σ H D I hw =>
 abF (h pins s σ H D (I.wish _) hw) (fun _ _ q => q.jQ) fun _ _ z => False.elim z
end
section
variable {X : Cx} {st : Stmt} {rest : List Stmt} {t u : TS} {e : Expr} {te : TE} {pos : Pos}
def RC : TS := fun D σ H => D.nx σ H
def VH (t u : TS) : TS := fun D σ H => t { D with nx := u D } σ H
theorem Iz : AI X [] RC := fun _ _ σ H _ I h => wpAny_execs_nil ⟨σ, H, I, h⟩
theorem Ez (h1 : PS X st t) (h2 : AI X rest u) : AI X (st :: rest) (VH t u) := by
 intro pins s σ H D I h
 refine wpAny_execs_cons (dG (h1 pins s σ H { D with nx := u D } I h) fun f s1 q => ?_)
 cases f with
 | next =>
   obtain ⟨σ', H', I', q⟩ := q
   exact h2 pins s1 σ' H' D I' q
 | ret v => exact q
 | brk => exact q
 | cont => exact q
theorem Inv.quiet {pins : List (Addr × Obj)} {σ : St} {H : Hp} {s : Shared} (I : Inv X pins σ H s) : interactive X.env = false := by simp [interactive, I.ok.kind]
def RD (te : TE) : TS := fun D σ H => te σ H fun _ H1 => D.nx σ H1
theorem IA (he : PE X e te) (hs : swapsWith e none pos.line X.env = pure false := by rfl) : PS X (.Expr e pos) (RD te) := by
 intro pins s σ H D I h
 exact wpAny_Expr_any (dG (he pins s σ H _ I h) fun v s1 ⟨x, H1, I1, r1, q1⟩ => ⟨σ, H1, I1, q1⟩) I.quiet hs
def VJ (te : TE) : TS := fun D σ H => te σ H D.rt
theorem N1 (he : PE X e te) : PS X (.Return (some e) pos) (VJ te) := by
 intro pins s σ H D I h
 exact wpAny_Return_some (dG (he pins s σ H _ I h) fun v s1 ⟨x, H1, I1, r1, q1⟩ => ⟨x, σ, H1, I1, r1, q1⟩)
def VL (c : TT) (t u : TS) : TS := fun D σ H => c σ H fun b H1 => if b = true then t D σ H1 else u D σ H1
theorem RG {c : Expr} {a b : List Stmt} {tc : TT} (hc : PT X c tc) (ha : AI X a t) (hb : AI X b u) : PS X (.If c a b pos) (VL tc t u) := by
 intro pins s σ H D I h
 refine wpAny_If (dG (hc pins s σ H _ I h) fun d s1 ⟨H1, I1, q1⟩ => ?_)
 cases d with
 | true => exact ha pins s1 σ H1 D I1 q1
 | false => exact hb pins s1 σ H1 D I1 q1
end
abbrev TG := V -> St -> Hp -> (St -> Hp -> Prop) -> Prop
def PG (X : Cx) (target : Expr) (t : TG) : Prop :=
 ∀ (pins : List (Addr × Obj)) (s : Shared) (σ : St) (H : Hp) (v : V) (u : Value) (Q : St -> Hp -> Prop), Inv X pins σ H s -> RelV v u -> t v σ H Q →
   wpAny (model X.prog X.w) X.A (assign target X.env u) (fun _ s' => ∃ σ' H', Inv X pins σ' H' s' /\ Q σ' H') X.xe s
abbrev N2 := V -> V -> V -> Hp -> (Hp -> Prop) -> Prop
def RH (X : Cx) (t : N2) : Prop :=
 ∀ (pins : List (Addr × Obj)) (s : Shared) (σ : St) (H : Hp) (o i v : V) (ov iv u : Value) (Q : Hp -> Prop), Inv X pins σ H s -> RelV o ov -> RelV i iv -> RelV v u -> t o i v H Q →
   wpAny (model X.prog X.w) X.A (setItem ov iv u) (fun _ s' => ∃ H', Inv X pins σ H' s' /\ Q H') X.xe s
section
variable {X : Cx} {pos : Pos}
def BR (i : Nat) : TG := fun v σ H Q => Q (σ.set i (some v)) H
theorem uR {i : Nat} {x : Str} (hN : X.N.Nodup) (hi : X.N[i]? = some x) (hx : Loc X.env.scope x) (hf : X.fn x = true \/ X.env.scope.names.lookup x = some .local := by first | exact .inl rfl | exact .inr rfl | assumption) : PG X (.Name x pos) (BR i) := by
 intro pins s σ H v u Q I r h
 exact wpAny_assign_Name (yH I hN hi hx r (fun s' I' => ⟨_, H, I', h⟩) hf)
def VM (to ti : TE) (t : N2) : TG := fun v σ H Q => to σ H fun o H1 => ti σ H1 fun i H2 => t o i v H2 fun H3 => Q σ H3
theorem N3 {o i : Expr} {to ti : TE} {t : N2} (ho : PE X o to) (hi : PE X i ti) (hs : RH X t)
   (ha : ∀ v, assign (.Subscript o i pos) X.env v = (do
     let ov ← holding [v] (eval o X.env)
     let iv ← holding [v, ov] (eval i X.env)
     standAt pos
     holding [v, ov, iv] (setItem ov iv v)
     release [v, ov, iv] []) := by intro _; rfl) : PG X (.Subscript o i pos) (VM to ti t) := by
 intro pins s σ H v u Q I r h
 rw [ha]
 refine aaO (aco (dG (ho pins s σ H _ I h) fun ov s1 ⟨x, H1, I1, r1, q1⟩ => ?_))
 refine aaO (aco (dG (hi pins s1 σ H1 _ I1 q1) fun iv s2 ⟨y, H2, I2, r2, q2⟩ => ?_))
 refine aaO (wpAny_standAt (aaO (aco (dG (hs pins s2 σ H2 x y v ov iv u _ I2 r1 r2 r q2) fun _ s3 ⟨H3, I3, q3⟩ => ?_))))
 exact wpAny_release ⟨σ, H3, I3, q3⟩
def RJ (te : TE) (g : TG) : TS := fun D σ H => te σ H fun x H1 => g x σ H1 D.nx
theorem N4 {tg e : Expr} {te : TE} {g : TG} (he : PE X e te) (hg : PG X tg g) (hs : swapsWithSole [tg] e pos.line X.env = pure false := by rfl) (hw : swappedStores [tg] e X.env = pure none := by rfl)
   (h1 : (assignEach [tg] X.env).map (·.2) = [assign tg X.env] := by rfl) : PS X (.Assign [tg] e pos) (RJ te g) := by
 intro pins s σ H D I h
 refine wpAny_Assign_stores (dG (he pins s σ H _ I h) fun v s1 ⟨x, H1, I1, r1, q1⟩ => ?_) hs hw
 rw [h1]
 exact dG (hg pins s1 σ H1 x v _ I1 r1 q1) fun _ s2 q => q
theorem N5 {i : Nat} {x : Str} {e : Expr} {te : TE} {pos' : Pos} (hN : X.N.Nodup) (hi : X.N[i]? = some x) (hx : Loc X.env.scope x) (he : PE X e te) (hs : swapsWith e (some (.Name x pos')) pos.line X.env = pure false := by rfl) (hf : X.fn x = true \/ X.env.scope.names.lookup x = some .local := by first | exact .inl rfl | exact .inr rfl | assumption) :
   PS X (.Assign [.Name x pos'] e pos) (RJ te (BR i)) := by
 intro pins s σ H D I h
 refine wpAny_Assign_Name (dG (he pins s σ H _ I h) fun v s1 ⟨y, H1, I1, r1, q1⟩ => ?_) hs
 exact yH I1 hN hi hx r1 (fun s2 I2 => ⟨_, H1, I2, q1⟩) hf
end
section
variable {X : Cx} {pos : Pos}
def N6 (c : TT) (tb : TS) : TS := fun D σ H => ∃ W : Nat -> St -> Hp -> Prop, (∃ m, W m σ H) /\ ∀ m σ H, W m σ H →
 c σ H fun b H1 => if b = true then ∃ N : St -> Hp -> Prop, (∀ σ' H', N σ' H' -> ∃ m', m' < m /\ W m' σ' H') /\ tb { D with nx := N, ct := N, bk := D.nx } σ H1 else D.nx σ H1
theorem EA {c : Expr} {body : List Stmt} {tc : TT} {tb : TS} (hp : PassesOwn (model X.prog X.w) X.A X.env X.xe) (hc : PT X c tc) (hb : AI X body tb) : PS X (.While c body [] pos) (N6 tc tb) := by
 intro pins s σ H D I h
 obtain ⟨W, ⟨m0, w0⟩, turn⟩ := h
 refine wpAny_While (codeAny_whileLoop (fun n s' => ∃ σ' H', Inv X pins σ' H' s' /\ W n σ' H') ?_ m0 ⟨σ, H, I, w0⟩)
 rintro n s1 ⟨σ1, H1, I1, w1⟩
 refine abS hp (dG (hc pins s1 σ1 H1 _ I1 (turn n σ1 H1 w1)) fun b s2 ⟨H2, I2, q2⟩ => ?_)
 cases b with
 | true =>
   obtain ⟨N, hN, q2⟩ := q2
   rw [aaF rfl]
   refine abS hp (dG (hb pins s2 σ1 H2 _ I2 q2) fun f s3 q3 => ?_)
   cases f with
   | next =>
     obtain ⟨σ3, H3, I3, n3⟩ := q3
     obtain ⟨m', hm, w3⟩ := hN σ3 H3 n3
     exact ⟨m', hm, σ3, H3, I3, w3⟩
   | cont =>
     obtain ⟨σ3, H3, I3, n3⟩ := q3
     obtain ⟨m', hm, w3⟩ := hN σ3 H3 n3
     exact ⟨m', hm, σ3, H3, I3, w3⟩
   | brk => exact q3
   | ret v => exact q3
 | false =>
   rw [aaE aaL]
   exact wpAny_execs_nil ⟨σ1, H2, I2, q2⟩
end
structure It where
 go : Nat -> Hp -> Prop
 MK : Nat -> Hp -> V -> Hp -> Prop
 stop : Nat -> Hp -> Prop
def gb (X : Cx) (pins : List (Addr × Obj)) (H : Hp) (b : Addr) : Prop :=
 H b = none /\ b ≠ X.env.locals /\ b ∉ X.fs /\ (b ∈ X.ex \/ X.s₀.heap.objs.size <= b) /\ (∀ x c, X.env.cells.lookup x = some c -> c ≠ b) /\ ∀ p ∈ X.pn ++ pins, p.1 ≠ b
theorem Inv.EB {X : Cx} {pins : List (Addr × Obj)} {σ : St} {H H' : Hp} {s : Shared} {b : Addr} (I : Inv X pins σ H s) (hb : s.heap.objs.size <= b) (hn : H' b = none) : gb X pins H' b := by
 refine ⟨hn, Nat.ne_of_gt (aa5 I.lt hb), I.Vu hb, .inr (abo I.sz hb), fun x c e z => ?_, fun p hp z => ?_⟩
 . obtain ⟨v, q⟩ := I.cell x c e
   exact absurd (aa5 q.lt (by rw [z]; exact hb)) (acd _)
 . exact absurd (aa5 (aaT (I.pin p hp).1) (by rw [z]; exact hb)) (acd _)
structure Turn (P : Program) (w : World) (K : PySem.W.Frag) (tg : Expr) (J : It) (fp : List Addr) (it : Addr) (tn : Nat -> Heap -> Prop) : Prop where
 mem : it ∈ fp
 obj : ∀ i h, tn i h -> ∀ b ∈ fp, ∃ o, h.get? b = some o /\ ∀ v, o.data ≠ .cell v
 keep : ∀ i h h', tn i h -> (∀ b ∈ fp, ∀ o, h.get? b = some o -> h'.get? b = some o) -> tn i h'
 item : ∀ (X : Cx), X.prog = P -> X.w = w -> X.K = K -> X.calm = true -> ∀ (i : Nat) (pins : List (Addr × Obj)) (s : Shared) (σ : St) (H : Hp) (E : Value -> Shared -> Prop), Inv X pins σ H s -> (∀ b ∈ fp, gb X pins H b) -> tn i s.heap -> J.go i H →
   wpAny (model P w) X.A (pyNext (.ref it)) (fun r s1 => ∃ u, r = some u ∧
     wpAny (model P w) X.A (letOwnedTupleGo tg (.ref it) u) (fun _ s2 => ∃ x H', Inv X pins σ H' s2 /\ RelV x u /\ J.MK i H x H' /\ tn (i + 1) s2.heap /\ ∀ b ∈ fp, H' b = none) E s1) E s
 done : ∀ (X : Cx), X.prog = P -> X.w = w -> X.K = K -> X.calm = true -> ∀ (i : Nat) (pins : List (Addr × Obj)) (s : Shared) (σ : St) (H : Hp) (E : Value -> Shared -> Prop), Inv X pins σ H s -> (∀ b ∈ fp, gb X pins H b) -> tn i s.heap -> J.stop i H →
   wpAny (model P w) X.A (pyNext (.ref it)) (fun r s1 => r = none /\ Inv X pins σ H s1) E s
 self : ∀ (A : Around) (i : Nat) (s : Shared) (Q : Value -> Shared -> Prop) (E : Value -> Shared -> Prop), tn i s.heap -> Q (.ref it) s -> wpAny (model P w) A (pyIter (.ref it)) Q E s
abbrev TI := St -> Hp -> (It -> Hp -> Prop) -> Prop
def Xp (X : Cx) (pins : List (Addr × Obj)) (σ : St) (tg : Expr) (R : It -> Hp -> Prop) (UY : Value) (s2 : Shared) : Prop :=
 ∃ (it : Addr) (fp : List Addr) (tn : Nat -> Heap -> Prop) (J : It) (H' : Hp), UY = .ref it /\ Inv X pins σ H' s2 /\ Turn X.prog X.w X.K tg J fp it tn /\ tn 0 s2.heap /\ (∀ b ∈ fp, gb X pins H' b) /\ R J H'
def PI (X : Cx) (tg iter : Expr) (wi : TI) : Prop :=
 ∀ (pins : List (Addr × Obj)) (s : Shared) (σ : St) (H : Hp) (R : It -> Hp -> Prop), Inv X pins σ H s -> wi σ H R →
   wpAny (model X.prog X.w) X.A (eval iter X.env) (fun v s1 => wpAny (model X.prog X.w) X.A (pyIter v) (Xp X pins σ tg R) X.xe s1) X.xe s
theorem ML {M : Model} {A : Around} {E : Value -> Shared -> Prop} {s : Shared} {tg : Expr} {it : Addr} {u : Value} {o : Obj} {n : String} {vs : Array Value} {Q : Unit -> Shared -> Prop} (ho : s.heap.get? it = some o) (hc : o.cls = .type n) (hd : o.data = .fields vs)
   (hn : ["enumerate", "zip", "dict_itemiterator", "dict_reverseitemiterator", "odict_iterator", "itertools.zip_longest", "itertools.pairwise"].contains n = false) (hQ : Q () s) : wpAny M A (letOwnedTupleGo tg (.ref it) u) Q E s := by
 unfold letOwnedTupleGo
 cases tg <;> first
   | exact abk hQ
   | (cases u <;> first
       | exact abk hQ
       | (refine aaO (wpAny_load ho ?_)
          rw [hc, hd]
          show wpAny M A (if (["enumerate", "zip", "dict_itemiterator", "dict_reverseitemiterator", "odict_iterator", "itertools.zip_longest", "itertools.pairwise"].contains n && vs[0]? == some (rawInt _)) = true then _ else _) Q E s
          rw [aaE (by intro h; rw [hn, Bool.false_and] at h; cases h)]
          exact abk hQ))
def Xq (K : PySem.W.Frag) (a : Addr) : It :=
 ⟨fun i H => ∃ xs x, mQ K H a xs /\ xs[i]? = some x, fun i H x H' => H' = H /\ ∀ xs, mQ K H a xs -> xs[i]? = some x, fun i H => ∃ xs, mQ K H a xs /\ xs.length <= i⟩
def UZ (lo : Int) (n : Nat) : It := ⟨fun i _ => i < n, fun i H x H' => H' = H /\ x = .int (lo + i), fun i _ => n <= i⟩
theorem C2 {P : Program} {w : World} {K : PySem.W.Frag} {tg : Expr} (a it : Addr) : Turn P w K tg (Xq K a) [it] it (fun i h => h.IsListIter it a i) where
 mem := by simp
 obj := fun i h st b hb => by
   have e : b = it := by simpa using hb
   subst e
   obtain ⟨o, e, c, d⟩ := st
   exact ⟨o, e, fun v z => by rw [d] at z; cases z⟩
 keep := fun i h h' st k => st.at fun o e => k it (by simp) o e
 item := by
   intro X hP hw hK hc i pins s σ H E I hf st hg
   subst hP hw hK
   obtain ⟨xs, x, hq, hx⟩ := hg
   obtain ⟨its, rv, p, hz⟩ := I.list hq
   obtain ⟨u, hu, ru⟩ := rv.get hx
   obtain ⟨f0, f1, f2, f3, f4, f5⟩ := hf it (by simp)
   refine wpAny_pyNext_list_item st p.isList (x := u) (by simpa using hu) fun h' Em sb => ?_
   have I1 : Inv X pins σ H { s with heap := h' } := I.turned (t' := s.toks) (fun b o hb e => (sb.2 b hb).trans e) f0 f1 f3 f4 f5
   obtain ⟨o, e, c, d⟩ := id Em
   exact ⟨u, rfl, ML (s := { s with heap := h' }) e c d (by decide) ⟨x, H, I1, ru, ⟨rfl, fun ys hy => by rw [I.Ey hy hq]; exact hx⟩, Em, fun b hb => (hf b hb).1⟩⟩
 done := by
   intro X hP hw hK hc i pins s σ H E I hf st hg
   subst hP hw hK
   obtain ⟨xs, hq, hx⟩ := hg
   obtain ⟨its, rv, p, hz⟩ := I.list hq
   obtain ⟨f0, f1, f2, f3, f4, f5⟩ := hf it (by simp)
   have hl := rv.length
   exact wpAny_pyNext_list_end (I.ok.hd hc) st p.isList (by simp; omega) fun h' eb => ⟨rfl, I.turned (t' := s.toks) (fun b o hb e => eb b o hb e) f0 f1 f3 f4 f5⟩
 self := fun _ _ _ _ _ st h => wpAny_pyIter_listiter st h
theorem AK {P : Program} {w : World} {K : PySem.W.Frag} {tg : Expr} (it : Addr) (lo : Int) (n : Nat) : Turn P w K tg (UZ lo n) [it] it (fun i h => IsRangeIter h it (lo + (i : Nat) * 1) ((n : Int) - (i : Nat)) 1) where
 mem := by simp
 obj := fun i h st b hb => by
   have e : b = it := by simpa using hb
   subst e
   exact ⟨_, st, fun v z => by
     have z' : Data.fields _ = Data.cell v := z
     cases z'⟩
 keep := fun i h h' st k => k it (by simp) _ st
 item := by
   intro X hP hw hK hc i pins s σ H E I hf st hg
   subst hP hw hK
   obtain ⟨f0, f1, f2, f3, f4, f5⟩ := hf it (by simp)
   have W := Walks.range (prog := X.prog) (w := X.w) (I.ok.hd hc) it lo 1 n
   refine W.item i s _ _ hg st fun v h' tk hv Em kk => ?_
   obtain ⟨t, rfl⟩ := hv
   have I1 : Inv X pins σ H { s with heap := h', toks := tk } := I.turned (fun b o hb e => kk b o (by simpa using hb) e) f0 f1 f3 f4 f5
   refine ⟨_, rfl, ML (s := { s with heap := h', toks := tk }) (n := "range_iterator") Em rfl rfl (by decide) ⟨.int (lo + i), H, I1, ⟨t, ?_⟩, ⟨rfl, rfl⟩, Em, fun b hb => (hf b hb).1⟩⟩
   rw [Int.mul_one]
 done := by
   intro X hP hw hK hc i pins s σ H E I hf st hg
   subst hP hw hK
   obtain ⟨f0, f1, f2, f3, f4, f5⟩ := hf it (by simp)
   exact wpAny_pyNext_range_end (I.ok.hd hc) st (by have : n <= i := hg; omega) fun h' eb => ⟨rfl, I.turned (t' := s.toks) (fun b o hb e => eb b o hb e) f0 f1 f3 f4 f5⟩
 self := fun _ _ _ _ _ st h => wpAny_pyIter_rangeiter st h
section
variable {X : Cx} {tg : Expr}
def RK (K : PySem.W.Frag) (tl : TE) : TI := fun σ H R => tl σ H fun x H1 => ∃ a, x = .ref a /\ (∃ xs, mQ K H1 a xs) /\ R (Xq K a) H1
theorem IB {l : Expr} {tl : TE} (hl : PE X l tl) : PI X tg l (RK X.K tl) := by
 intro pins s σ H R I h
 refine dG (hl pins s σ H _ I h) fun v s1 ⟨x, H1, I1, r1, q1⟩ => ?_
 obtain ⟨a, e, ⟨xs, hq⟩, q⟩ := q1
 subst e
 cases r1
 obtain ⟨its, rv, p, hz⟩ := I1.list hq
 refine wpAny_pyIter_list p.isList ?_
 refine ⟨s1.heap.objs.size, [s1.heap.objs.size], _, _, H1, rfl, I1.kept (t' := s1.toks) fun b o e => aaN _ e, C2 a _, ⟨_, aa9 _ rfl, rfl, rfl⟩, fun b hb => ?_, q⟩
 have e : b = s1.heap.objs.size := by simpa using hb
 subst e
 exact I1.EB (aaI _) (I1.c7.fresh (aaI _))
theorem yI {pins : List (Addr × Obj)} {σ : St} {H : Hp} {s : Shared} {R : It -> Hp -> Prop} {E : Value -> Shared -> Prop} {lo hi : Int} {t u v : Tok} {tk : Nat} (I : Inv X pins σ H s) (h1 : -(2 ^ 62) <= lo) (h2 : lo < 2 ^ 62) (h3 : -(2 ^ 62) <= hi) (h4 : hi < 2 ^ 62)
   (q : R (UZ lo (hi - lo).toNat) H) : wpAny (model X.prog X.w) X.A (pyIter (.ref s.heap.objs.size)) (Xp X pins σ tg R) E { s with heap := s.heap.push { cls := .type "range", data := .fields #[.int lo t, .int hi u, .int 1 v] }, toks := tk } := by
 refine wpAny_pyIter_range (IsRange.new ..) (small_one h1 h2 h3 h4) ?_
 have I1 : Inv X pins σ H { s with heap := s.heap.push { cls := .type "range", data := .fields #[.int lo t, .int hi u, .int 1 v] }, toks := tk } := I.kept fun b o e => aaN _ e
 refine ⟨(s.heap.push { cls := .type "range", data := .fields #[.int lo t, .int hi u, .int 1 v] }).objs.size, [(s.heap.push { cls := .type "range", data := .fields #[.int lo t, .int hi u, .int 1 v] }).objs.size], _, _, H, rfl,
   I1.kept (t' := tk) fun b o e => aaN _ e, AK _ lo (hi - lo).toNat, ?_, fun b hb => ?_, q⟩
 . have e1 : lo + ((0 : Nat) : Int) * 1 = lo := by simp
   have e2 : (((hi - lo).toNat : Nat) : Int) - ((0 : Nat) : Int) = Builtin.Range.rangeSize lo hi 1 := by rw [rangeSize_one]; split <;> omega
   show IsRangeIter _ _ (lo + ((0 : Nat) : Int) * 1) ((((hi - lo).toNat : Nat) : Int) - ((0 : Nat) : Int)) 1
   rw [e1, e2]
   exact aa9 _ rfl
 . have e : b = (s.heap.push { cls := .type "range", data := .fields #[.int lo t, .int hi u, .int 1 v] }).objs.size := by simpa using hb
   subst e
   exact I1.EB (aaI _) (I1.c7.fresh (aaI _))
def RL (ta : TA) : TI := fun σ H R => ta σ H fun vs H1 => ∃ j : Int, vs = [.int j] /\ -(2 ^ 62) <= j /\ j < 2 ^ 62 /\ R (UZ 0 j.toNat) H1
def RM (ta : TA) : TI := fun σ H R => ta σ H fun vs H1 => ∃ i j : Int, vs = [.int i, .int j] /\ (-(2 ^ 62) <= i /\ i < 2 ^ 62 /\ -(2 ^ 62) <= j /\ j < 2 ^ 62) /\ R (UZ i (j - i).toNat) H1
theorem C3 {a : Expr} {ta : TA} {p pos : Pos} (hg : Gl X "range") (hm : X.mg "range" = none) (ha : PA X [a] ta) (hs : starEach [a] X.env = [(false, eval a X.env)] := by rfl) : PI X tg (.Call (.Name "range" p) [a] [] pos) (RL ta) := by
 intro pins s σ H R I h
 refine Call_ (oq I hg hm boot_range (ab8 (dG (ha pos pins s σ H _ I h) fun us s1 ⟨vs, H1, I1, r1, q1⟩ => ?_) hs rfl))
 obtain ⟨j, e, q1, q2, q⟩ := q1
 subst e
 cases r1 with
 | cons r rr =>
   cases rr
   obtain ⟨t, rfl⟩ := r
   exact call_range_1 (yI I1 (by omega) (by omega) q1 q2 (by simpa using q))
theorem C4 {a b : Expr} {ta : TA} {p pos : Pos} (hg : Gl X "range") (hm : X.mg "range" = none) (ha : PA X [a, b] ta) (hs : starEach [a, b] X.env = [(false, eval a X.env), (false, eval b X.env)] := by rfl) (N7 : starEach [b] X.env = [(false, eval b X.env)] := by rfl) :
   PI X tg (.Call (.Name "range" p) [a, b] [] pos) (RM ta) := by
 intro pins s σ H R I h
 refine Call_ (oq I hg hm boot_range (ab8 (dG (ha pos pins s σ H _ I h) fun us s1 ⟨vs, H1, I1, r1, q1⟩ => ?_) (by rw [hs, N7]) (by rw [N7]; rfl)))
 obtain ⟨i, j, e, ⟨q1, q2, q3, q4⟩, q⟩ := q1
 subst e
 cases r1 with
 | cons r rr =>
   cases rr with
   | cons r' rr =>
     cases rr
     obtain ⟨t, rfl⟩ := r
     obtain ⟨t', rfl⟩ := r'
     exact call_range_2 (yI I1 q1 q2 q3 q4 q)
def VN (wi : TI) (g : TG) (tb : TS) : TS := fun D σ H => wi σ H fun J H1 => ∃ W : Nat -> Nat -> St -> Hp -> Prop, (∃ m, W 0 m σ H1) /\ ∀ i m σ H, W i m σ H →
 (J.stop i H /\ D.nx σ H) \/ (J.go i H /\ ∃ N : St -> Hp -> Prop, (∀ σ' H', N σ' H' -> ∃ m', m' < m /\ W (i + 1) m' σ' H') /\ ∀ x H', J.MK i H x H' -> g x σ H' fun σ2 H2 => tb { D with nx := N, ct := N, bk := D.nx } σ2 H2)
def rj (fp : List Addr) (h : Heap) : List (Addr × Obj) := fp.filterMap fun b => (h.get? b).map fun o => (b, o)
theorem fE {fp : List Addr} {h : Heap} {b : Addr} {o : Obj} (hb : b ∈ fp) (e : h.get? b = some o) : (b, o) ∈ rj fp h := List.mem_filterMap.mpr ⟨b, hb, by rw [e]; rfl⟩
theorem C5 {fp : List Addr} {h : Heap} {p : Addr × Obj} (hp : p ∈ rj fp h) : p.1 ∈ fp /\ h.get? p.1 = some p.2 := by
 obtain ⟨b, hb, e⟩ := List.mem_filterMap.mp hp
 cases q : h.get? b with
 | none => rw [q] at e; cases e
 | some o =>
   rw [q] at e
   have e' : (b, o) = p := aaY e
   subst e'
   exact ⟨hb, q⟩
theorem Inv.pinned {pins : List (Addr × Obj)} {σ : St} {H : Hp} {s : Shared} {fp : List Addr} (I : Inv X pins σ H s) (hf : ∀ b ∈ fp, gb X pins H b) (ho : ∀ b ∈ fp, ∃ o, s.heap.get? b = some o /\ ∀ v, o.data ≠ .cell v) : Inv X (pins ++ rj fp s.heap) σ H s :=
 I.qp fun p hp => (aaS.mp hp).elim (fun z => I.pin p (aaD _ z)) fun z => by
   obtain ⟨hb, e⟩ := C5 z
   obtain ⟨f0, f1, f2, _⟩ := hf p.1 hb
   obtain ⟨o, e', d⟩ := ho p.1 hb
   rw [e] at e'; cases e'
   exact ⟨e, f0, f1, f2, d⟩
theorem Inv.jR {pins pl : List (Addr × Obj)} {σ : St} {H : Hp} {s : Shared} (I : Inv X (pins ++ pl) σ H s) : Inv X pins σ H s := I.qp fun p hp => I.pin p (aaD _ (aaX _ hp))
theorem N8 {iter : Expr} {body : List Stmt} {wi : TI} {g : TG} {tb : TS} {pos : Pos} (hp : PassesOwn (model X.prog X.w) X.A X.env X.xe) (hc : X.calm = true) (hi : PI X tg iter wi) (hg : PG X tg g) (hb : AI X body tb)
   (hs : ∀ x, foldedSetIterable iter X.env x = pure x := by intro _; rfl) : PS X (.For tg iter body [] pos) (VN wi g tb) := by
 intro pins s σ H D I h
 refine wpAny_For (dG (hi pins s σ H _ I h) fun v s1 h1 => dG h1 fun UY s2 h2 => ?_) hs
 obtain ⟨it, fp, tn, J, H2, e, I2, T, Yr, f2, W, ⟨m0, w0⟩, turn⟩ := h2
 subst e
 have stat : ∀ {H' : Hp}, (∀ b ∈ fp, H' b = none) -> ∀ b ∈ fp, gb X pins H' b := fun hn b hb => ⟨hn b hb, (f2 b hb).2⟩
 refine codeAny_forLoop_any (fun n s' => ∃ i σ' H', Inv X pins σ' H' s' /\ tn i s'.heap /\ (∀ b ∈ fp, H' b = none) /\ W i n σ' H') ?_ m0 ⟨0, σ, H2, I2, Yr, fun b hb => (f2 b hb).1, w0⟩
 rintro n s3 ⟨i, σ3, H3, I3, RN, Xr, w3⟩
 rcases turn i n σ3 H3 w3 with ⟨stop, qn⟩ | ⟨go, N, hN, step⟩
 . refine abS hp (dG (T.done X rfl rfl rfl hc i pins s3 σ3 H3 X.xe I3 (stat Xr) RN stop) fun r s4 ⟨hr, I4⟩ => ?_)
   subst hr
   exact wpAny_execs_nil ⟨σ3, H3, I4, qn⟩
 . refine abS hp (dG (T.item X rfl rfl rfl hc i pins s3 σ3 H3 X.xe I3 (stat Xr) RN go) fun r s4 ⟨u, hr, h4⟩ => ?_)
   subst hr
   refine abS hp (dG h4 fun _ s5 ⟨x, H5, I5, r5, y5, Rb, U0⟩ => ?_)
   have Ys := I5.pinned (stat U0) (T.obj _ _ Rb)
   refine abS hp (dG (hg _ s5 σ3 H5 x u _ Ys r5 (step x H5 y5)) fun _ s6 ⟨σ6, H6, I6, q6⟩ => ?_)
   refine abS hp (dG (hb _ s6 σ6 H6 _ I6 q6) fun f s7 q7 => ?_)
   have again : ∀ {σ7 : St} {H7 : Hp}, Inv X (pins ++ rj fp s5.heap) σ7 H7 s7 -> N σ7 H7 -> ∃ m, m < n /\ ∃ i σ' H', Inv X pins σ' H' s7 /\ tn i s7.heap /\ (∀ b ∈ fp, H' b = none) /\ W i m σ' H' := fun {σ7 H7} I7 n7 => by
     obtain ⟨m', hm, w7⟩ := hN σ7 H7 n7
     refine ⟨m', hm, i + 1, σ7, H7, I7.jR, T.keep _ _ _ Rb fun b hb o e => (I7.pin (b, o) (aaD _ (aaD _ (fE hb e)))).1, fun b hb => ?_, w7⟩
     obtain ⟨o, e, d⟩ := T.obj _ _ Rb b hb
     exact (I7.pin (b, o) (aaD _ (aaD _ (fE hb e)))).2.1
   cases f with
   | next => obtain ⟨σ7, H7, I7, n7⟩ := q7; exact again I7 n7
   | cont => obtain ⟨σ7, H7, I7, n7⟩ := q7; exact again I7 n7
   | brk => obtain ⟨σ7, H7, I7, q7⟩ := q7; exact ⟨σ7, H7, I7.jR, q7⟩
   | ret v => obtain ⟨x7, σ7, H7, I7, r7, q7⟩ := q7; exact ⟨x7, σ7, H7, I7.jR, r7, q7⟩
end
abbrev R2 := V -> V -> Hp -> VK -> Prop
def pQ (X : Cx) (f : Value -> Value -> Sem Value) (r : R2) : Prop :=
 ∀ (pins : List (Addr × Obj)) (s : Shared) (σ : St) (H : Hp) (x y : V) (v u : Value) (Q : VK), Inv X pins σ H s -> RelV x v -> RelV y u -> r x y H Q →
   wpAny (model X.prog X.w) X.A (f v u) (EP X pins σ Q) X.xe s
def VP (X : Cx) (f : Value -> Sem Value) (r : V -> Hp -> VK -> Prop) : Prop :=
 ∀ (pins : List (Addr × Obj)) (s : Shared) (σ : St) (H : Hp) (x : V) (v : Value) (Q : VK), Inv X pins σ H s -> RelV x v -> r x H Q →
   wpAny (model X.prog X.w) X.A (f v) (EP X pins σ Q) X.xe s
def pR (X : Cx) (f : Value) (r : List V -> Hp -> VK -> Prop) : Prop :=
 ∀ (pins : List (Addr × Obj)) (s : Shared) (σ : St) (H : Hp) (xs : List V) (us : List Value) (Q : VK), Inv X pins σ H s -> Vals xs us -> r xs H Q →
   wpAny (model X.prog X.w) X.A (call f us) (EP X pins σ Q) X.xe s
def U1 (r : R2) (ta tb : TE) : TE := fun σ H Q => ta σ H fun x H1 => tb σ H1 fun y H2 => r x y H2 Q
def Yt (r : V -> Hp -> VK -> Prop) (ta : TE) : TE := fun σ H Q => ta σ H fun x H1 => r x H1 Q
def rI (C : Int -> Int -> Prop) (g : Int -> Int -> V) : R2 := fun x y H Q => ∃ i j, x = .int i /\ y = .int j /\ C i j /\ Q (g i j) H
def N9 (g : Int -> Int -> V) : R2 := fun x y H Q => ∃ i j, x = .int i /\ y = .int j /\ Q (g i j) H
def rU (g : Int -> V) : V -> Hp -> VK -> Prop := fun x H Q => ∃ i, x = .int i /\ Q (g i) H
section
variable {X : Cx} {a b c : Expr} {ta tb tc : TE} {pos : Pos}
theorem Oa (ha : PE X a ta) (hb : PE X b tb) {pins : List (Addr × Obj)} {s : Shared} {σ : St} {H : Hp} {R : V -> V -> Hp -> Prop} (I : Inv X pins σ H s)
   (h : ta σ H fun x H1 => tb σ H1 fun y H2 => R x y H2) {Q : Value -> Shared -> Prop} {f : Value -> Value -> Sem Value}
   (hf : ∀ v u s2 x y H2, Inv X pins σ H2 s2 -> RelV x v -> RelV y u -> R x y H2 -> wpAny (model X.prog X.w) X.A (f v u) Q X.xe s2) :
   wpAny (model X.prog X.w) X.A (eval a X.env) (fun v s₁ => wpAny (model X.prog X.w) X.A (eval b X.env) (fun u s₂ => wpAny (model X.prog X.w) X.A (f v u) Q X.xe s₂) X.xe s₁) X.xe s := by
 refine dG (ha pins s σ H _ I h) fun v s1 ⟨x, H1, I1, r1, q1⟩ => ?_
 refine dG (hb pins s1 σ H1 _ I1 q1) fun u s2 ⟨y, H2, I2, r2, q2⟩ => ?_
 exact hf v u s2 x y H2 I2 r1 r2 q2
theorem EC {op : Operator} {r : R2} (ho : pQ X (binaryOp op) r) (ha : PE X a ta) (hb : PE X b tb) : PE X (.BinOp a op b pos) (U1 r ta tb) := by
 intro pins s σ H Q I h
 exact wpAny_BinOp (Oa ha hb I h fun v u s2 x y H2 I2 rx ry q => ho pins s2 σ H2 x y v u Q I2 rx ry q)
theorem RP {op : UnaryOp} {r : V -> Hp -> VK -> Prop} (ho : VP X (unaryOp op) r) (ha : PE X a ta) : PE X (.UnaryOp op a pos) (Yt r ta) := by
 intro pins s σ H Q I h
 exact UnaryOp_ (dG (ha pins s σ H _ I h) fun v s1 ⟨x, H1, I1, r1, q1⟩ => ho pins s1 σ H1 x v Q I1 r1 q1)
theorem U3 {f : Value -> Value -> Sem Value} {C : Int -> Int -> Prop} {g : Int -> Int -> Int}
   (rule : ∀ (i j : Int) (t u : Tok) (s : Shared) (Q : Value -> Shared -> Prop) (E : Value -> Shared -> Prop), C i j -> Q (.int (g i j) s.toks) { s with toks := s.toks + 1 } -> wpAny (model X.prog X.w) X.A (f (.int i t) (.int j u)) Q E s) :
   pQ X f (rI C fun i j => .int (g i j)) := by
 intro pins s σ H x y v u Q I rx ry h
 obtain ⟨i, j, rfl, rfl, hc, q⟩ := h
 obtain ⟨t, rfl⟩ := rx
 obtain ⟨t', rfl⟩ := ry
 exact rule i j t t' s _ _ hc ⟨.int (g i j), H, I.tok _, ⟨_, rfl⟩, q⟩
theorem RQ {f : Value -> Value -> Sem Value} {g : Int -> Int -> Int}
   (rule : ∀ (i j : Int) (t u : Tok) (s : Shared) (Q : Value -> Shared -> Prop) (E : Value -> Shared -> Prop), Q (.int (g i j) s.toks) { s with toks := s.toks + 1 } -> wpAny (model X.prog X.w) X.A (f (.int i t) (.int j u)) Q E s) :
   pQ X f (N9 fun i j => .int (g i j)) := by
 intro pins s σ H x y v u Q I rx ry h
 obtain ⟨i, j, rfl, rfl, q⟩ := h
 obtain ⟨t, rfl⟩ := rx
 obtain ⟨t', rfl⟩ := ry
 exact rule i j t t' s _ _ ⟨.int (g i j), H, I.tok _, ⟨_, rfl⟩, q⟩
theorem Ob {f : Value -> Value -> Sem Value} {g : Int -> Int -> Bool}
   (rule : ∀ (i j : Int) (t u : Tok) (s : Shared) (Q : Value -> Shared -> Prop) (E : Value -> Shared -> Prop), Q (.bool (g i j)) s -> wpAny (model X.prog X.w) X.A (f (.int i t) (.int j u)) Q E s) :
   pQ X f (N9 fun i j => .bl (g i j)) := by
 intro pins s σ H x y v u Q I rx ry h
 obtain ⟨i, j, rfl, rfl, q⟩ := h
 obtain ⟨t, rfl⟩ := rx
 obtain ⟨t', rfl⟩ := ry
 exact rule i j t t' s _ _ ⟨.bl (g i j), H, I, rfl, q⟩
def RT (i j : Int) : Prop := 0 < j /\ j < 1073741824
def RV (i j : Int) : Prop := 0 <= j /\ j <= 1000000 /\ i.natAbs < 2 ^ 64
def IC (i j : Int) : Prop := (-(2 ^ 64) < i /\ i < 2 ^ 64) \/ (-(2 ^ 64) < j /\ j < 2 ^ 64)
theorem IC.ok {i j : Int} (h : IC i j) : IntMulOk i j := by
 rcases h with ⟨h1, h2⟩ | ⟨h1, h2⟩
 . exact .of_left (intBits_le_64 h1 h2)
 . exact .of_right (intBits_le_64 h1 h2)
theorem Oc : pQ X (binaryOp .Add) (N9 fun i j => .int (i + j)) := RQ fun _ _ _ _ _ _ _ q => add_int q
theorem Od : pQ X (binaryOp .Sub) (N9 fun i j => .int (i - j)) := RQ fun _ _ _ _ _ _ _ q => sub_int q
theorem Oe : pQ X (binaryOp .Mult) (rI IC fun i j => .int (i * j)) := U3 fun _ _ _ _ _ _ _ hc q => mul_int q hc.ok
theorem IE : pQ X (binaryOp .FloorDiv) (rI RT fun i j => .int (i / j)) := U3 fun i j _ _ _ _ _ hc q => by
 have h1 : (0 : Int) < j := hc.1
 have h2 : j < 1073741824 := hc.2
 exact floordiv_int (by omega) (by rw [Int.fdiv_eq_ediv_of_nonneg i (by omega)]; exact q) (.inl (PyProof.noPylong_small (by omega)))
theorem Og : pQ X (binaryOp .Mod) (rI (fun _ j => 0 < j) fun i j => .int (i % j)) := U3 fun i j _ _ _ _ _ hc q => by
 have h1 : (0 : Int) < j := hc
 exact mod_int' (by omega) (by rw [Int.fmod_eq_emod_of_nonneg i (by omega)]; exact q)
theorem Oh : pQ X (binaryOp .Pow) (rI RV fun i j => .int (i ^ j.toNat)) := U3 fun _ _ _ _ _ _ _ hc q => pow_int_small hc.1 hc.2.1 hc.2.2 q
theorem Yu {f : Value -> Sem Value} {g : Int -> Int}
   (rule : ∀ (i : Int) (t : Tok) (s : Shared) (Q : Value -> Shared -> Prop) (E : Value -> Shared -> Prop), Q (.int (g i) s.toks) { s with toks := s.toks + 1 } -> wpAny (model X.prog X.w) X.A (f (.int i t)) Q E s) :
   VP X f (rU fun i => .int (g i)) := by
 intro pins s σ H x v Q I rx h
 obtain ⟨i, rfl, q⟩ := h
 obtain ⟨t, rfl⟩ := rx
 exact rule i t s _ _ ⟨.int (g i), H, I.tok _, ⟨_, rfl⟩, q⟩
theorem Oi : VP X (unaryOp .USub) (rU fun i => .int (-i)) := Yu fun _ _ _ _ _ q => neg_int q
end
def RW : V -> V -> Bool
 | .non, .non => true | .non, .int _ => true | .int _, .non => true | .non, .bl _ => true | .bl _, .non => true | .non, .str _ => true | .str _, .non => true
 | .int _, .int _ => true | .bl _, .bl _ => true | .str _, .str _ => true | .Ek _, .Ek _ => true
 | .int _, .str _ => true | .str _, .int _ => true | .bl _, .str _ => true | .str _, .bl _ => true
 | _, _ => false
def Yv : R2 := fun x y H Q => RW x y = true /\ Q (.bl (decide (x = y))) H
def Yw : R2 := fun x y H Q => RW x y = true /\ Q (.bl (!decide (x = y))) H
theorem BU {i j : Int} : decide (V.int i = V.int j) = (i == j) := by
 rw [Bool.eq_iff_iff]
 simp
theorem ED {i j : Bool} : decide (V.bl i = V.bl j) = (i == j) := by
 rw [Bool.eq_iff_iff]
 simp
theorem BV {i j : Str} : decide (V.str i = V.str j) = (i == j) := by
 rw [Bool.eq_iff_iff]
 simp
theorem BW {i j : Array UInt8} : decide (V.Ek i = V.Ek j) = (i.toList == j.toList) := by
 rw [Bool.eq_iff_iff]
 cases i
 cases j
 simp
section
variable {X : Cx} {a b c : Expr} {ta tb tc : TE} {pos : Pos}
theorem bG {pins : List (Addr × Obj)} {σ : St} {H : Hp} {s : Shared} {Q : VK} {k k' : Bool} (I : Inv X pins σ H s) (q : Q (.bl k) H) (e : k = k') : EP X pins σ Q (.bool k') s := by
 subst e
 exact ⟨.bl k, H, I, rfl, q⟩
theorem EE : pQ X (compareOp .Eq) Yv := by
 intro pins s σ H x y v u Q I rx ry h
 obtain ⟨hs, q⟩ := h
 cases x with
 | non =>
   cases rx
   cases y with
   | non => cases ry; exact PySem.EqNone.eq_none_none (bG I q (by simp))
   | bl j => cases ry; exact PySem.EqNone.eq_none_bool (bG I q (by simp))
   | int j => obtain ⟨t', rfl⟩ := ry; exact PySem.EqNone.eq_none_int (bG I q (by simp))
   | str j => obtain ⟨t', rfl⟩ := ry; exact PySem.EqNone.eq_none_str (bG I q (by simp))
   | _ => exact absurd (show false = true from hs) aaL
 | bl i =>
   cases rx
   cases y with
   | non => cases ry; exact PySem.EqNone.eq_bool_none (bG I q (by simp))
   | bl j => cases ry; exact eq_bool (bG I q ED)
   | str j => obtain ⟨t', rfl⟩ := ry; exact PySem.EqMixed.eq_bool_str (bG I q (by simp))
   | _ => exact absurd (show false = true from hs) aaL
 | int i =>
   obtain ⟨t, rfl⟩ := rx
   cases y with
   | non => cases ry; exact PySem.EqNone.eq_int_none (bG I q (by simp))
   | int j => obtain ⟨t', rfl⟩ := ry; exact eq_int (bG I q BU)
   | str j => obtain ⟨t', rfl⟩ := ry; exact PySem.EqMixed.eq_int_str (bG I q (by simp))
   | _ => exact absurd (show false = true from hs) aaL
 | str i =>
   obtain ⟨t, rfl⟩ := rx
   cases y with
   | non => cases ry; exact PySem.EqNone.eq_str_none (bG I q (by simp))
   | bl j => cases ry; exact PySem.EqMixed.eq_str_bool (bG I q (by simp))
   | int j => obtain ⟨t', rfl⟩ := ry; exact PySem.EqMixed.eq_str_int (bG I q (by simp))
   | str j => obtain ⟨t', rfl⟩ := ry; exact eq_str (bG I q BV)
   | _ => exact absurd (show false = true from hs) aaL
 | Ek i =>
   obtain ⟨t, rfl⟩ := rx
   cases y with
   | Ek j => obtain ⟨t', rfl⟩ := ry; exact PySem.W.eq_bytes (bG I q BW)
   | _ => exact absurd (show false = true from hs) aaL
 | _ => cases y <;> exact absurd (show false = true from hs) aaL
theorem MN : pQ X (compareOp .NotEq) Yw := by
 intro pins s σ H x y v u Q I rx ry h
 obtain ⟨hs, q⟩ := h
 cases x with
 | non =>
   cases rx
   cases y with
   | non => cases ry; exact PySem.EqNone.ne_none_none (bG I q (by simp))
   | bl j => cases ry; exact PySem.EqNone.ne_none_bool (bG I q (by simp))
   | int j => obtain ⟨t', rfl⟩ := ry; exact PySem.EqNone.ne_none_int (bG I q (by simp))
   | str j => obtain ⟨t', rfl⟩ := ry; exact PySem.EqNone.ne_none_str (bG I q (by simp))
   | _ => exact absurd (show false = true from hs) aaL
 | bl i =>
   cases rx
   cases y with
   | non => cases ry; exact PySem.EqNone.ne_bool_none (bG I q (by simp))
   | bl j => cases ry; exact ne_bool (bG I q (congrArg not ED))
   | str j => obtain ⟨t', rfl⟩ := ry; exact PySem.EqMixed.ne_bool_str (bG I q (by simp))
   | _ => exact absurd (show false = true from hs) aaL
 | int i =>
   obtain ⟨t, rfl⟩ := rx
   cases y with
   | non => cases ry; exact PySem.EqNone.ne_int_none (bG I q (by simp))
   | int j => obtain ⟨t', rfl⟩ := ry; exact ne_int (bG I q (congrArg not BU))
   | str j => obtain ⟨t', rfl⟩ := ry; exact PySem.EqMixed.ne_int_str (bG I q (by simp))
   | _ => exact absurd (show false = true from hs) aaL
 | str i =>
   obtain ⟨t, rfl⟩ := rx
   cases y with
   | non => cases ry; exact PySem.EqNone.ne_str_none (bG I q (by simp))
   | bl j => cases ry; exact PySem.EqMixed.ne_str_bool (bG I q (by simp))
   | int j => obtain ⟨t', rfl⟩ := ry; exact PySem.EqMixed.ne_str_int (bG I q (by simp))
   | str j => obtain ⟨t', rfl⟩ := ry; exact ne_str (bG I q (congrArg not BV))
   | _ => exact absurd (show false = true from hs) aaL
 | Ek i =>
   obtain ⟨t, rfl⟩ := rx
   cases y with
   | Ek j => obtain ⟨t', rfl⟩ := ry; exact PySem.W.ne_bytes (bG I q (congrArg not BW))
   | _ => exact absurd (show false = true from hs) aaL
 | _ => cases y <;> exact absurd (show false = true from hs) aaL
theorem RX : pQ X (compareOp .Lt) (N9 fun i j => .bl (decide (i < j))) := Ob fun _ _ _ _ _ _ _ q => lt_int q
theorem RZ : pQ X (compareOp .LtE) (N9 fun i j => .bl (decide (i <= j))) := Ob fun _ _ _ _ _ _ _ q => le_int q
theorem R0 : pQ X (compareOp .Gt) (N9 fun i j => .bl (decide (j < i))) := Ob fun _ _ _ _ _ _ _ q => gt_int q
theorem iu (b : Expr) {op : CmpOp} (h : op ≠ .In := by decide) (h2 : op ≠ .NotIn := by decide) : behindInMarks op b = false := by
 have e1 : (op == CmpOp.In) = false := by cases op <;> first | rfl | exact absurd rfl h
 have e2 : (op == CmpOp.NotIn) = false := by cases op <;> first | rfl | exact absurd rfl h2
 cases b <;> simp [behindInMarks, e1, e2]
theorem qu {op : CmpOp} {r : R2} (ho : pQ X (compareOp op) r) (ha : PE X a ta) (hb : PE X b tb) (hm : behindInMarks op b = false) : PE X (.Compare a [op] [b] pos) (U1 r ta tb) := by
 intro pins s σ H Q I h
 exact wpAny_Compare1 (Oa ha hb I h fun v u s2 x y H2 I2 rx ry q => ho pins s2 σ H2 x y v u Q I2 rx ry q) hm
def R1 (t : TE) : TT := fun σ H Q => t σ H fun x H' => ∃ k, x = .bl k /\ Q k H'
theorem qv {op : CmpOp} {r : R2} (ho : pQ X (compareOp op) r) (ha : PE X a ta) (hb : PE X b tb) (hm : behindInMarks op b = false) : PT X (.Compare a [op] [b] pos) (R1 (U1 r ta tb)) := by
 intro pins s σ H Q I h
 refine wpAny_isTrue_Compare1 (dG (ha pins s σ H _ I h) fun v s1 ⟨x, H1, I1, r1, q1⟩ => dG (hb pins s1 σ H1 _ I1 q1) fun u s2 ⟨y, H2, I2, r2, q2⟩ =>
   dG (ho pins s2 σ H2 x y v u _ I2 r1 r2 q2) fun c s3 ⟨z, H3, I3, r3, k, e, q3⟩ => ?_) hm
 subst e
 cases r3
 exact acn ⟨H3, I3, q3⟩
theorem rq : (sizeLine : Nat) < 2 ^ 63 := by rw [abe]; decide
theorem AO : pQ X (binaryOp .Add) (fun x y H Q => ∃ i j, x = .str i /\ y = .str j /\ i.length + j.length <= sizeLine /\ Q (.str (i ++ j)) H) := by
 intro pins s σ H x y v u Q I rx ry h
 obtain ⟨i, j, rfl, rfl, hz, q⟩ := h
 obtain ⟨t, rfl⟩ := rx
 obtain ⟨t', rfl⟩ := ry
 exact add_str (fun t' tk => ⟨.str (i ++ j), H, I.tok _, ⟨_, rfl⟩, q⟩) hz
theorem vals1 {x : V} {us : List Value} (r : Vals [x] us) : ∃ u, us = [u] /\ RelV x u := by
 cases r with
 | cons r1 r2 => cases r2; exact ⟨_, rfl, r1⟩
theorem C6 : pR X (.type "int") (fun xs H Q => (∃ i, xs = [.int i] /\ Q (.int i) H) \/ ∃ k, xs = [.bl k] /\ Q (.int (if k then 1 else 0)) H) := by
 intro pins s σ H xs us Q I r h
 rcases h with ⟨i, rfl, q⟩ | ⟨k, rfl, q⟩
 . obtain ⟨u, rfl, t, rfl⟩ := vals1 r
   exact call_int_int ⟨.int i, H, I, ⟨_, rfl⟩, q⟩
 . obtain ⟨u, rfl, r1⟩ := vals1 r
   cases r1
   exact call_int_bool ⟨.int (if k then 1 else 0), H, I.tok _, ⟨_, rfl⟩, q⟩
theorem uS : pR X (.type "str") (fun xs H Q => ∃ i, xs = [.int i] /\ i.natAbs.log2 < 1920 /\ Q (.str (toString i)) H) := by
 intro pins s σ H xs us Q I r h
 obtain ⟨i, rfl, hz, q⟩ := h
 obtain ⟨u, rfl, t, rfl⟩ := vals1 r
 exact PySem.P.str_of_int hz ⟨.str _, H, I.tok _, ⟨_, rfl⟩, q⟩
end
structure C7 (h : Heap) (x dx C : Addr) (mA : Str -> Option Value) : Prop where
 obj : h.get? x = some (PySem.W.instObj C dx)
 ns : h.Ns1 dx mA
 ne : dx ≠ x
theorem C8 {h : Heap} {dx : Addr} {mA : Str -> Option Value} (n : h.Ns1 dx mA) : ∃ od, h.get? dx = some od /\ ∀ name, PySem.W.lookIn name od = some (mA name) := by
 obtain ⟨o, es, ep, ho, hd, hk, _, hm⟩ := n
 refine ⟨o, ho, fun name => ?_⟩
 have e := hm name
 unfold nsFind findBy at e
 rw [← Array.find?_toList] at e
 unfold PySem.W.lookIn
 rw [hd]
 dsimp only
 split
 . rename_i y q
   rw [q] at e
   exact congrArg some e
 . rename_i q
   rw [q] at e
   have a : es.toList.any (·.refKey) = false := by
     rw [List.any_eq_false]
     intro y hy
     obtain ⟨z, t, VQ⟩ := hk y (Array.mem_toList_iff.mp hy)
     simp [DictEntry.refKey, VQ]
   have a' : ¬ es.toList.any (·.refKey) = true := by rw [a]; exact aaL
   rw [aaE a']
   exact congrArg some e
theorem C7.look {h : Heap} {x dx C : Addr} {mA : Str -> Option Value} (I : C7 h x dx C mA) : ∃ od, PySem.W.InstAt h x (PySem.W.instObj C dx) C (some od) /\ ∀ name, PySem.W.lookIn name od = some (mA name) :=
 let ⟨od, ho, hl⟩ := C8 I.ns
 ⟨od, ⟨I.obj, rfl, rfl, ho⟩, hl⟩
section
variable {prog : Program} {w : World} {A : Around} {E : Value -> Shared -> Prop} {s : Shared} {K : PySem.W.Frag} {x dx C f : Addr} {mA : Str -> Option Value} {name : Str} {v : Value}
theorem get_map {expr : Bool} {Q : Value -> Shared -> Prop} (X : K.In s.heap) (I : C7 s.heap x dx C mA) (hg : PySem.W.plainGet K C name = true) (hh : PySem.W.hasDictIn K C = true)
   (ha : PySem.W.findIn K (.ref C) name = some none) (hv : mA name = some v) (Yx : PySem.W.handedIn v = true) (h : Q v { s with toks := s.toks + 1 }) :
   wpAny (model prog w) A (getAttr (.ref x) name expr) Q E s := by
 obtain ⟨od, J, hl⟩ := I.look
 exact PySem.W.get_value X J (PySem.W.plainGet_of hg).1 (PySem.W.findObj_own hh ha rfl (by rw [hl, hv])) Yx h
theorem IG {ns : List Str} {Q : Unit -> Shared -> Prop} (X : K.In s.heap) (I : C7 s.heap x dx C mA)
   (hs : PySem.W.findIn K (.ref C) "__setattr__" = some (some (.builtin "object.__setattr__"))) (hp : PySem.W.plainOver K C = true) (ht : PySem.W.takerIn K C name = some none) (hh : PySem.W.hasDictIn K C = true)
   (hw : PySem.Within mA ns) (EF : ns.length <= sizeLine)
   (h : ∀ h', C7 h' x dx C (fun y => if y = name then some v else mA y) -> Heap.SameBut dx s.heap h' -> Q () { s with heap := h', toks := s.toks + 2 }) :
   wpAny (model prog w) A (setAttr (.ref x) name v) Q E s := by
 obtain ⟨od, J, hl⟩ := I.look
 refine PySem.W.set_plain X J hs (PySem.W.osa_open (s := { s with toks := s.toks + 1 }) (r := none) X J hp ht fun b => ?_)
 obtain ⟨cd, hc, NQ⟩ := PySem.W.any_some hh
 have hx : s.heap.get? x = some ⟨.ref C, some dx, .plain, #[]⟩ := I.obj
 refine aaO (abk (aaO (aaO (wpAny_loadPart hx (aaO (PySem.W.Looks.here (s := { s with toks := s.toks + 1 }) (PySem.W.looks_clsIn X hc) ?_))))))
 rw [NQ]
 refine abk (a := some dx) (aaO (abk (aaO ?_)))
 refine wpAny_nsSet1 (s := { s with toks := s.toks + 1 }) I.ns fun h' U4 N7 => ?_
 obtain ⟨oD, esD, epD, Yy, Yz, YB⟩ := U4.count (PySem.Within.cons name v hw)
 refine aaO (wpAny_lookBehind Yy (by rw [Yz]; exact pastItsLine_dict (abo YB (by rw [aaZ]; omega))) ?_)
 exact abk (h _ ⟨(N7.2 _ (Ne.symm I.ne)).trans I.obj, U4, I.ne⟩ N7)
theorem EG {R : Result -> Shared -> Prop} {vs : List Value} {kw : List (Str × Value)} (X : K.In s.heap) (hm : PySem.W.makesIn K C = true)
   (hi : PySem.W.findIn K (.ref C) "__init__" = some (some (.ref f))) (hf : PySem.W.typeIn K (.ref f) = some (.type "function"))
   (h : codeAny (model prog w) (A.under (.builtin "type.__call__" ⟨.ref C :: vs, kw⟩)) (.call (.ref f) ⟨.ref (s.heap.objs.size + 1) :: vs, kw⟩) (PySem.W.InitBack (s.heap.objs.size + 1) R)
     { s with heap := (s.heap.push PySem.W.emptyDict).push (PySem.W.instObj C s.heap.objs.size) }) :
   codeAny (model prog w) A (.call (.ref C) ⟨vs, kw⟩) R s := by
 obtain ⟨hh, g, d, t, os⟩ := s
 exact PySem.W.make_core (PySem.W.makes_of X hm) (PySem.W.looks_findIn X hi) (fun self => PySem.W.bind_fn X self hf) (.inl rfl) h
end
def gK (f : Str) (v : V) : List (Str × V) -> List (Str × V)
 | [] => [(f, v)]
 | (g, x) :: r => if g = f then (g, v) :: r else (g, x) :: gK f v r
theorem pS (f g : Str) (v : V) : ∀ fs : List (Str × V), (gK f v fs).lookup g = if g = f then some v else fs.lookup g
 | [] => by
   show List.lookup g [(f, v)] = _
   by_cases h : g = f
   . have hb : (g == f) = true := beq_iff_eq.mpr h
     simp only [List.lookup, hb, aaF h]
   . have hb : (g == f) = false := ace.mpr h
     simp only [List.lookup, hb, aaE h]
 | (k, x) :: r => by
   have ih := pS f g v r
   rw [show gK f v ((k, x) :: r) = (if k = f then (k, v) :: r else (k, x) :: gK f v r) from rfl]
   by_cases hk : k = f
   . rw [aaF hk]
     by_cases h : g = k
     . have hb : (g == k) = true := beq_iff_eq.mpr h
       simp only [List.lookup, hb, aaF (h.trans hk)]
     . have hb : (g == k) = false := ace.mpr h
       simp only [List.lookup, hb, aaE (fun e : g = f => h (e.trans hk.symm))]
   . rw [aaE hk]
     by_cases h : g = k
     . have hb : (g == k) = true := beq_iff_eq.mpr h
       simp only [List.lookup, hb, aaE (fun e : g = f => hk (h.symm.trans e))]
     . have hb : (g == k) = false := ace.mpr h
       simp only [List.lookup, hb]
       exact ih
theorem ou (f : Str) (v : V) : ∀ fs : List (Str × V), f ∈ (gK f v fs).map (·.1) /\ ∀ g, g ∈ fs.map (·.1) -> g ∈ (gK f v fs).map (·.1)
 | [] => ⟨by simp [gK], fun g h => by simp at h⟩
 | (k, x) :: r => by
   obtain ⟨i1, i2⟩ := ou f v r
   rw [show gK f v ((k, x) :: r) = (if k = f then (k, v) :: r else (k, x) :: gK f v r) from rfl]
   by_cases hk : k = f
   . rw [aaF hk]
     subst hk
     exact ⟨by simp, fun g h => by simpa using h⟩
   . rw [aaE hk]
     refine ⟨?_, fun g h => ?_⟩
     . rw [aa8]
       exact aaM _ i1
     . rw [aa8] at h ⊢
       rcases aaH.mp h with e | e
       . exact aaH.mpr (.inl e)
       . exact aaM _ (i2 g e)
theorem pT (f : Str) (v : V) : ∀ fs : List (Str × V), (gK f v fs).length <= fs.length + 1
 | [] => by simp [gK]
 | (k, x) :: r => by
   have ih := pT f v r
   rw [show gK f v ((k, x) :: r) = (if k = f then (k, v) :: r else (k, x) :: gK f v r) from rfl]
   by_cases hk : k = f
   . rw [aaF hk, aaZ, aaZ]; omega
   . rw [aaE hk, aaZ, aaZ]; omega
theorem AH.some_of {v : V} {o : Option Value} (r : AH (some v) o) : ∃ u, o = some u /\ RelV v u := by
 cases o with
 | none => exact (show False from r).elim
 | some u => exact ⟨u, rfl, r⟩
theorem C9 {v : V} {u : Value} (r : RelV v u) : PySem.W.handedIn u = true := by
 cases v with
 | non => cases (show u = Value.none from r); rfl
 | bl b => cases (show u = Value.bool b from r); rfl
 | int i => obtain ⟨t, e⟩ := (show ∃ t, u = Value.int i t from r); cases e; rfl
 | str x => obtain ⟨t, e⟩ := (show ∃ t, u = Value.str x t from r); cases e; rfl
 | Ek b => obtain ⟨t, e⟩ := (show ∃ t, u = Value.bytes b t from r); cases e; rfl
 | UN b => obtain ⟨t, e⟩ := (show ∃ t, u = Value.float b t from r); cases e; rfl
 | ref a => cases (show u = Value.ref a from r); rfl
 | ty n => cases (show u = Value.type n from r); rfl
section
variable {P : Program} {w : World} {H H' : Hp} {h h' : Heap} {a C dx : Addr} {fs Yn : List (Str × V)}
theorem BX (c7 : qg P w H h) (e : H a = some (.ins C dx fs)) : ∃ mA, C7 h a dx C mA /\ (∀ f, AH (fs.lookup f) (mA f)) /\ PySem.Within mA (fs.map (·.1)) /\ fs.length <= 1000 /\ H dx = some (.own a) := by
 obtain ⟨d, z, ne, ob, mA, n, r, q⟩ := (show fP P w H h a (.ins C dx fs) from c7 a _ e)
 exact ⟨mA, ⟨ob, n, ne⟩, r, q, z, d⟩
end
structure tS (K : PySem.W.Frag) (C : Addr) : Prop where
 pg : PySem.W.plainGet K C Str.empty = true
 hd : PySem.W.hasDictIn K C = true
 po : PySem.W.plainOver K C = true
 sa : PySem.W.findIn K (.ref C) "__setattr__" = some (some (.builtin "object.__setattr__"))
theorem tS.get {K : PySem.W.Frag} {C : Addr} (c : tS K C) (f : Str) : PySem.W.plainGet K C f = true := c.pg
def aV (K : PySem.W.Frag) (C : Addr) (f : Str) : Prop := PySem.W.findIn K (.ref C) f = some none
theorem aV.R3 {K : PySem.W.Frag} {C : Addr} {f : Str} (n : aV K C f) : PySem.W.takerIn K C f = some none := by
 unfold PySem.W.takerIn
 rw [show PySem.W.findIn K (.ref C) f = some none from n]
 rfl
section
variable {X : Cx} {pins : List (Addr × Obj)} {σ : St} {H : Hp} {s : Shared} {a C dx : Addr} {fs : List (Str × V)} {f : Str} {v : V} {A : Around} {E : Value -> Shared -> Prop}
theorem AQ {b : Bool} {Q : Value -> Shared -> Prop} (I : Inv X pins σ H s) (e : H a = some (.ins C dx fs)) (c : tS X.K C) (n : aV X.K C f) (l : fs.lookup f = some v)
   (h : ∀ u s', Inv X pins σ H s' -> RelV v u -> Q u s') : wpAny (model X.prog X.w) A (getAttr (.ref a) f b) Q E s := by
 obtain ⟨mA, O, r, _, _, _⟩ := BX I.c7 e
 obtain ⟨u, hu, ru⟩ := AH.some_of (v := v) (o := mA f) (by rw [← l]; exact r f)
 exact get_map I.yC O (c.get f) c.hd n hu (C9 ru) (h u _ (I.tok _) ru)
theorem AU {y : V} {u : Value} {Q : Unit -> Shared -> Prop} (I : Inv X pins σ H s) (e : H a = some (.ins C dx fs)) (c : tS X.K C) (n : aV X.K C f) (hl : fs.length < 1000) (ry : RelV y u)
   (h : ∀ s', Inv X pins σ (upd H a (.ins C dx (gK f y fs))) s' -> Q () s') : wpAny (model X.prog X.w) A (setAttr (.ref a) f u) Q E s := by
 obtain ⟨mA, O, r, wi, _, ho⟩ := BX I.c7 e
 have hz : (fs.map (·.1)).length <= sizeLine := by rw [aaK, abe]; omega
 refine IG I.yC O c.sa c.po n.R3 c.hd wi hz fun h' O' sb => h _ ?_
 have hd : ∃ o, h'.get? dx = some o := let ⟨o, _, _, e', _⟩ := O'.ns; ⟨o, e'⟩
 refine I.write (x := a) (e := dx) (by rw [e]; exact True.intro) (.inr ho) (fun b q hb z => (sb.2 b hb).trans z) hd ?_
 refine ⟨by rw [av O.ne]; exact ho, ?_, O.ne, O'.obj, _, O'.ns, fun g => ?_, fun g hg => ?_⟩
 . have := pT f y fs; omega
 . show AH ((gK f y fs).lookup g) (if g = f then some u else mA g)
   rw [pS]
   by_cases q : g = f
   . rw [aaF q, aaF q]; exact ry
   . rw [aaE q, aaE q]; exact r g
 . by_cases q : g = f
   . rw [q]; exact (ou f y fs).1
   . refine (ou f y fs).2 g (wi g fun z => hg ?_)
     show (if g = f then some u else mA g) = none
     rw [aaE q]; exact z
theorem Inv.made (I : Inv X pins σ H s) : Inv X pins σ (upd (upd H s.heap.objs.size (.own (s.heap.objs.size + 1))) (s.heap.objs.size + 1) (.ins C s.heap.objs.size []))
   { s with heap := (s.heap.push PySem.W.emptyDict).push (PySem.W.instObj C s.heap.objs.size) } := by
 have e1 : (s.heap.push PySem.W.emptyDict).get? s.heap.objs.size = some PySem.W.emptyDict := aa9 s.heap rfl
 have e2 : ((s.heap.push PySem.W.emptyDict).push (PySem.W.instObj C s.heap.objs.size)).get? (s.heap.objs.size + 1) = some (PySem.W.instObj C s.heap.objs.size) := by
   have := aa9 (s.heap.push PySem.W.emptyDict) (o := PySem.W.instObj C s.heap.objs.size) rfl
   rwa [Heap.size_push] at this
 have e3 : (s.heap.push PySem.W.emptyDict).Ns s.heap.objs.size (fun _ => none) := ⟨PySem.W.emptyDict, #[], _, e1, rfl, (fun e he => absurd he (by simp)), fun _ => rfl⟩
 have I1 := I.laid (a := s.heap.objs.size) (o := .own (s.heap.objs.size + 1)) (h' := s.heap.push PySem.W.emptyDict) (t' := s.toks) (fun b u q => aaN _ q) (aaI _) ⟨_, e1⟩
 refine I1.laid (a := s.heap.objs.size + 1) (o := .ins C s.heap.objs.size []) (t' := s.toks) (fun b u q => aaN _ q) (Nat.le_of_eq (Heap.size_push _ _)) ?_
 have ne : s.heap.objs.size ≠ s.heap.objs.size + 1 := abh (Nat.lt_succ_self _)
 refine ⟨by rw [av ne, aN], abf _, ne, e2, fun _ => none, (Heap.Ns1.of_empty e3).at fun o q => aaN _ q, fun _ => True.intro, fun y hy => absurd rfl hy⟩
theorem II {prog : Program} {w : World} {env : Env} {e : Expr} {f : Str} {pos : Pos} {s : Shared} {Q : Value -> Shared -> Prop} (hb : attributeBase e f env (eval e env) = eval e env)
   (h : wpAny (model prog w) A (eval e env) (fun o s₁ => wpAny (model prog w) A (getAttr o f true) Q E s₁) E s) : wpAny (model prog w) A (eval (.Attribute e f pos) env) Q E s :=
 Attribute_any_ h (by rw [arm_eval_Attribute, hb])
end
def VR (K : PySem.W.Frag) (ta : TE) (f : Str) : TE := fun σ H Q => ta σ H fun x H1 => ∃ a C dx fs v, x = .ref a /\ H1 a = some (.ins C dx fs) /\ tS K C /\ aV K C f /\ fs.lookup f = some v /\ Q v H1
def VW (K : PySem.W.Frag) (ta tv : TE) (f : Str) : TS := fun D σ H => tv σ H fun y H1 => ta σ H1 fun x H2 => ∃ a C dx fs, x = .ref a /\ H2 a = some (.ins C dx fs) /\ tS K C /\ aV K C f /\ fs.length < 1000 ∧
 D.nx σ (upd H2 a (.ins C dx (gK f y fs)))
section
variable {X : Cx} {o e value : Expr} {f : Str} {pos pos' VX : Pos} {ta tv : TE}
theorem EH (he : PE X e ta) (hb : attributeBase e f X.env (eval e X.env) = eval e X.env) : PE X (.Attribute e f pos) (VR X.K ta f) := by
 intro pins s σ H Q I h
 refine II hb (dG (he pins s σ H _ I h) fun u s1 ⟨x, H1, I1, rx, a, C, dx, fs, v, ex, ea, c, n, l, q⟩ => ?_)
 subst ex
 obtain rfl : u = Value.ref a := rx
 exact AQ I1 ea c n l fun u' s2 I2 ru => ⟨v, H1, I2, ru, q⟩
theorem Oj (ha : PE X o ta) (hv : PE X value tv) (hs : swapsWith value (some (.Attribute o f pos')) pos.line X.env = pure false) : PS X (.Assign [.Attribute o f pos'] value pos) (VW X.K ta tv f) := by
 intro pins s σ H D I h
 refine plainObj_wpAny_Assign_Attribute (dG (hv pins s σ H _ I h) fun u s1 ⟨y, H1, I1, ry, q⟩ => dG (ha pins s1 σ H1 _ I1 q) fun ov s2 ⟨x, H2, I2, rx, a, C, dx, fs, ex, ea, c, n, l, q2⟩ => ?_) hs
 subst ex
 obtain rfl : ov = Value.ref a := rx
 exact AU I2 ea c n l ry fun s3 I3 => ⟨σ, _, I3, q2⟩
end
section
variable {X : Cx} {pins : List (Addr × Obj)} {σ : St} {H : Hp} {s : Shared} {A : Around} {E : Value -> Shared -> Prop} {Q : Value -> Shared -> Prop} {c : Value} {b : Bool}
end
structure dR (k : Nat) (A : Around) : Prop where
 hd : A.handled = none
 dp : A.depth + 3 * k + 5 < recursionLimit
 un : A.units + 16 * k + 200 < cLine
theorem dR.mono {j k : Nat} {A : Around} (r : dR k A) (h : j <= k) : dR j A := ⟨r.hd, by have := r.dp; omega, by have := r.un; omega⟩
theorem dR.deeper {k : Nat} {A : Around} (r : dR (k + 1) A) (env : Env) : dR k (A.deeper env) :=
 ⟨r.hd, by have := r.dp; show A.depth + 1 + 3 * k + 5 < _; omega, by have := r.un; show A.units + 3 + 16 * k + 200 < _; omega⟩
theorem AV {A : Around} {C : Addr} {us : List Value} {kw : List (Str × Value)} : (A.under (.builtin "type.__call__" ⟨.ref C :: us, kw⟩)).depth = A.depth + 1 := by
 first | rfl | simp [Around.under, Code.weight, Code.isCreation, Code.isGuard, Code.isCaller, Code.frames, Code.isFrame, guardIds]
theorem AW {A : Around} {C : Addr} {us : List Value} {kw : List (Str × Value)} : (A.under (.builtin "type.__call__" ⟨.ref C :: us, kw⟩)).units = A.units + 1 := by
 first | rfl | simp [Around.under, Code.cUnits, Code.frames, Code.isFrame]
theorem dR.make {k : Nat} {A : Around} (r : dR (k + 1) A) (C : Addr) (us : List Value) (kw : List (Str × Value)) : dR k (A.under (.builtin "type.__call__" ⟨.ref C :: us, kw⟩)) :=
 ⟨r.hd, by have := r.dp; rw [AV]; omega, by have := r.un; rw [AW]; omega⟩
theorem dR.depth {k : Nat} {A : Around} (r : dR k A) : A.depth < recursionLimit := by have := r.dp; omega
theorem dR.units {k : Nat} {A : Around} (r : dR k A) : A.units + 64 < cLine := by have := r.un; omega
def EI : TA := fun _ H Q => Q [] H
def BZ (ta : TE) (tr : TA) : TA := fun σ H Q => ta σ H fun x H1 => tr σ H1 fun xs H2 => Q (x :: xs) H2
section
variable {X : Cx} {e : Expr} {es : List Expr} {te : TE} {t : TA} {pos : Pos}
theorem fX : PA X [] EI := fun _ _ _ _ H Q I h => Calls.spliced_nil ⟨[], H, I, .nil, h⟩
theorem cO (ha : PE X e te) (hr : PA X es t) (hs : starEach (e :: es) X.env = (false, eval e X.env) :: starEach es X.env := by rfl) : PA X (e :: es) (BZ te t) := by
 intro pos pins s σ H Q I h
 rw [hs]
 show wpAny _ _ (spliced ((false, eval e X.env) :: backTo pos (starEach es X.env))) _ _ s
 refine Calls.spliced_cons (dG (ha pins s σ H _ I h) fun u s1 ⟨x, H1, I1, r1, q1⟩ => ?_)
 exact dG (hr pos pins s1 σ H1 _ I1 q1) fun us s2 ⟨xs, H2, I2, r2, q2⟩ => ⟨x :: xs, H2, I2, .cons r1 r2, q2⟩
def VY (t : TA) : TE := fun σ H Q => t σ H fun xs H1 => xs.length <= sizeLine /\ ∀ p, H1 p = none -> Q (.ref p) (upd H1 p (.tup xs))
def VZ (t : TA) : TE := fun σ H Q => t σ H fun xs H1 => xs.length <= sizeLine /\ ∀ p, H1 p = none -> Q (.ref p) (upd H1 p (.lst xs))
theorem Ol {x1} (h : PA X es t) : PE X (.Tuple es x1 pos) (VY t) := by
 intro pins s σ H Q I hq
 refine wpAny_Tuple_spliced (dG (h pos pins s σ H _ I hq) fun us s1 ⟨xs, H1, I1, r, z, q⟩ => ⟨by rw [← r.length]; exact z, ?_⟩)
 have hf : H1 s1.heap.objs.size = none := I1.c7.fresh (aaI _)
 refine ⟨.ref s1.heap.objs.size, upd H1 s1.heap.objs.size (.tup xs), I1.laid (t' := s1.toks) (fun b u e => aaN _ e) (aaI _) ?_, rfl, q _ hf⟩
 exact ⟨z, us, r, ⟨_, aa9 _ rfl, rfl, _, rfl⟩⟩
theorem Om (h : PA X es t) : PE X (.List es pos) (VZ t) := by
 intro pins s σ H Q I hq
 refine wpAny_List_spliced (dG (h pos pins s σ H _ I hq) fun us s1 ⟨xs, H1, I1, r, z, q⟩ => ⟨by rw [← r.length]; exact z, ?_⟩)
 have hf : H1 s1.heap.objs.size = none := I1.c7.fresh (aaI _)
 refine ⟨.ref s1.heap.objs.size, upd H1 s1.heap.objs.size (.lst xs), I1.laid (t' := s1.toks) (fun b u e => aaN _ e) (aaI _) ?_, rfl, q _ hf⟩
 exact ⟨z, us, 0, r, aa9 _ rfl⟩
end
abbrev Sp := List V -> Hp -> VK -> XK -> Prop
abbrev EJ := List Env -> Hp -> Shared -> XK -> Value -> Shared -> Prop
structure AX (P : Program) (w : World) (K : PySem.W.Frag) (mg : Str -> Option Value) (base : Heap) (A : Around) (outer : List Env) (s : Shared) (H : Hp) : Prop where
 frames : A.frames = some outer
 mod : Mod K mg base
 bs : ∀ b o, base.get? b = some o -> s.heap.get? b = some o /\ H b = none
 Ii : base.objs.size <= s.heap.objs.size
 qh : s.heap.FunFrames base outer
 NF : ∀ b ∈ El outer, H b = none
 c7 : qg P w H s.heap
 bare : AllBare s.gens
def CE (outer : List Env) (P : Program) (w : World) (H : Hp) (s : Shared) (Q : VK) (u : Value) (s' : Shared) : Prop :=
 ∃ v H', s'.os = s.os /\ AllBare s'.gens /\ Un (El outer) [] H H' s.heap s'.heap /\ qg P w H' s'.heap /\ RelV v u /\ Q v H'
def CR (CX : EJ) (outer : List Env) (P : Program) (w : World) (H : Hp) (s : Shared) (Q : VK) (E : XK) (r : Result) (s' : Shared) : Prop :=
 match r with
 | .ok (.ret u) => CE outer P w H s Q u s'
 | .ok _ => False
 | .error e => CX outer H s E e s'
structure bL (P : Program) (w : World) (K : PySem.W.Frag) (mg : Str -> Option Value) (base : Heap) (CX : EJ) (k : Nat) (f : Addr) (fd : FuncData) (ps : List Str) (sp : Sp) : Prop where
 len : ∀ vs H Q E, sp vs H Q E -> vs.length = ps.length
 run : ∀ (A : Around) (outer : List Env) (s : Shared) (H : Hp) (args : Args) (us : List Value) (vs : List V) (Q : VK) (E : XK), dR k A -> AX P w K mg base A outer s H -> BindsTo s fd args (ps.zip us) -> Vals vs us -> sp vs H Q E →
   codeAny (model P w) A (.call (.ref f) args) (CR CX outer P w H s Q E) s
theorem bL.imp {P : Program} {w : World} {K : PySem.W.Frag} {mg : Str -> Option Value} {base : Heap} {CX : EJ} {k : Nat} {f : Addr} {fd : FuncData} {ps : List Str} {sp Xs : Sp} (F : bL P w K mg base CX k f fd ps sp)
   (h : ∀ vs H Q E, Xs vs H Q E -> sp vs H Q E) : bL P w K mg base CX k f fd ps Xs :=
 ⟨fun vs H Q E q => F.len vs H Q E (h _ _ _ _ q), fun A outer s H args us vs Q E hr he hb hv hs => F.run A outer s H args us vs Q E hr he hb hv (h _ _ _ _ hs)⟩
theorem AX.make {P : Program} {w : World} {K : PySem.W.Frag} {mg : Str -> Option Value} {base : Heap} {A : Around} {outer : List Env} {s : Shared} {H : Hp} (e : AX P w K mg base A outer s H) (C : Addr) (us : List Value) (kw : List (Str × Value)) :
   AX P w K mg base (A.under (.builtin "type.__call__" ⟨.ref C :: us, kw⟩)) outer s H := ⟨by first | exact e.frames | (simpa [Around.under, Code.envs, Code.isFrame, pushEnvs] using e.frames), e.mod, e.bs, e.Ii, e.qh, e.NF, e.c7, e.bare⟩
section
variable {X : Cx} {pins : List (Addr × Obj)} {σ : St} {H : Hp} {s s' : Shared}
theorem Inv.R4 (I : Inv X pins σ H s) : AX X.prog X.w X.K X.mg X.base X.A X.stack s H :=
 ⟨I.ok.frames, I.ok.mod, I.bs, abo I.ok.Ii I.sz, I.stack, I.uQ, I.c7, I.bare⟩
theorem Inv.after {Q : VK} {u : Value} (I : Inv X pins σ H s) (h : CE X.stack X.prog X.w H s Q u s') : EP X pins σ Q u s' := by
 obtain ⟨v, H', os, bare, un, c7, r, q⟩ := h
 obtain ⟨hh, g, d, t, Rc⟩ := s'
 obtain rfl : Rc = s.os := os
 exact ⟨v, H', I.call (h' := hh) (g' := g) (d' := d) (t' := t) (ch := []) un c7 bare (fun b z => absurd z (by simp)), r, q⟩
end
def MP (sp : Sp) (yJ : List V) (E : XK) (t : TA) : TE := fun σ H Q => t σ H fun vs H1 => sp (vs ++ yJ) H1 Q E
def R5 (C : Addr) (sp : Sp) (yJ : List V) (E : XK) (t : TA) : TE := fun σ H Q => t σ H fun vs H1 => ∀ x dx, H1 x = none -> H1 dx = none -> dx ≠ x →
 sp (.ref x :: (vs ++ yJ)) (upd (upd H1 dx (.own x)) x (.ins C dx [])) (fun v H2 => v = .non /\ Q (.ref x) H2) E
def Binds (K : PySem.W.Frag) (fd : FuncData) (ps : List Str) (ds : List Value) : Prop :=
 ∀ (s : Shared) (us : List Value), K.In s.heap -> (us ++ ds).length = ps.length -> BindsTo s fd ⟨us, []⟩ (ps.zip (us ++ ds))
theorem Binds.all {K : PySem.W.Frag} {fd : FuncData} {ps : List Str} (h : ∀ us : List Value, us.length = ps.length -> bindArgs fd ⟨us, []⟩ = pure (ps.zip us)) : Binds K fd ps [] := fun s us _ hl => by
 rw [abq] at hl ⊢
 exact .of_eq (h us hl)
def Passes (CX : EJ) (X : Cx) (E : XK) : Prop := ∀ (pins : List (Addr × Obj)) (σ : St) (H : Hp) (s : Shared) (e : Value) (s' : Shared), Inv X pins σ H s -> CX X.stack H s E e s' -> X.xe e s'
section
variable {X : Cx} {CX : EJ} {k : Nat} {f C : Addr} {fd : FuncData} {ps : List Str} {sp : Sp} {yJ : List V} {ds : List Value} {E : XK} {x m : Str} {p pos apos : Pos} {e o : Expr} {es : List Expr} {ta : TE} {t : TA}
theorem EK {pins : List (Addr × Obj)} {σ : St} {H : Hp} {s : Shared} {Q : VK} {us : List Value} {vs : List V} (F : bL X.prog X.w X.K X.mg X.base CX k f fd ps sp) (hr : dR k X.A) (hb : Binds X.K fd ps ds) (hd : Vals yJ ds) (hx : Passes CX X E)
   (I : Inv X pins σ H s) (r : Vals vs us) (h : sp (vs ++ yJ) H Q E) : wpAny (model X.prog X.w) X.A (call (.ref f) us) (EP X pins σ Q) X.xe s := by
 have r2 : Vals (vs ++ yJ) (us ++ ds) := r.append hd
 have hl : (us ++ ds).length = ps.length := by rw [← r2.length]; exact F.len _ _ _ _ h
 refine wpAny_call (codeAny_mono (F.run X.A X.stack s H ⟨us, []⟩ (us ++ ds) (vs ++ yJ) Q E hr I.R4 (hb s us I.yC hl) r2 h) fun r s' hq => ?_)
 cases r with
 | error e => exact hx pins σ H s e s' I hq
 | ok fl =>
   cases fl with
   | ret u => exact I.after hq
   | next => exact False.elim hq
   | brk => exact False.elim hq
   | cont => exact False.elim hq
theorem IJ (F : bL X.prog X.w X.K X.mg X.base CX k f fd ps sp) (hr : dR k X.A) (hg : Gl X x) (hm : X.mg x = some (.ref f)) (hk : PySem.W.keepIn X.K (.ref f) = true) (hb : Binds X.K fd ps ds) (hd : Vals yJ ds) (hx : Passes CX X E)
   (ha : PA X (e :: es) t) (tV : (x == ("__debug__" : Str)) = false := by decide) (he : starEach (e :: es) X.env = (false, eval e X.env) :: starEach es X.env := by rfl) (tW : (backTo pos (starEach es X.env)).any (·.1) = false := by rfl) :
   PE X (.Call (.Name x p) (e :: es) [] pos) (MP sp yJ E t) := by
 intro pins s σ H Q I h
 refine abP (qq I hg hm ?_ tV)
 refine PySem.W.callWith_K (h₀ := X.base) I.ok.mod.UR hk (dG (ha pos pins s σ H _ I h) fun us s1 ⟨vs, H1, I1, r, q⟩ => ⟨I1.yC, ?_⟩) he tW
 exact EK F hr hb hd hx I1 r q
theorem EL (F : bL X.prog X.w X.K X.mg X.base CX k f fd ps sp) (hr : dR k X.A) (hg : Gl X x) (hm : X.mg x = some (.ref f)) (hk : PySem.W.keepIn X.K (.ref f) = true) (hb : Binds X.K fd ps ds) (hd : Vals yJ ds) (hx : Passes CX X E)
   (tV : (x == ("__debug__" : Str)) = false := by decide) : PE X (.Call (.Name x p) [] [] pos) (MP sp yJ E EI) := by
 intro pins s σ H Q I h
 refine abP (qq I hg hm ?_ tV)
 exact PySem.W.callWith_K0 I.yC hk (EK (us := []) F hr hb hd hx I .nil h)
structure Mk (K : PySem.W.Frag) (C f : Addr) : Prop where
 makes : PySem.W.makesIn K C = true
 init : PySem.W.findIn K (.ref C) "__init__" = some (some (.ref f))
 fn : PySem.W.isFn K (.ref f) = true
 kp : PySem.W.keepIn K (.ref C) = true
theorem ER {pins : List (Addr × Obj)} {σ : St} {H : Hp} {s : Shared} {Q : VK} {us : List Value} {vs : List V} (M : Mk X.K C f) (F : bL X.prog X.w X.K X.mg X.base CX k f fd ps sp) (hr : dR (k + 1) X.A) (hb : Binds X.K fd ps ds) (hd : Vals yJ ds)
   (hx : Passes CX X E) (I : Inv X pins σ H s) (r : Vals vs us)
   (h : ∀ x dx, H x = none -> H dx = none -> dx ≠ x -> sp (.ref x :: (vs ++ yJ)) (upd (upd H dx (.own x)) x (.ins C dx [])) (fun v H2 => v = .non /\ Q (.ref x) H2) E) :
   wpAny (model X.prog X.w) X.A (call (.ref C) us) (EP X pins σ Q) X.xe s := by
 have hq := h (s.heap.objs.size + 1) s.heap.objs.size (I.c7.fresh (Nat.le_succ _)) (I.c7.fresh (aaI _)) (abh (Nat.lt_succ_self _))
 have I2 := Inv.made (C := C) I
 have r2 : Vals (V.ref (s.heap.objs.size + 1) :: (vs ++ yJ)) (Value.ref (s.heap.objs.size + 1) :: (us ++ ds)) := .cons rfl (r.append hd)
 have hl : (Value.ref (s.heap.objs.size + 1) :: us ++ ds).length = ps.length := by
   have e := r2.length
   rw [F.len _ _ _ _ hq] at e
   exact e.symm
 refine wpAny_call (EG (f := f) I.yC M.makes M.init (beq_iff_eq.mp M.fn) (codeAny_mono (F.run _ X.stack _ _ ⟨Value.ref (s.heap.objs.size + 1) :: us, []⟩ (Value.ref (s.heap.objs.size + 1) :: (us ++ ds)) _ _ E (hr.make C us [])
   (I2.R4.make C us []) (hb _ (Value.ref (s.heap.objs.size + 1) :: us) I2.yC hl) r2 hq) fun r s' R6 => ?_))
 cases r with
 | error e => exact hx pins σ _ _ e s' I2 R6
 | ok fl =>
   cases fl with
   | ret u =>
     obtain ⟨v, H', I3, rv, ev, q3⟩ := I2.after R6
     subst ev
     exact ⟨rv, ⟨V.ref (s.heap.objs.size + 1), H', I3, rfl, q3⟩⟩
   | next => exact False.elim R6
   | brk => exact False.elim R6
   | cont => exact False.elim R6
theorem B3 (M : Mk X.K C f) (F : bL X.prog X.w X.K X.mg X.base CX k f fd ps sp) (hr : dR (k + 1) X.A) (hg : Gl X x) (hm : X.mg x = some (.ref C)) (hb : Binds X.K fd ps ds) (hd : Vals yJ ds) (hx : Passes CX X E)
   (ha : PA X (e :: es) t) (tV : (x == ("__debug__" : Str)) = false := by decide) (he : starEach (e :: es) X.env = (false, eval e X.env) :: starEach es X.env := by rfl) (tW : (backTo pos (starEach es X.env)).any (·.1) = false := by rfl) :
   PE X (.Call (.Name x p) (e :: es) [] pos) (R5 C sp yJ E t) := by
 intro pins s σ H Q I h
 refine abP (qq I hg hm ?_ tV)
 refine PySem.W.callWith_K (h₀ := X.base) I.ok.mod.UR M.kp (dG (ha pos pins s σ H _ I h) fun us s1 ⟨vs, H1, I1, r, q⟩ => ⟨I1.yC, ?_⟩) he tW
 exact ER M F hr hb hd hx I1 r q
end
def PK (X : Cx) (kws : List Keyword) (t : TA) : Prop :=
 ∀ (pos : Pos) (pins : List (Addr × Obj)) (s : Shared) (σ : St) (H : Hp) (Q : List V -> Hp -> Prop), Inv X pins σ H s -> t σ H Q -> wpAny (model X.prog X.w) X.A (evalAll ((backToKw pos (keywordEach kws X.env)).map (·.2))) (AP X pins σ Q) X.xe s
section
variable {X : Cx} {CX : EJ} {k : Nat} {f C : Addr} {fd : FuncData} {ps ks : List Str} {sp : Sp} {E : XK} {x m : Str} {p pos apos V0 : Pos} {e o : Expr} {es : List Expr} {kws : List Keyword} {te ta : TE} {t tk : TA} {nm : Option Str}
theorem Oo : PK X [] EI := fun _ _ _ _ H Q I h => wpAny_evalAll_nil ⟨[], H, I, .nil, h⟩
theorem IK (ha : PE X e te) (hr : PK X kws t) : PK X (⟨nm, e, V0⟩ :: kws) (BZ te t) := by
 intro pos pins s σ H Q I h
 show wpAny _ _ (evalAll ((do let v ← eval e X.env; standAt pos; pure v) :: (backToKw pos (keywordEach kws X.env)).map (·.2))) _ _ s
 refine wpAny_evalAll_cons (aaO (dG (ha pins s σ H _ I h) fun u s1 ⟨x, H1, I1, r1, q1⟩ => aaO (wpAny_standAt (abk ?_))))
 exact dG (hr pos pins s1 σ H1 _ I1 q1) fun us s2 ⟨xs, H2, I2, r2, q2⟩ => ⟨x :: xs, H2, I2, .cons r1 r2, q2⟩
variable {g : List Value -> List Value -> List Value} {gV : List V -> List V -> List V}
end
structure aK (N P : List Str) (sc : Scope) : Prop where
 kind : sc.kind = .function
 co : sc.isCoroutine = false
 gen : sc.isGenerator = false
 nd : N.Nodup
 pre : N.take P.length = P
 par : ∀ x ∈ P, sc.names.lookup x = some .local \/ sc.names.lookup x = some .cell
 Oq : ∀ y ∈ sc.names, y.2 ≠ .free
theorem uh {kindOf : Str -> Option NameKind} {x : Str} : ∀ {binds : List (Str × Value)} {m : Str -> Option Value}, (∀ v, (x, v) ∉ binds) -> bindL kindOf binds m x = m x
 | [], _, _ => rfl
 | (n, v) :: r, m, h => by
   unfold bindL
   rw [uh fun w hw => h w (aaM _ hw)]
   split
   . have : x ≠ n := by rintro rfl; exact h v aaP
     simp [this]
   . rfl
theorem um {kindOf : Str -> Option NameKind} {x : Str} : ∀ {binds : List (Str × Value)} {m : Str -> Option Value}, (∀ v, (x, v) ∉ binds) -> bindC kindOf binds m x = m x
 | [], _, _ => rfl
 | (n, v) :: r, m, h => by
   unfold bindC
   rw [um fun w hw => h w (aaM _ hw)]
   split
   . rfl
   . have : x ≠ n := by rintro rfl; exact h v aaP
     simp [this]
theorem uo {kindOf : Str -> Option NameKind} {x : Str} {v : Value} : ∀ {P : List Str} {vs : List Value} {i : Nat} {m : Str -> Option Value}, P.Nodup -> P[i]? = some x -> vs[i]? = some v -> kindOf x = some .local →
   bindL kindOf (P.zip vs) m x = some v
 | [], _, _, _, _, h, _, _ => by simp at h
 | _ :: _, [], _, _, _, _, h, _ => by simp at h
 | p :: P, w :: vs, 0, m, nd, h1, h2, hk => by
   simp at h1 h2; subst h1; subst h2
   show bindL kindOf ((p, w) :: P.zip vs) m p = _
   unfold bindL
   rw [uh fun v hv => (abT.mp nd).1 (List.of_mem_zip hv).1, aaF hk]
   simp
 | p :: P, w :: vs, i + 1, m, nd, h1, h2, hk => by
   show bindL kindOf ((p, w) :: P.zip vs) m x = _
   unfold bindL
   exact uo (i := i) (List.nodup_cons.mp nd).2 (by simpa using h1) (by simpa using h2) hk
theorem uq {kindOf : Str -> Option NameKind} {x : Str} {v : Value} : ∀ {P : List Str} {vs : List Value} {i : Nat} {m : Str -> Option Value}, P.Nodup -> P[i]? = some x -> vs[i]? = some v -> kindOf x ≠ some .local →
   bindC kindOf (P.zip vs) m x = some v
 | [], _, _, _, _, h, _, _ => by simp at h
 | _ :: _, [], _, _, _, _, h, _ => by simp at h
 | p :: P, w :: vs, 0, m, nd, h1, h2, hk => by
   simp at h1 h2; subst h1; subst h2
   show bindC kindOf ((p, w) :: P.zip vs) m p = _
   unfold bindC
   rw [um fun v hv => (abT.mp nd).1 (List.of_mem_zip hv).1, aaE hk]
   simp
 | p :: P, w :: vs, i + 1, m, nd, h1, h2, hk => by
   show bindC kindOf ((p, w) :: P.zip vs) m x = _
   unfold bindC
   exact uq (i := i) (List.nodup_cons.mp nd).2 (by simpa using h1) (by simpa using h2) hk
def start (N : List Str) (vs : List V) : St := vs.map some ++ List.replicate (N.length - vs.length) none
def rA (CX : EJ) (P : Program) (w : World) (K : PySem.W.Frag) (mg : Str -> Option Value) (base : Heap) (N : List Str) (qual : Str) (scope : Scope) (f : Addr) (cd : Value) (A : Around) (outer : List Env) (s : Shared) (H : Hp) (E : XK) : Cx where
 prog := P
 w := w
 K := K
 mg := mg
 base := base
 A := A.deeper (envOfC qual scope s.heap.objs.size f cd)
 N := N
 s₀ := s
 H₀ := H
 env := envOfC qual scope s.heap.objs.size f cd
 outer := outer
 stack := envOfC qual scope s.heap.objs.size f cd :: outer
 ex := []
 calm := true
 fn := fun _ => true
 pn := []
 xe := fun e s' => wpAny (model P w) (A.deeper (envOfC qual scope s.heap.objs.size f cd)) (leaving (envOfC qual scope s.heap.objs.size f cd) e) (fun _ Rf => CX outer H s E e Rf) (fun e' Rf => CX outer H s E e' Rf) s'
theorem yK {sc : Scope} {n : Nat} {x : Str} (h : sc.names.lookup x = some .cell) : ∃ c, (cellsFrom n sc.names []).lookup x = some c := by
 have q := PySem.W.cellsFrom_some sc.names n [] (.inl h)
 exact Option.isSome_iff_exists.mp q
theorem Dc {CX : EJ} {P : Program} {w : World} {K : PySem.W.Frag} {mg : Str -> Option Value} {base : Heap} {N ps : List Str} {qual : Str} {scope : Scope} {f : Addr} {cd : Value} {A : Around} {outer : List Env} {s s1 : Shared} {H : Hp} {E : XK} {us : List Value} {vs : List V}
   (S : aK N ps scope) (hd : A.handled = none) (e0 : AX P w K mg base A outer s H) (hl : vs.length = ps.length) (r : Vals vs us)
   (x : InCallC s s.heap.objs.size (bindL (envOfC qual scope s.heap.objs.size f cd).kindOf (ps.zip us) fun _ => none) (cellsFrom (s.heap.objs.size + 1) scope.names []) (bindC (envOfC qual scope s.heap.objs.size f cd).kindOf (ps.zip us) fun _ => none) s1) :
   Inv (rA CX P w K mg base N qual scope f cd A outer s H E) [] (start N vs) H s1 := by
 have tW : ps.length <= N.length := by have := congrArg List.length S.pre; rw [List.length_take] at this; omega
 obtain ⟨h1, tk, rfl, hk⟩ := x.done
 have Rg : ∀ b : Addr, b ∉ (rA CX P w K mg base N qual scope f cd A outer s H E).ex := fun b z => absurd (show b ∈ ([] : List Addr) from z) (by simp)
 refine ⟨⟨e0.mod, S.kind, rfl, rfl, aaI _, fun y z c h1 h2 => ?_, fun y hy => ?_, fun y c _ h => ?_, fun _ => hd, Around.frames_deeper e0.frames, .inr ⟨rfl, rfl⟩, fun b z => absurd z (Rg b), e0.bs, e0.Ii, fun b _ _ => Rg b, fun b z => absurd z (Rg b), e0.qh, e0.NF⟩,
   rfl, e0.bare, Un.kept hk, ⟨_, x.toInCall.ns, fun i y v h1 h2 h3 => ?_⟩, fun y c h => ⟨_, x.cell y c h⟩, e0.c7.fresh (aaI _), fun y c h => ?_, fun p hp => absurd (show p ∈ ([] : List (Addr × Obj)) from hp) (by simp), e0.c7.kept hk, ?_⟩
 . exact name_of_addr x.apart (aby h1) (aby h2)
 . have hy : scope.names.lookup y = some .cell \/ scope.names.lookup y = some .free := hy
   rcases hy with hy | hy
   . exact yK hy
   . exact absurd rfl (S.Oq _ (aby hy))
 . exact abE (x.above y c (aby h))
 . have hi : i < vs.length := by
     unfold start at h2
     by_cases hi : i < vs.length
     . exact hi
     . rw [List.getElem?_append_right (by simpa using hi)] at h2
       rw [List.getElem?_replicate] at h2
       split at h2 <;> cases h2
   have ha : vs[i]? = some v := by
     unfold start at h2
     rw [List.getElem?_append_left (by simpa using hi), List.getElem?_map] at h2
     cases e : vs[i]? with
     | none => rw [e] at h2; cases h2
     | some a => rw [e] at h2; cases h2; rfl
   obtain ⟨u, hu, rv⟩ := r.get ha
   have hp : ps[i]? = some y := by
     rw [← S.pre, List.getElem?_take_of_lt (by omega)]; exact h1
   have Xu : ps.Nodup := by rw [← S.pre]; exact S.nd.sublist (List.take_sublist _ _)
   refine ⟨u, rv, ?_⟩
   rcases S.par y (abu hp) with k | k
   . exact .inl ⟨k, uo Xu hp hu k⟩
   . obtain ⟨c, e⟩ := yK (n := s.heap.objs.size + 1) k
     refine .inr ⟨.inl k, c, e, ?_⟩
     have q := x.cell y c e
     rw [uq Xu hp hu (by show scope.names.lookup y ≠ _; rw [k]; decide)] at q
     exact q
 . exact e0.c7.fresh (abE (x.above y c (aby h)))
 . unfold start
   show _ = N.length
   rw [aa1, aaK, abH]
   omega
theorem MQ {CX : EJ} {P : Program} {w : World} {K : PySem.W.Frag} {mg : Str -> Option Value} {base : Heap} {k : Nat} {f : Addr} {name qual : Str} {params : Arguments} {body : List Stmt} {scope : Scope} {dV kV doc pm cS ct oc : Value} {an od : Option Addr}
   {Ik : Array (Option Value)} {N ps : List Str} {sp : Sp} (lk : K.lookup f = some ⟨oc, od, .func (PySem.W.fnOf name qual params body scope dV kV doc pm an cS ct), Ik⟩) (iL : PySem.W.codeIn K cS qual = true) (S : aK N ps scope)
   (len : ∀ vs H Q E, sp vs H Q E -> vs.length = ps.length)
   (yL : ∀ (A : Around) (outer : List Env) (s : Shared) (H : Hp) (vs : List V) (Q : VK) (E : XK), dR k (A.deeper (envOfC qual scope s.heap.objs.size f cS)) -> sp vs H Q E →
     ∃ t, AI (rA CX P w K mg base N qual scope f cS A outer s H E) body t /\ t { nx := fun _ H' => Q .non H', rt := Q } (start N vs) H) :
   bL P w K mg base CX (k + 1) f (PySem.W.fnOf name qual params body scope dV kV doc pm an cS ct) ps sp := by
 refine ⟨len, fun A outer s H args us vs Q E hr e0 hb r AY => ?_⟩
 have hl := len _ _ _ _ AY
 have KX : K.In s.heap := e0.mod.UR.keeps fun b o e => (e0.bs b o e).1
 have lim : s.heap.NoLimit := e0.mod.nolimit.keeps fun b o e => (e0.bs b o e).1
 have rB : ∀ y ∈ ps.zip us, scope.names.lookup y.1 = some .local \/ (scope.names.lookup y.1 = some .cell /\ ((cellsFrom (s.heap.objs.size + 1) scope.names []).lookup y.1).isSome = true) := fun ⟨n, v⟩ hy => by
   rcases S.par n (List.of_mem_zip hy).1 with q | q
   . exact .inl q
   . exact .inr ⟨q, PySem.W.cellsFrom_some _ _ _ (.inl q)⟩
 refine codeAny_call_function hr.depth (KX _ _ lk) rfl S.co S.gen rfl (PySem.W.codeRec_of KX iL) (hb _ _ _ _ ?_)
 refine wpAny_newFunctionEnv_cells S.kind rB fun env he s1 x => ?_
 subst he
 refine ⟨lim.keeps x.toInCall.keep, codeAny_func ?_⟩
 obtain ⟨t, ht, hq⟩ := yL A outer s H vs Q E (hr.deeper _) AY
 have I : Inv (rA CX P w K mg base N qual scope f cS A outer s H E) [] (start N vs) H s1 := Dc S hr.hd e0 hl r x
 refine abF (ht [] s1 (start N vs) H _ I hq) (fun fl s' hs => ?_) fun e s' hs => hs
 have fin : ∀ {σ' : St} {H' : Hp} {v : V} {u : Value}, Inv (rA CX P w K mg base N qual scope f cS A outer s H E) [] σ' H' s' -> RelV v u -> Q v H' -> CE outer P w H s Q u s' :=
   fun {σ' H' v u} J rv q => ⟨v, H', J.os, J.bare, J.base, J.c7, rv, q⟩
 cases fl with
 | ret u =>
   obtain ⟨v, σ', H', J, rv, q⟩ := hs
   exact fin J rv q
 | next =>
   obtain ⟨σ', H', J, q⟩ := hs
   exact fin (v := V.non) (u := Value.none) J rfl q
 | brk =>
   obtain ⟨_, _, _, q⟩ := hs
   exact False.elim q
 | cont =>
   obtain ⟨_, _, _, q⟩ := hs
   exact False.elim q
section
variable {X : Cx} {x : Str} {p pos : Pos} {e : Expr} {es : List Expr} {t : TA} {id T : String} {r : List V -> Hp -> VK -> Prop}
def Xv (r : List V -> Hp -> VK -> Prop) (t : TA) : TE := fun σ H Q => t σ H fun vs H1 => r vs H1 Q
theorem yM (hc : pR X (.builtin id) r) (hg : Gl X x) (hm : X.mg x = none) (hv : bootBuiltins x = some (.builtin id)) (ha : PA X (e :: es) t) (hn : x ≠ "__name__" := by decide) (tV : (x == ("__debug__" : Str)) = false := by decide)
   (he : starEach (e :: es) X.env = (false, eval e X.env) :: starEach es X.env := by rfl) (tW : (backTo pos (starEach es X.env)).any (·.1) = false := by rfl) : PE X (.Call (.Name x p) (e :: es) [] pos) (Xv r t) := by
 intro pins s σ H Q I h
 refine abP (oq I hg hm hv ?_ hn tV)
 exact PyProof.Rows.callWith_builtin1 (dG (ha pos pins s σ H _ I h) fun us s1 ⟨vs, H1, I1, r1, q1⟩ => hc pins s1 σ H1 vs us Q I1 r1 q1) he tW
theorem kI (hc : pR X (.type T) r) (hg : Gl X x) (hm : X.mg x = none) (hv : bootBuiltins x = some (.type T)) (ha : PA X (e :: es) t) (hn : x ≠ "__name__" := by decide) (tV : (x == ("__debug__" : Str)) = false := by decide)
   (he : starEach (e :: es) X.env = (false, eval e X.env) :: starEach es X.env := by rfl) (tW : (backTo pos (starEach es X.env)).any (·.1) = false := by rfl) : PE X (.Call (.Name x p) (e :: es) [] pos) (Xv r t) := by
 intro pins s σ H Q I h
 refine abP (oq I hg hm hv ?_ hn tV)
 exact ab8 (dG (ha pos pins s σ H _ I h) fun us s1 ⟨vs, H1, I1, r1, q1⟩ => hc pins s1 σ H1 vs us Q I1 r1 q1) he tW
end
end L2
namespace HT
open PySem PyProof.Rows
section
open PySem.SeqAt
open PySem.AutoSeq1 (wpAny_loadPart')
open PySem.MeetsSeq PySem.MeetsSeq2 PySem.MeetsSeq3
end
section
variable {prog : Program} {w : World} {A : Around} {E : Value -> Shared -> Prop} {s : Shared}
def qi (n d : Nat) : Option Int -> Nat
 | none => d
 | some v => if v < 0 then (v + (n : Int)).toNat else min v.toNat n
end
end HT
namespace L2
open PySem PySem.Spec PyProof.Rows
abbrev TO := St -> Hp -> (Option Int -> Hp -> Prop) -> Prop
def PO (X : Cx) (e : Option Expr) (t : TO) : Prop :=
 ∀ (pins : List (Addr × Obj)) (s : Shared) (σ : St) (H : Hp) (Q : Option Int -> Hp -> Prop), Inv X pins σ H s -> t σ H Q →
   wpAny (model X.prog X.w) X.A (evalPart e X.env) (fun u s' => ∃ o H', Inv X pins σ H' s' /\ IsPart u o /\ Q o H') X.xe s
def IL : TO := fun _ H Q => Q none H
def R7 (t : TE) : TO := fun σ H Q => t σ H fun x H1 => ∃ i, x = .int i /\ Q (some i) H1
section
variable {X : Cx} {e : Expr} {te : TE} {lo hi : Option Expr} {tl th : TO} {pos p2 : Pos}
theorem IQ : PO X none IL := by
 intro pins s σ H Q I h
 rw [evalPart_none]
 exact abk ⟨none, H, I, .none, h⟩
theorem IU (h : PE X e te) : PO X (some e) (R7 te) := by
 intro pins s σ H Q I hw
 rw [evalPart_some]
 refine dG (h pins s σ H _ I hw) fun u s1 ⟨x, H1, I1, r1, q1⟩ => ?_
 obtain ⟨i, rfl, q⟩ := q1
 obtain ⟨t, rfl⟩ := r1
 exact ⟨some i, H1, I1, .int i t, q⟩
def V1 (X : Cx) (r : V -> Option Int -> Option Int -> Hp -> VK -> Prop) : Prop :=
 ∀ (pins : List (Addr × Obj)) (s : Shared) (σ : St) (H : Hp) (x : V) (v vl vu : Value) (lo hi : Option Int) (sl : Addr) (Q : VK), Inv X pins σ H s -> RelV x v -> s.heap.IsSliceOf sl vl vu .none -> IsPart vl lo -> IsPart vu hi -> r x lo hi H Q →
   ∃ T id, typeLookup (.type T) "__getitem__" = pure (some (.builtin id)) /\ s.TypeIs v T /\ wpAny (model X.prog X.w) X.A (getItem v (.ref sl)) (EP X pins σ Q) X.xe s
def YC (r : V -> Option Int -> Option Int -> Hp -> VK -> Prop) (te : TE) (tl th : TO) : TE := fun σ H Q => te σ H fun x H1 => tl σ H1 fun l H2 => th σ H2 fun u H3 => r x l u H3 Q
theorem yN {r : V -> Option Int -> Option Int -> Hp -> VK -> Prop} (hr : V1 X r) (he : PE X e te) (hl : PO X lo tl) (hu : PO X hi th) : PE X (.Subscript e (.Slice lo hi none p2) pos) (YC r te tl th) := by
 intro pins s σ H Q I h
 refine Subscript_ (dG (he pins s σ H _ I h) fun v s1 ⟨x, H1, I1, r1, q1⟩ => ?_)
 refine wpAny_Slice (dG (hl pins s1 σ H1 _ I1 q1) fun vl s2 ⟨l, H2, I2, pl, q2⟩ => dG (hu pins s2 σ H2 _ I2 q2) fun vu s3 ⟨u, H3, I3, pu, q3⟩ => ?_)
 rw [evalPart_none]
 refine abk ?_
 have I4 : Inv X pins σ H3 { s3 with heap := s3.heap.push { cls := .type "slice", data := .fields #[vl, vu, .none] } } := I3.kept (t' := s3.toks) fun b ob q => aaN _ q
 obtain ⟨T, id, hT, ht, hg⟩ := hr pins { s3 with heap := s3.heap.push { cls := .type "slice", data := .fields #[vl, vu, .none] } } σ H3 x v vl vu l u s3.heap.objs.size Q I4 r1 (Heap.IsSliceOf.new ..) pl pu q3
 show wpAny (model X.prog X.w) X.A (subscriptTail e (.Slice lo hi none p2) v (.ref s3.heap.objs.size)) (EP X pins σ Q) X.xe { s3 with heap := s3.heap.push { cls := .type "slice", data := .fields #[vl, vu, .none] } }
 exact tail_any (ops := [.ref s3.heap.objs.size, v]) ht hT hg (by with_unfolding_all rfl)
def Dd (xs : List V) (lo hi : Option Int) : List V := (xs.drop (HT.qi xs.length 0 lo)).take (HT.qi xs.length xs.length hi - HT.qi xs.length 0 lo)
theorem yO (xs : List V) (lo hi : Option Int) : (Dd xs lo hi).length <= xs.length := by
 unfold Dd
 rw [List.length_take, List.length_drop]
 omega
end
def De (n : Nat) (i : Int) : Option Nat := if 0 <= i then (if i < n then some i.toNat else none) else if -(n : Int) <= i then some (i + n).toNat else none
def rC {α : Type} (xs : List α) (i : Int) : Option α := (De xs.length i).bind fun j => xs[j]?
theorem uT {n : Nat} {i : Int} {j : Nat} (h : De n i = some j) : seqIndex? i n = some j /\ j < n /\ -(n : Int) <= i /\ i < n := by
 unfold De at h
 by_cases h0 : 0 <= i
 . rw [aaF h0] at h
   by_cases h1 : i < n
   . rw [aaF h1] at h
     have e : i.toNat = j := aaY h
     exact ⟨by rw [seqIndex_of h0 h1, e], by omega, by omega, h1⟩
   . rw [aaE h1] at h; cases h
 . rw [aaE h0] at h
   by_cases h1 : -(n : Int) <= i
   . rw [aaF h1] at h
     have e : (i + n).toNat = j := aaY h
     exact ⟨by rw [seqIndex_neg (by omega) h1, e], by omega, h1, by omega⟩
   . rw [aaE h1] at h; cases h
theorem uU {α : Type} {xs : List α} {i : Int} {v : α} (h : rC xs i = some v) : ∃ j, seqIndex? i xs.length = some j /\ xs[j]? = some v /\ j < xs.length /\ -(xs.length : Int) <= i /\ i < xs.length := by
 unfold rC at h
 cases e : De xs.length i with
 | none => rw [e] at h; cases h
 | some j =>
   rw [e] at h
   obtain ⟨h1, h2, h3, h4⟩ := uT e
   exact ⟨j, h1, h, h2, h3, h4⟩
theorem gf {α : Type} {xs : List α} {j : Nat} {v : α} (h : xs[j]? = some v) : rC xs (j : Int) = some v := by
 have hj : j < xs.length := (aa4.mp h).1
 have e : De xs.length (j : Int) = some j := by
   unfold De
   rw [aaF (by omega), aaF (by omega)]; simp
 unfold rC; rw [e]; exact h
def mR (b : Expr) : Prop := ∀ o i, subscripted b false o i = operate [o, i] (getItem o i)
def U5 (X : Cx) (r : R2) : Prop :=
 ∀ (value slice : Expr) (pins : List (Addr × Obj)) (s : Shared) (σ : St) (H : Hp) (x y : V) (v u : Value) (Q : VK), Inv X pins σ H s -> RelV x v -> RelV y u -> r x y H Q →
   subscripted slice false v u = operate [v, u] (getItem v u) -> wpAny (model X.prog X.w) X.A (subscriptTail value slice v u) (EP X pins σ Q) X.xe s
def YD (X : Cx) (id : String) (r : V -> List V -> Hp -> VK -> Prop) : Prop :=
 ∀ (pins : List (Addr × Obj)) (s : Shared) (σ : St) (H : Hp) (x : V) (xs : List V) (v : Value) (us : List Value) (Q : VK), Inv X pins σ H s -> RelV x v -> Vals xs us -> r x xs H Q →
   wpAny (model X.prog X.w) X.A (call (.builtin id) (v :: us)) (EP X pins σ Q) X.xe s
section
variable {X : Cx} {a b : Expr} {ta tb : TE} {pos : Pos}
theorem B4 {r : R2} (hr : U5 X r) (ha : PE X a ta) (hb : PE X b tb) (hs : mR b) : PE X (.Subscript a b pos) (U1 r ta tb) := by
 intro pins s σ H Q I h
 exact Subscript_ (Oa ha hb I h fun v u s2 x y H2 I2 rx ry q => hr a b pins s2 σ H2 x y v u Q I2 rx ry q (hs _ _))
def V2 (K : PySem.W.Frag) : R2 := fun x y H Q => ∃ p xs i v, x = .ref p /\ y = .int i /\ mQ K H p xs /\ rC xs i = some v /\ Q v H
def V3 (K : PySem.W.Frag) : R2 := fun x y H Q => ∃ p xs i v, x = .ref p /\ y = .int i /\ AJ K H p xs /\ rC xs i = some v /\ Q v H
def V4 : R2 := fun x y H Q => ∃ z i c, x = .str z /\ y = .int i /\ z.length <= sizeLine /\ rC z.cps.toList i = some c /\ Q (.str ⟨#[c]⟩) H
theorem B5 : U5 X (V2 X.K) := by
 intro value slice pins s σ H x y v u Q I rx ry h hs
 obtain ⟨p, xs, i, z, rfl, rfl, hq, he, q⟩ := h
 cases rx
 obtain ⟨t, rfl⟩ := ry
 obtain ⟨its, r, pl, hz⟩ := I.list hq
 obtain ⟨j, h1, h2, h3, h4, h5⟩ := uU he
 obtain ⟨w, ew, Ot⟩ := r.get h2
 have hl := r.length
 have hn := rq
 have fin : EP X pins σ Q w s := ⟨z, H, I, Ot, q⟩
 by_cases h0 : 0 <= i
 . have hj : i.toNat = j := by
     rw [seqIndex_of h0 h5] at h1
     exact aaY h1
   exact item_listR pl.isList h0 (by omega) (by rw [hj]; simpa using ew) fin hs
 . have hj : (i + (its.toArray.size : Int)).toNat = j := by
     rw [seqIndex_neg (by omega) h4] at h1
     rw [aa0, ← hl]
     exact aaY h1
   exact subscriptTail_builtinR (x := w) pl.isList.typeIs slot_list_getitem.lookup
     (wpAny_getItem_list_neg (Q := fun r s' => r = w /\ EP X pins σ Q r s') pl.isList (by omega) (by rw [List.size_toArray] <;> omega) (by omega) (by rw [hj]; simpa using ew) ⟨rfl, fin⟩) hs
theorem Ou : U5 X (V3 X.K) := by
 intro value slice pins s σ H x y v u Q I rx ry h hs
 obtain ⟨p, xs, i, z, rfl, rfl, hq, he, q⟩ := h
 cases rx
 obtain ⟨t, rfl⟩ := ry
 obtain ⟨its, r, pl, hz⟩ := I.tuple hq
 obtain ⟨j, h1, h2, h3, h4, h5⟩ := uU he
 obtain ⟨w, ew, Ot⟩ := r.get h2
 have hl := r.length
 have hn := rq
 have fin : EP X pins σ Q w s := ⟨z, H, I, Ot, q⟩
 exact subscriptTail_builtinR (x := w) pl.typeIs slot_tuple_getitem.lookup
   (getItem_tuple (j := j) (Q := fun r s' => r = w /\ EP X pins σ Q r s') pl (by omega) (by omega) (by rw [List.size_toArray, ← hl]; exact h1) (by simpa using ew) ⟨rfl, fin⟩) hs
theorem Ov : U5 X V4 := by
 intro value slice pins s σ H x y v u Q I rx ry h hs
 obtain ⟨z, i, c, rfl, rfl, hz, he, q⟩ := h
 obtain ⟨t, rfl⟩ := rx
 obtain ⟨t', rfl⟩ := ry
 obtain ⟨j, h1, h2, h3, h4, h5⟩ := uU he
 have hl : z.cps.toList.length = z.length := by simp [Str.length]
 rw [hl] at h1 h4 h5
 have hn := rq
 exact tail_any (typeIs_str s z t) slot_str_getitem.lookup (getItem_str (c := c) (by
   have e1 : decide (i < -(2 ^ 63 : Int)) = false := abj (by omega)
   have e2 : decide (i ≥ 2 ^ 63) = false := abj (by omega)
   rw [e1, e2, Bool.or_false]) (by rw [h1]; simpa using h2) ⟨.str ⟨#[c]⟩, H, I.tok _, ⟨_, rfl⟩, q⟩) hs
theorem AZ (its : List Value) (n j : Nat) (u : Value) : Obj.mapSeq (·.setIfInBounds j u) { cls := .type "list", data := .seq its.toArray n } = { cls := .type "list", data := .seq (its.set j u).toArray n } := by
 simp [Obj.mapSeq]
theorem Inv.lst {pins : List (Addr × Obj)} {σ : St} {H : Hp} {s : Shared} {p : Addr} {xs : List V} (I : Inv X pins σ H s) (h : H p = some (.lst xs)) :
   ∃ (its : List Value) (n : Nat), Vals xs its /\ s.heap.get? p = some { cls := .type "list", data := .seq its.toArray n } /\ xs.length <= sizeLine := by
 obtain ⟨z, its, n, r, e⟩ := I.c7 p _ h
 exact ⟨its, n, r, e, z⟩
theorem Inv.Ow {pins : List (Addr × Obj)} {σ : St} {H : Hp} {s : Shared} {p : Addr} {xs ys : List V} {its its' : List Value} {n n' : Nat} {f : Obj -> Obj} (I : Inv X pins σ H s) (h : H p = some (.lst xs))
   (ho : s.heap.get? p = some { cls := .type "list", data := .seq its.toArray n }) (hf : f { cls := .type "list", data := .seq its.toArray n } = { cls := .type "list", data := .seq its'.toArray n' }) (r : Vals ys its') (hz : ys.length <= sizeLine) (t : Nat) :
   Inv X pins σ (upd H p (.lst ys)) { s with heap := s.heap.update p f, toks := t } := by
 have e : (s.heap.update p f).get? p = some { cls := .type "list", data := .seq its'.toArray n' } := by
   rw [Heap.get?_update_self f ho (by rw [hf] <;> rfl), hf]
 refine I.write (x := p) (e := p) (by rw [h]; trivial) (.inl rfl) (fun b u hb q => (Heap.get?_update_other _ _ (Ne.symm hb)).trans q) ⟨_, e⟩ ?_
 exact ⟨hz, its', n', r, e⟩
def R8 : V -> V -> V -> Hp -> (Hp -> Prop) -> Prop := fun o i v H Q => ∃ p xs k j, o = .ref p /\ i = .int k /\ H p = some (.lst xs) /\ De xs.length k = some j /\ Q (upd H p (.lst (xs.set j v)))
theorem set_list : RH X R8 := by
 intro pins s σ H o i v ov iv u Q I ro ri rv h
 obtain ⟨p, xs, k, j, rfl, rfl, hp, hj, q⟩ := h
 cases ro
 obtain ⟨t, rfl⟩ := ri
 obtain ⟨its, n, r, ho, hz⟩ := I.lst hp
 obtain ⟨h1, h2, h3, h4⟩ := uT hj
 have hl := r.length
 have hn := rq
 have I' : Inv X pins σ (upd H p (.lst (xs.set j v))) { s with heap := s.heap.update p (Obj.mapSeq (·.setIfInBounds j u)) } :=
   I.Ow hp ho (AZ its n j u) (r.set rv j) (by rw [List.length_set]; exact hz) s.toks
 by_cases h0 : 0 <= k
 . have hk : k.toNat = j := by
     rw [seqIndex_of h0 h4] at h1
     exact aaY h1
   exact PySem.W.ki_setAt ho h0 (by omega) (by rw [aa0, ← hl]; exact h4) (by rw [hk]; exact ⟨_, I', q⟩)
 . have hk : (k + (its.toArray.size : Int)).toNat = j := by
     rw [seqIndex_neg (by omega) h3] at h1
     rw [aa0, ← hl]
     exact aaY h1
   exact PySem.W.ki_setBack ho (by omega) (by rw [aa0, ← hl]; exact h3) (by omega) (by rw [hk]; exact ⟨_, I', q⟩)
theorem uV (lo hi : Option Int) (n : Nat) : (sliceBounds lo hi none n).1 = ((HT.qi n 0 lo : Nat) : Int) /\ (sliceBounds lo hi none n).2.1 = ((HT.qi n n hi : Nat) : Int) /\ (sliceBounds lo hi none n).2.2 = 1 := by
 refine ⟨?_, ?_, rfl⟩
 . cases lo with
   | none => simp [sliceBounds, HT.qi]
   | some i =>
     simp only [sliceBounds, HT.qi, Option.getD_none, show (1 : Int) > 0 by decide, ab4]
     by_cases h : i < 0
     . simp only [h, ab4] <;> omega
     . simp only [h, abU] <;> omega
 . cases hi with
   | none => simp [sliceBounds, HT.qi]
   | some i =>
     simp only [sliceBounds, HT.qi, Option.getD_none, show (1 : Int) > 0 by decide, ab4]
     by_cases h : i < 0
     . simp only [h, ab4] <;> omega
     . simp only [h, abU] <;> omega
theorem tX (its : List Value) (lo hi : Option Int) : slicePick its.toArray lo hi none = ((its.drop (HT.qi its.length 0 lo)).take (HT.qi its.length its.length hi - HT.qi its.length 0 lo)).toArray := by
 obtain ⟨h1, h2, h3⟩ := uV lo hi its.toArray.size
 unfold slicePick
 rw [h1, h2, h3]
 simp only [sliceRange_one, pick_run, aa0] <;> rfl
def V5 (K : PySem.W.Frag) : V -> Option Int -> Option Int -> Hp -> VK -> Prop := fun x lo hi H Q => ∃ a xs, x = .ref a /\ mQ K H a xs /\ ∀ p, H p = none -> Q (.ref p) (upd H p (.lst (Dd xs lo hi)))
theorem IV : V1 X (V5 X.K) := by
 intro pins s σ H x v vl vu lo hi sl Q I rx hs pl pu h
 obtain ⟨a, xs, rfl, hx, q⟩ := h
 cases rx
 obtain ⟨its, r, ht, hz⟩ := I.list hx
 have hlen := r.length
 refine ⟨"list", _, slot_list_getitem.lookup, ht.isList.typeIs, ?_⟩
 refine wpAny_getItem_list_slice ht.isList hs pl pu .none (by simp) ?_ (by rw [aa0] <;> omega)
 rw [tX, ← hlen]
 refine ⟨.ref s.heap.objs.size, _, I.laid (t' := s.toks) (o := .lst (Dd xs lo hi)) (fun b ob q => aaN _ q) (aaI _) ?_, rfl, q _ (I.c7.fresh (aaI _))⟩
 exact ⟨abo (yO xs lo hi) hz, _, 0, (r.drop (HT.qi xs.length 0 lo)).take (HT.qi xs.length xs.length hi - HT.qi xs.length 0 lo), aa9 _ rfl⟩
def lU : V -> Bool
 | .non => true
 | .bl _ => true
 | .int _ => true
 | .str _ => true
 | _ => false
def En : V -> V -> Bool
 | .non, .non => true
 | .bl a, .bl b => a == b
 | .bl a, .int b => (if a then 1 else 0) == b
 | .int a, .bl b => a == (if b then 1 else 0)
 | .int a, .int b => a == b
 | .str a, .str b => a == b
 | _, _ => false
theorem Ox {A : Around} {s : Shared} {y x : V} {u v : Value} (ry : RelV y u) (rx : RelV x v) (fy : lU y = true) (fx : lU x = true) : SeqAt.EqAt A s u v (En y x) := by
 cases y with
 | non =>
   cases ry
   cases x with
   | non => cases rx; exact SeqAt.EqAt.same _
   | bl b => cases rx; exact SeqAt.EqAt.none_bool b
   | int b => obtain ⟨t, rfl⟩ := rx; exact SeqAt.EqAt.none_int b t
   | str b => obtain ⟨t, rfl⟩ := rx; exact SeqAt.EqAt.none_str b t
   | _ => exact absurd (show false = true from fx) aaL
 | bl a =>
   cases ry
   cases x with
   | non => cases rx; exact SeqAt.EqAt.bool_none a
   | bl b => cases rx; exact SeqAt.EqAt.bool_bool a b
   | int b => obtain ⟨t, rfl⟩ := rx; exact SeqAt.EqAt.bool_int a b t
   | str b => obtain ⟨t, rfl⟩ := rx; exact SeqAt.EqAt.bool_str a b t
   | _ => exact absurd (show false = true from fx) aaL
 | int a =>
   obtain ⟨t', rfl⟩ := ry
   cases x with
   | non => cases rx; exact SeqAt.EqAt.int_none a t'
   | bl b => cases rx; exact SeqAt.EqAt.int_bool a t' b
   | int b => obtain ⟨t, rfl⟩ := rx; exact SeqAt.EqAt.int_int a t' b t
   | str b => obtain ⟨t, rfl⟩ := rx; exact SeqAt.EqAt.int_str a t' b t
   | _ => exact absurd (show false = true from fx) aaL
 | str a =>
   obtain ⟨t', rfl⟩ := ry
   cases x with
   | non => cases rx; exact SeqAt.EqAt.str_none a t'
   | bl b => cases rx; exact SeqAt.EqAt.str_bool a t' b
   | int b => obtain ⟨t, rfl⟩ := rx; exact SeqAt.EqAt.str_int a t' b t
   | str b => obtain ⟨t, rfl⟩ := rx; exact SeqAt.EqAt.str_str a t' b t
   | _ => exact absurd (show false = true from fx) aaL
 | _ => exact absurd (show false = true from fy) aaL
def IW (x : V) (u : Value) : Bool := match u with
 | .none => En .non x
 | .bool b => En (.bl b) x
 | .int i _ => En (.int i) x
 | .str z _ => En (.str z) x
 | _ => false
theorem EV {x y : V} {u : Value} (r : RelV y u) (f : lU y = true) : IW x u = En y x := by
 cases y with
 | non => cases r; rfl
 | bl b => cases r; rfl
 | int i => obtain ⟨t, rfl⟩ := r; rfl
 | str z => obtain ⟨t, rfl⟩ := r; rfl
 | _ => exact absurd (show false = true from f) aaL
theorem uW {x : V} : ∀ {xs : List V} {us : List Value}, Vals xs us -> xs.all lU = true -> us.any (IW x) = xs.any fun y => En y x
 | _, _, .nil, _ => rfl
 | y :: xs, u :: us, .cons r t, f => by
   rw [List.all_cons, abt] at f
   rw [List.any_cons, List.any_cons, EV r f.1, uW t f.2]
theorem rD {A : Around} {s : Shared} {x : V} {v : Value} (rx : RelV x v) (fx : lU x = true) : ∀ {xs : List V} {us : List Value}, Vals xs us -> xs.all lU = true -> ∀ u ∈ us, SeqAt.EqAt A s u v (IW x u)
 | _, _, .nil, _ => fun u hu => by cases hu
 | y :: xs, u :: us, .cons r t, f => fun u' hu => by
   rw [List.all_cons, abt] at f
   rcases aaH.mp hu with rfl | hu
   . rw [EV r f.1]; exact Ox r rx f.1 fx
   . exact rD rx fx t f.2 u' hu
def MR (x : V) (xs : List V) : Bool := xs.any fun y => En y x
def YF (K : PySem.W.Frag) (neg : Bool) : R2 := fun x y H Q => ∃ p xs, y = .ref p /\ (mQ K H p xs \/ AJ K H p xs) /\ lU x = true /\ xs.all lU = true /\ Q (.bl (if neg then !MR x xs else MR x xs)) H
theorem kJ : pQ X (compareOp .In) (YF X.K false) := by
 intro pins s σ H x y v u Q I rx ry h
 obtain ⟨p, xs, rfl, hq, fx, fs, q⟩ := h
 cases ry
 rcases hq with hq | hq
 . obtain ⟨its, r, pl, hz⟩ := I.list hq
   refine SeqAt.in_listAt (IW x) pl.isList (fun w hw => rD rx fx r fs w (by simpa using hw)) ⟨.bl _, H, I, rfl, ?_⟩
   rw [show its.toArray.any (IW x) = its.any (IW x) by simp, uW r fs]
   exact q
 . obtain ⟨its, r, pl, hz⟩ := I.tuple hq
   refine SeqAt.in_tupleAt (IW x) pl (fun w hw => rD rx fx r fs w (by simpa using hw)) ⟨.bl _, H, I, rfl, ?_⟩
   rw [show its.toArray.any (IW x) = its.any (IW x) by simp, uW r fs]
   exact q
theorem uX : pR X (.builtin "len") (fun xs H Q => ∃ p ys, xs = [.ref p] /\ (mQ X.K H p ys \/ AJ X.K H p ys) /\ Q (.int ys.length) H) := by
 intro pins s σ H xs us Q I r h
 obtain ⟨p, ys, rfl, hq, q⟩ := h
 obtain ⟨u, rfl, rx⟩ := vals1 r
 cases rx
 have hn := rq
 rcases hq with hq | hq
 . obtain ⟨its, r', pl, hz⟩ := I.list hq
   have hlen := r'.length
   exact Calls.call_len_list pl.isList (by simp only [aa0] <;> omega) ⟨.int ys.length, H, I.tok _, ⟨s.toks + 1, by rw [aa0, hlen]⟩, q⟩
 . obtain ⟨its, r', pl, hz⟩ := I.tuple hq
   have hlen := r'.length
   exact len_tuple pl (by simp only [aa0] <;> omega) ⟨.int ys.length, H, I.tok _, ⟨s.toks + 1, by rw [aa0, hlen]⟩, q⟩
theorem uY : pR X (.type "list") (fun xs H Q => ∃ p ys, xs = [.ref p] /\ (mQ X.K H p ys \/ AJ X.K H p ys) /\ ∀ l, H l = none -> Q (.ref l) (upd H l (.lst ys))) := by
 intro pins s σ H xs us Q I r h
 obtain ⟨p, ys, rfl, hq, q⟩ := h
 obtain ⟨u, rfl, rx⟩ := vals1 r
 cases rx
 have fin : ∀ (its : List Value), Vals ys its -> ys.length <= sizeLine -> ∀ (h' : Heap) (c' : Nat), (∀ b o', s.heap.get? b = some o' -> h'.get? b = some o') →
     h'.get? s.heap.objs.size = some { cls := .type "list", dict := none, data := .seq its.toArray c', slots := #[] } -> EP X pins σ Q (.ref s.heap.objs.size) { s with heap := h' } := fun its r' hz h' c' kp e =>
   ⟨.ref s.heap.objs.size, _, I.laid (t' := s.toks) kp (aaI _) (show fP X.prog X.w _ h' _ (.lst ys) from ⟨hz, its, c', r', e⟩), rfl, q _ (I.c7.fresh (aaI _))⟩
 rcases hq with hq | hq
 . obtain ⟨its, r', pl, hz⟩ := I.list hq
   have hlen := r'.length
   obtain ⟨o, ho, hc, n, hd⟩ := pl.isList
   exact call_list_seq p (.inl rfl) ho hc hd (fun h' c' kp e => fin its r' hz h' c' kp e) (by simp only [aa0] <;> omega)
 . obtain ⟨its, r', pl, hz⟩ := I.tuple hq
   have hlen := r'.length
   obtain ⟨o, ho, hc, n, hd⟩ := pl
   exact call_list_seq p (.inr rfl) ho hc hd (fun h' c' kp e => fin its r' hz h' c' kp e) (by simp only [aa0] <;> omega)
theorem tY : pR X (.type "tuple") (fun xs H Q => ∃ p ys, xs = [.ref p] /\ ((mQ X.K H p ys /\ ∀ l, H l = none -> Q (.ref l) (upd H l (.tup ys))) \/ (AJ X.K H p ys /\ Q (.ref p) H))) := by
 intro pins s σ H xs us Q I r h
 obtain ⟨p, ys, rfl, h⟩ := h
 obtain ⟨u, rfl, rx⟩ := vals1 r
 cases rx
 rcases h with ⟨hq, q⟩ | ⟨hq, q⟩
 . obtain ⟨its, r', pl, hz⟩ := I.list hq
   have hlen := r'.length
   refine call_tuple_list pl.isList (fun h' kp => ?_) (by simp only [aa0] <;> omega)
   have I1 : Inv X pins σ H { s with heap := h' } := I.kept (t' := s.toks) kp
   have I2 : Inv X pins σ (upd H h'.objs.size (.tup ys)) { s with heap := h'.push { cls := .type "tuple", data := .seq its.toArray } } :=
     I1.laid (t' := s.toks) (fun b o e => aaN _ e) (aaI _) (show fP X.prog X.w _ _ _ (.tup ys) from ⟨hz, its, r', IsTup.new _ _⟩)
   exact ⟨.ref h'.objs.size, _, I2, rfl, q _ (I1.c7.fresh (aaI _))⟩
 . obtain ⟨its, r', pl, hz⟩ := I.tuple hq
   exact call_tuple_same pl ⟨.ref p, H, I, rfl, q⟩
def Xw (K : PySem.W.Frag) (T : String) (x : V) (H : Hp) : Prop := match x with
 | .str _ => T = "str"
 | .int _ => T = "int"
 | .ref p => (T = "list" /\ ∃ xs, mQ K H p xs) \/ (T = "tuple" /\ ∃ o, K.lookup p = some o /\ o.cls = .type "tuple" /\ o.dict = none) ∨
     (T = "dict" /\ ((∃ kH, H p = some (.dK kH)) \/ ∃ kH, H p = some (.dT kH))) \/ (T = "set" /\ ∃ S n, H p = some (.set S n))
 | _ => False
theorem Oz {pins : List (Addr × Obj)} {σ : St} {H : Hp} {s : Shared} {T : String} {x : V} {v : Value} (I : Inv X pins σ H s) (r : RelV x v) (ty : Xw X.K T x H) :
   s.TypeIs v T /\ ∀ a, v = .ref a -> ∃ ob, s.heap.get? a = some ob /\ ob.dict = none := by
 cases x with
 | str z =>
   obtain ⟨t, rfl⟩ := r
   cases (show T = "str" from ty)
   exact ⟨typeIs_str s z t, fun _ e => nomatch e⟩
 | int i =>
   obtain ⟨t, rfl⟩ := r
   cases (show T = "int" from ty)
   exact ⟨typeIs_int s i t, fun _ e => nomatch e⟩
 | ref p =>
   cases r
   rcases ty with ⟨rfl, xs, hq⟩ | ⟨rfl, o, hk, hc, hd⟩ | ⟨rfl, hk⟩ | ⟨rfl, S, n, hk⟩
   . obtain ⟨its, _, pl, _⟩ := I.list hq
     refine ⟨pl.isList.typeIs, fun a e => ?_⟩
     cases e
     obtain ⟨o, n, e, c, hd, _⟩ := pl
     exact ⟨o, e, hd⟩
   . refine ⟨⟨o, I.yC p o hk, hc⟩, fun a e => ?_⟩
     cases e
     exact ⟨o, I.yC _ o hk, hd⟩
   . have z : ∃ o, s.heap.get? p = some o /\ o.ExactDict := by
       rcases hk with ⟨kH, hk⟩ | ⟨kH, hk⟩
       . obtain ⟨_, _, _, _, o, _, _, e, ex, _⟩ := I.c7 p _ hk
         exact ⟨o, e, ex⟩
       . obtain ⟨_, _, _, _, o, _, _, e, ex, _⟩ := I.c7 p _ hk
         exact ⟨o, e, ex⟩
     obtain ⟨o, e, ex⟩ := z
     refine ⟨⟨o, e, ex.1⟩, fun a e2 => ?_⟩
     cases e2
     exact ⟨o, e, ex.2.1⟩
   . obtain ⟨o, _, _, _, e, ex, _⟩ := I.c7 p _ hk
     refine ⟨⟨o, e, ex.1⟩, fun a e2 => ?_⟩
     cases e2
     exact ⟨o, e, ex.2.1⟩
 | _ => exact False.elim ty
def YG (K : PySem.W.Frag) (T : String) (r : V -> List V -> Hp -> VK -> Prop) (to : TE) (t : TA) : TE := fun σ H Q => to σ H fun x H1 => Xw K T x H1 /\ t σ H1 fun xs H2 => r x xs H2 Q
variable {o e : Expr} {es : List Expr} {to : TE} {t : TA} {name : Str} {apos yP : Pos} {T id : String} {r : V -> List V -> Hp -> VK -> Prop}
theorem R9 (pa : PlainAttrs T) (slot : Slot T name id) (YH : typeOf (.builtin id) = pure (.type "method_descriptor")) (hm : YD X id r) (ho : PE X o to) (ha : PA X (e :: es) t)
   (yQ : attributeBase o name X.env (eval o X.env) = eval o X.env := by rfl)
   (EW : ((backTo yP (starEach (e :: es) X.env)).all (fun x => !x.1) && (backToKw yP (keywordEach [] X.env)).all (fun x => x.1.isSome)
     && decide ((e :: es).length + ([] : List Keyword).length + (if ([] : List Keyword).isEmpty then 0 else 1) < 30)) = true := by rfl)
   (hline : (apos.endLine == yP.line) = true := by rfl) (hs : starEach (e :: es) X.env = (false, eval e X.env) :: starEach es X.env := by rfl) (OB : (backTo yP (starEach es X.env)).any (·.1) = false := by rfl) :
   PE X (.Call (.Attribute o name apos) (e :: es) [] yP) (YG X.K T r to t) := by
 intro pins s σ H Q I h
 refine wpAny_Call_method_late yQ EW hline rfl (dG (ho pins s σ H _ I h) fun v s1 ⟨x, H1, I1, r1, ty, q1⟩ => ?_)
 obtain ⟨h1, h2⟩ := Oz I1 r1 ty
 refine ⟨T, id, pa, slot, YH, h1, h2, ?_⟩
 have hA := ha yP pins s1 σ H1 _ I1 q1
 rw [hs] at hA ⊢
 refine Calls.callWith_builtin (by show (false || (backTo yP (starEach es X.env)).any (·.1)) = false; rw [OB] <;> rfl) (Calls.evalArgs_plain ?_)
 exact dG hA fun us s2 ⟨vs, H2, I2, r2, q2⟩ => hm pins s2 σ H2 x vs v us Q I2 r1 r2 q2
end
def YJ (X : Cx) (id : String) (r : V -> List V -> Hp -> VK -> Prop) : Prop :=
 ∀ (pins : List (Addr × Obj)) (s : Shared) (σ : St) (H : Hp) (x : V) (xs : List V) (v : Value) (us : List Value) (Q : VK), Inv X pins σ H s -> RelV x v -> Vals xs us -> r x xs H Q →
   wpAny (model X.prog X.w) X.A (call (.builtin id) (v :: us)) (EP X pins σ Q) X.xe s
theorem Vals.one : ∀ {x : V} {us : List Value}, Vals [x] us -> ∃ u, us = [u] /\ RelV x u
 | _, _, .cons r .nil => ⟨_, rfl, r⟩
theorem Vals.two : ∀ {x y : V} {us : List Value}, Vals [x, y] us -> ∃ u v, us = [u, v] /\ RelV x u /\ RelV y v
 | _, _, _, .cons r (.cons q .nil) => ⟨_, _, rfl, r, q⟩
theorem Vals.rep {xs : List V} {us : List Value} (h : Vals xs us) : ∀ k : Nat, Vals (List.replicate k xs).flatten (List.replicate k us).flatten
 | 0 => .nil
 | k + 1 => by
   rw [abD, abD, abV, abV]
   exact Vals.append h (Vals.rep h k)
theorem foldl_rep (its : List Value) : ∀ (k : Nat) (acc : List Value),
   List.foldl (fun x1 x2 => x1 ++ x2) acc.toArray (List.replicate k its.toArray) = (acc ++ (List.replicate k its).flatten).toArray
 | 0, acc => by simp
 | k + 1, acc => by
   have e : acc.toArray ++ its.toArray = (acc ++ its).toArray := by simp
   have e2 : (acc ++ its) ++ (List.replicate k its).flatten = acc ++ (List.replicate (k + 1) its).flatten := by
     rw [abD, abV, aaG]
   rw [← e2, ← foldl_rep its k (acc ++ its), ← e, abD, List.foldl_cons]
section
variable {X : Cx} {pins : List (Addr × Obj)} {σ : St} {H : Hp} {s : Shared} {l b : Addr} {xs ys zs : List V}
theorem Inv.V6 {its its' : List Value} {n : Nat} {f : Array Value -> Array Value} {t' : Nat} (I : Inv X pins σ H s) (hH : H l = some (.lst xs))
   (e : s.heap.get? l = some { cls := .type "list", data := .seq its.toArray n }) (hf : f its.toArray = its'.toArray) (hv : Vals ys its') (hz : ys.length <= sizeLine) :
   Inv X pins σ (upd H l (.lst ys)) { s with heap := s.heap.update l (Obj.mapSeq f), toks := t' } := by
 have q := PySem.IsL.update e f
 rw [hf] at q
 refine I.write (x := l) (e := l) (by rw [hH]; exact trivial) (.inl rfl) (fun b' u hb hu => (Heap.get?_update_other s.heap (Obj.mapSeq f) (Ne.symm hb)).trans hu) ⟨_, q⟩ ?_
 exact ⟨hz, its', _, hv, q⟩
theorem Inv.Sb {its : List Value} {t' : Nat} (I : Inv X pins σ H s) (hv : Vals ys its) (hz : ys.length <= sizeLine) :
   Inv X pins σ (upd H s.heap.objs.size (.lst ys)) { s with heap := s.heap.push { cls := .type "list", data := .seq its.toArray }, toks := t' } :=
 I.laid (fun _ _ q => aaN _ q) (aaI _) ⟨hz, its, 0, hv, aa9 _ rfl⟩
theorem Inv.fresh (I : Inv X pins σ H s) : H s.heap.objs.size = none := I.c7.fresh (aaI _)
theorem Inv.V7 (I : Inv X pins σ H s) (hH : H l = some (.lst xs)) : xs.length <= sizeLine /\ ∃ (its : List Value) (n : Nat), Vals xs its /\ xs.length = its.length /\ s.heap.get? l = some { cls := .type "list", data := .seq its.toArray n } := by
 obtain ⟨z, its, n, r, e⟩ := I.c7 l _ hH
 exact ⟨z, its, n, r, r.length, e⟩
theorem EX {n : Nat} (h : n <= sizeLine) : Builtin.List.listTooLong n = false := by
 unfold Builtin.List.listTooLong
 exact abj (by omega)
end
section
variable {X : Cx}
def IX : V -> List V -> Hp -> VK -> Prop := fun x vs H Q => ∃ l xs y, x = .ref l /\ vs = [y] /\ H l = some (.lst xs) /\ xs.length < sizeLine /\ Q .non (upd H l (.lst (xs ++ [y])))
theorem ur : YJ X "list.append" IX := by
 intro pins s σ H x vs v us Q I rx rv h
 obtain ⟨l, xs, y, rfl, rfl, hH, hz, q⟩ := h
 cases rx
 obtain ⟨u, rfl, ru⟩ := rv.one
 obtain ⟨z, its, n, r, hl, e⟩ := I.V7 hH
 refine call_meets F.slot_list_append ⟨_, e, rfl⟩ F.entry_list_append (F.args_list_append_2 _ _) (PySem.list_append l its.toArray n u (by rw [aa0]; omega)) ⟨e, ?_⟩
 refine ⟨.non, _, I.V6 (its' := its ++ [u]) hH e (by simp) (r.append (.cons ru .nil)) ?_, rfl, q⟩
 rw [aa1, List.length_singleton]
 omega
theorem len_rep {α : Type} (xs : List α) (k : Nat) : (List.replicate k xs).flatten.length = k * xs.length := by
 induction k with
 | zero => simp
 | succ k ih => rw [abD, abV, aa1, ih, Nat.succ_mul, Nat.add_comm]
end
section
variable {prog : Program} {w : World} {A : Around} {E : Value -> Shared -> Prop} {s : Shared}
set_option maxRecDepth 100000 in
end
section
variable {X : Cx}
end
end L2
namespace Xx
open PySem PySem.W PySem.Calls PyProof.Rows
theorem qj {P : Params} {h : Heap} : ∀ (ns : List Int) (vs : List Value), WellAll P h vs (ns.map WData.int) -> IntsAre vs ns := by
 intro ns
 induction ns with
 | nil =>
   intro vs w
   rw [List.map_nil] at w
   cases w
   exact .nil
 | cons n ns ih =>
   intro vs w
   rw [List.map_cons] at w
   cases w with
   | cons a b =>
     cases a
     exact .cons _ _ (ih _ b)
theorem Df {l : OpenLaw} {n : Nat} (hn : l.most = some n) {P : Params} {h : Heap} {args : List WData} {vals : List Value}
   (qk : l.row.toRowW.claim.pre args = true) (MS : WellAll P h vals args) :
   ∃ a vs ns, vals = [Value.ref a] /\ args = [WData.list (ns.map WData.int)] /\ h.get? a = some { cls := .type "list", data := .seq vs.toArray } /\ IntsAre vs ns /\ ns.length <= n := by
 have YK : WShape.hasAll [] args [.list .int] = true := (pre_splitW qk).1
 have hc : l.pre.holds [] { args := args } = true := (pre_splitW qk).2
 obtain ⟨d, r, rfl, h1, h2⟩ := hasAllW_cons YK
 obtain rfl := hasAllW_nil h2
 obtain ⟨xs, rfl, h3⟩ := hasW_list h1
 obtain ⟨ns, rfl⟩ := items_int h3
 have hlen : ns.length <= n := by
   unfold OpenLaw.pre at hc
   have h4 : (WTm.not (.lt (.lit (.int (n : Int))) (.len (.arg 0)))).holds [] { args := [.list (ns.map .int)] } = true := by
     have h4 := (holds_andW hc).1
     rw [hn] at h4
     exact h4
   have h5 := condW_of h4 (w_not (w_lt w_lit (w_len_list (w_arg rfl))))
   rw [List.length_map] at h5
   refine Nat.le_of_not_lt fun q => ?_
   have q' : (n : Int) < ((ns.length : Nat) : Int) := by omega
   first
     | (rw [decide_eq_true q'] at h5; exact absurd h5 (by decide))
     | (simp at h5; omega)
 cases MS with
 | cons w1 w2 =>
   cases w2
   cases w1 with
   | list ho IY => exact ⟨_, _, ns, rfl, rfl, ho, qj ns _ IY, hlen⟩
theorem Dg (l : OpenLaw) (args : List WData) : l.row.toRowW.claim.post args (.bool true) args = true :=
 postW_of (r := l.row.toRowW) (X := (true == true))
   (show WShape.has [] (.bool true) .bool = true by first | rfl | decide | simp [WShape.has, WShape.arms, WShape.armsAll])
   (show (WTm.eq .res (.lit (.bool true))).value [] { args := args, res := some (.bool true), after := args } = some (.bool (true == true)) from w_eq_bool (w_res rfl) w_lit) rfl
theorem yR {l : OpenLaw} {n : Nat} {q : Program} {loose : List Str} {XP : (Str -> Option Value) -> Heap -> Prop} {YP : World -> Heap -> Prop} {d : DefRec}
   (hn : l.most = some n) (Sd : d.params.defaults = [])
   (call : ∀ (w : World) (s₀ s₁ : Shared) (mg mb : Str -> Option Value) (fa : Addr) (o : Obj) (pm cd doc : Value) (a : Addr) (vs : List Value) (ns : List Int),
     Ground q loose [] XP w s₀ mg mb s₁.heap -> YP w s₁.heap →
     s₁.heap.get? fa = some o -> o.data = .func (docDef d.name d.params d.body d.scope pm cd doc) -> s₁.heap.CodeRec cd d.name -> mg d.name = some (.ref fa) →
     s₁.heap.get? a = some { cls := .type "list", data := .seq vs.toArray } -> IntsAre vs ns -> ns.length <= n -> s₁.gens = #[] →
     codeAny (model l.prog w) callerA (.call (.ref fa) ⟨[.ref a], []⟩) (fun r s' => r = .ok (.ret (.bool true)) /\ OldK s₁.heap s'.heap /\ s'.os = s₁.os /\ AllBare s'.gens) s₁) :
   WalkO q loose XP YP l.row.toRowW d [] (fun f vs => PySem.call f vs) := by
 intro w s₀ s₁ mg mb G Y fa o pm cd doc dV kV ho hd iL hD Se hg args vals as qk hlay hrd MS hlo
 obtain rfl : dV = .none := Dflts.none hD Sd
 obtain rfl : kV = .none := Dflts.noKw hD
 obtain ⟨a, vs, ns, rfl, rfl, OD, hints, hlen⟩ := Df hn qk MS
 refine enter_call (codeAny_mono (call w s₀ s₁ mg mb fa o pm cd doc a vs ns G Y ho (fd_plain hd) iL Se OD hints hlen hg) fun r s' hq => ?_)
 obtain ⟨rfl, h2, h3, h4⟩ := hq
 exact ⟨.inl ⟨.bool true, .bool true, [], rfl, fun _ => rfl, .bool true, Dg l _, fun _ => ⟨List.Pairwise.nil, fun _ hm => (nomatch hm)⟩⟩, h2, h3, h4⟩
section
variable {prog : Program} {w : World} {A : Around} {E : Value -> Shared -> Prop} {s : Shared} {K : Frag}
def ledger (h : Heap) (L d : Addr) : List (Addr × Obj) := (List.range h.objs.size).filterMap fun a => if a = L \/ a = d then none else (h.get? a).map fun o => (a, o)
end
end Xx
namespace L2
open PySem PySem.Spec PyProof.Rows
theorem uv : ∀ {vs : List Value} {ns : List Int}, IntsAre vs ns -> Vals (ns.map V.int) vs
 | _, _, .nil => .nil
 | _, _, .cons n t h => .cons ⟨t, rfl⟩ (uv h)
def inClass (s : Stmt) (j : Nat) : Stmt := match s with
 | .ClassDef _ _ _ body _ _ _ _ _ _ _ => body.getD j (.Pass ⟨0, 0, 0, 0⟩)
 | _ => .Pass ⟨0, 0, 0, 0⟩
def qw (s : Stmt) : Arguments := match s with
 | .FunctionDef _ a _ _ _ _ _ _ _ _ => a
 | _ => { posonlyargs := [], args := [], vararg := none, kwonlyargs := [], kw_defaults := [], kwarg := none, defaults := [] }
def eH (s : Stmt) : List Stmt := match s with
 | .FunctionDef _ _ b _ _ _ _ _ _ _ => b
 | _ => []
def ao (s : Stmt) : Scope := match s with
 | .FunctionDef _ _ _ _ _ _ sc _ _ _ => sc
 | _ => { kind := .function, names := [], isGenerator := false, isCoroutine := false }
abbrev fL : EJ := fun _ _ _ _ _ _ => False
abbrev E0 : XK := fun _ _ _ => False
theorem B6 {X : Cx} : Passes fL X E0 := fun _ _ _ _ _ _ _ h => h.elim
structure iM (K : PySem.W.Frag) (x qual : Str) (st : Stmt) (f : Addr) (fd : FuncData) : Prop where
 ex : ∃ (oc : Value) (od : Option Addr) (kV doc pm : Value) (an : Option Addr) (cS ct : Value) (Ik : Array (Option Value)),
   fd = PySem.W.fnOf x qual (qw st) (eH st) (ao st) .none kV doc pm an cS ct /\ K.lookup f = some ⟨oc, od, .func fd, Ik⟩ /\ PySem.W.codeIn K cS qual = true
 kp : PySem.W.keepIn K (.ref f) = true
section
variable {P : Program} {w : World} {K : PySem.W.Frag} {mg : Str -> Option Value} {base : Heap}
theorem iM.ok {x qual : Str} {st : Stmt} {f : Addr} {fd : FuncData} {N ps : List Str} {k : Nat} {sp : Sp} (F : iM K x qual st f fd) (S : aK N ps (ao st)) (len : ∀ vs H Q E, sp vs H Q E -> vs.length = ps.length)
   (yL : ∀ (cS : Value) (A : Around) (outer : List Env) (s : Shared) (H : Hp) (vs : List V) (Q : VK) (E : XK), dR k (A.deeper (envOfC qual (ao st) s.heap.objs.size f cS)) -> sp vs H Q E →
     ∃ t, AI (rA fL P w K mg base N qual (ao st) f cS A outer s H E).Ij (eH st) t /\ t { nx := fun _ H' => Q .non H', rt := Q } (start N vs) H) : bL P w K mg base fL (k + 1) f fd ps sp := by
 obtain ⟨oc, od, kV, doc, pm, an, cS, ct, Ik, rfl, lk, iL⟩ := F.ex
 refine MQ lk iL S len fun A outer s H vs Q E hr AY => ?_
 obtain ⟨t, h, q⟩ := yL cS A outer s H vs Q E hr AY
 exact ⟨t, h.Ij, q⟩
theorem iM.binds {x qual : Str} {st : Stmt} {f : Addr} {fd : FuncData} {ps : List Str} (F : iM K x qual st f fd)
   (h : ∀ (kV doc pm : Value) (an : Option Addr) (cS ct : Value) (us : List Value), us.length = ps.length -> bindArgs (PySem.W.fnOf x qual (qw st) (eH st) (ao st) .none kV doc pm an cS ct) ⟨us, []⟩ = pure (ps.zip us)) : Binds K fd ps [] := by
 obtain ⟨oc, od, kV, doc, pm, an, cS, ct, Ik, rfl, lk, iL⟩ := F.ex
 exact .all (h kV doc pm an cS ct)
theorem bC {x qual : Str} {st : Stmt} {f : Addr} {oc : Value} {od an : Option Addr} {Ik : Array (Option Value)} {kV doc pm cS ct : Value} (l : K.lookup f = some ⟨oc, od, .func (PySem.W.fnOf x qual (qw st) (eH st) (ao st) .none kV doc pm an cS ct), Ik⟩)
   (c : PySem.W.codeIn K cS qual = true) (k : PySem.W.keepIn K (.ref f) = true) : iM K x qual st f (PySem.W.fnOf x qual (qw st) (eH st) (ao st) .none kV doc pm an cS ct) := ⟨⟨oc, od, kV, doc, pm, an, cS, ct, Ik, rfl, l, c⟩, k⟩
end
theorem eS {n : Nat} (h : n <= 1000) : n < sizeLine := Nat.lt_of_le_of_lt h (by decide)
section
variable {X : Cx}
end
theorem EY {A B : Prop} (h : B) : if false = true then A else B := by
 rw [aaE aaL]
 exact h
theorem EZ {A B : Prop} (h : A) : if true = true then A else B := by
 rw [aaF rfl]
 exact h
def aA (H H' : Hp) : Prop := ∀ b o, H b = some o -> H' b = some o
theorem aA.refl (H : Hp) : aA H H := fun _ _ h => h
theorem aA.trans {H H1 H2 : Hp} (a : aA H H1) (b : aA H1 H2) : aA H H2 := fun c o h => b c o (a c o h)
theorem aA.free {H H' : Hp} (e : aA H H') {l : Addr} (h : H' l = Option.none) : H l = Option.none := by
 cases q : H l with
 | none => rfl
 | some o =>
   rw [e l o q] at h
   cases h
theorem aA.seq {K : PySem.W.Frag} {H H' : Hp} {a : Addr} {xs : List V} (e : aA H H') (h : mQ K H a xs) : mQ K H' a xs := by
 rcases h with (h | ⟨o, h⟩) | h
 . exact .inl (.inl (e _ _ h))
 . exact .inl (.inr ⟨o, e _ _ h⟩)
 . exact .inr h
section
variable {κ : Type} [DecidableEq κ]
end
section
variable {P : Program} {w : World} {H : Hp} {h : Heap} {a : Addr}
end
section
variable {X : Cx} {pins : List (Addr × Obj)} {σ : St} {H : Hp} {s : Shared} {a : Addr} {y v : V} {u r : Value} {o : Option V} {A : Around} {E : Value -> Shared -> Prop}
end
section
variable {X : Cx} {pins : List (Addr × Obj)} {σ : St} {H : Hp} {s : Shared} {a : Addr} {kH : List (Key × V)} {k : Key} {u : Value} {A : Around} {E : Value -> Shared -> Prop}
end
section
variable {X : Cx} {o i e value : Expr} {pos pos' VX : Pos} {td ty tv : TE}
end
section
variable {X : Cx} {pos : Pos}
end
section
variable {X : Cx} {pins : List (Addr × Obj)} {σ : St} {H : Hp} {s : Shared} {a : Addr} {y d : V} {u r : Value} {o : Option V} {A : Around} {E : Value -> Shared -> Prop}
end
section
variable {X : Cx} {o e f : Expr} {apos yP : Pos} {td ty tx : TE}
end
section
variable {X : Cx} {pins : List (Addr × Obj)} {σ : St} {H : Hp} {s : Shared} {a : Addr} {kH : List (Key × V)} {A : Around} {E : Value -> Shared -> Prop}
end
section
variable {X : Cx} {pins : List (Addr × Obj)} {σ : St} {H : Hp} {s : Shared} {a : Addr} {y : V} {u : Value} {A : Around} {E : Value -> Shared -> Prop}
end
end L2
namespace L3
open PySem PySem.Spec PyProof.Rows L2
inductive D where
 | non | bl (b : Bool) | int (i : Int) | str (x : Str)
 | tup (ds : List D) | lst (ds : List D) | ins (c : Str) (fs : List (Str × D)) | qx (kH : List (Key × D))
 | any
 | val (v : V)
inductive T where
 | sh (d : D) | tup (ts : List T) | lst (ts : List T) | ins (c : Str) (fs : List (Str × T)) | qx (kH : List (Key × D))
 | pin (x : Addr) (t : T)
mutual
def T.cW : T -> D
 | .sh d => d
 | .tup ts => .tup (fW ts)
 | .lst ts => .lst (fW ts)
 | .ins c fs => .ins c (lS fs)
 | .qx kH => .qx kH
 | .pin _ t => t.cW
def T.fW : List T -> List D
 | [] => []
 | t :: ts => t.cW :: T.fW ts
def T.lS : List (Str × T) -> List (Str × D)
 | [] => []
 | (x, t) :: fs => (x, t.cW) :: T.lS fs
end
variable (K : PySem.W.Frag) (CL : Str -> Addr)
mutual
inductive bz (Z : Hp) : D -> V -> Prop where
 | non : bz Z .non .non
 | bl (b : Bool) : bz Z (.bl b) (.bl b)
 | int (i : Int) : bz Z (.int i) (.int i)
 | str (x : Str) : bz Z (.str x) (.str x)
 | any (v : V) : bz Z .any v
 | val (v : V) : bz Z (.val v) v
 | tup {a : Addr} {vs : List V} {ds : List D} : AJ K Z a vs -> aD Z ds vs -> bz Z (.tup ds) (.ref a)
 | lst {a : Addr} {vs : List V} {ds : List D} : mQ K Z a vs -> aD Z ds vs -> bz Z (.lst ds) (.ref a)
 | ins {a dx : Addr} {c : Str} {gs : List (Str × V)} {fs : List (Str × D)} : Z a = some (.ins (CL c) dx gs) -> iN Z fs gs -> bz Z (.ins c fs) (.ref a)
 | qx {a : Addr} {gs : List (Key × V)} {fs : List (Key × D)} : Z a = some (.dK gs) -> fQ Z fs gs -> bz Z (.qx fs) (.ref a)
inductive aD (Z : Hp) : List D -> List V -> Prop where
 | nil : aD Z [] []
 | cons {d : D} {v : V} {ds : List D} {vs : List V} : bz Z d v -> aD Z ds vs -> aD Z (d :: ds) (v :: vs)
inductive iN (Z : Hp) : List (Str × D) -> List (Str × V) -> Prop where
 | nil : iN Z [] []
 | cons {x : Str} {d : D} {v : V} {ds : List (Str × D)} {vs : List (Str × V)} : bz Z d v -> iN Z ds vs -> iN Z ((x, d) :: ds) ((x, v) :: vs)
inductive fQ (Z : Hp) : List (Key × D) -> List (Key × V) -> Prop where
 | nil : fQ Z [] []
 | cons {x : Key} {d : D} {v : V} {ds : List (Key × D)} {vs : List (Key × V)} : bz Z d v -> fQ Z ds vs -> fQ Z ((x, d) :: ds) ((x, v) :: vs)
end
mutual
inductive cy (H Z : Hp) : T -> V -> List Addr -> Prop where
 | sh {d : D} {v : V} : bz K CL Z d v -> cy H Z (.sh d) v []
 | tup {a : Addr} {vs : List V} {ts : List T} {fp : List Addr} : Z a = some (.tup vs) -> aL H Z ts vs fp -> cy H Z (.tup ts) (.ref a) fp
 | lst {a : Addr} {vs : List V} {ts : List T} {fp : List Addr} : H a = some (.lst vs) -> aL H Z ts vs fp -> cy H Z (.lst ts) (.ref a) (a :: fp)
 | ins {a dx : Addr} {c : Str} {gs : List (Str × V)} {fs : List (Str × T)} {fp : List Addr} : H a = some (.ins (CL c) dx gs) -> bQ H Z fs gs fp -> cy H Z (.ins c fs) (.ref a) (a :: fp)
 | qx {a : Addr} {gs : List (Key × V)} {kH : List (Key × D)} : H a = some (.dK gs) -> fQ K CL Z kH gs -> cy H Z (.qx kH) (.ref a) [a]
 | pin {x : Addr} {t : T} {fp : List Addr} : cy H Z t (.ref x) fp -> cy H Z (.pin x t) (.ref x) fp
inductive aL (H Z : Hp) : List T -> List V -> List Addr -> Prop where
 | nil : aL H Z [] [] []
 | cons {t : T} {v : V} {ts : List T} {vs : List V} {fp gp : List Addr} : cy H Z t v fp -> aL H Z ts vs gp -> aL H Z (t :: ts) (v :: vs) (fp ++ gp)
inductive bQ (H Z : Hp) : List (Str × T) -> List (Str × V) -> List Addr -> Prop where
 | nil : bQ H Z [] [] []
 | cons {x : Str} {t : T} {v : V} {ts : List (Str × T)} {vs : List (Str × V)} {fp gp : List Addr} : cy H Z t v fp -> bQ H Z ts vs gp -> bQ H Z ((x, t) :: ts) ((x, v) :: vs) (fp ++ gp)
end
inductive ef (H Z : Hp) : List (Option T) -> L2.St -> List Addr -> Prop where
 | nil : ef H Z [] [] []
 | skip {o : Option V} {δ : List (Option T)} {σ : L2.St} {fp : List Addr} : ef H Z δ σ fp -> ef H Z (none :: δ) (o :: σ) fp
 | cons {t : T} {v : V} {δ : List (Option T)} {σ : L2.St} {fp gp : List Addr} : cy K CL H Z t v fp -> ef H Z δ σ gp -> ef H Z (some t :: δ) (some v :: σ) (fp ++ gp)
section
variable {K : PySem.W.Frag} {CL : Str -> Addr}
theorem aA.YL {H H' : Hp} {a : Addr} {xs : List V} (e : aA H H') (h : AJ K H a xs) : AJ K H' a xs := by
 rcases h with (h | ⟨o, h⟩) | h
 . exact .inl (.inl (e _ _ h))
 . exact .inl (.inr ⟨o, e _ _ h⟩)
 . exact .inr h
mutual
theorem bz.mono {Z Z' : Hp} (e : aA Z Z') : ∀ {d : D} {v : V}, bz K CL Z d v -> bz K CL Z' d v
 | _, _, .non => .non
 | _, _, .bl b => .bl b
 | _, _, .int b => .int b
 | _, _, .str b => .str b
 | _, _, .any b => .any b
 | _, _, .val b => .val b
 | _, _, .tup h r => .tup (aA.YL e h) (aD.mono e r)
 | _, _, .lst h r => .lst (e.seq h) (aD.mono e r)
 | _, _, .ins h r => .ins (e _ _ h) (iN.mono e r)
 | _, _, .qx h r => .qx (e _ _ h) (fQ.mono e r)
theorem aD.mono {Z Z' : Hp} (e : aA Z Z') : ∀ {d : List D} {v : List V}, aD K CL Z d v -> aD K CL Z' d v
 | _, _, .nil => .nil
 | _, _, .cons h r => .cons (bz.mono e h) (aD.mono e r)
theorem iN.mono {Z Z' : Hp} (e : aA Z Z') : ∀ {d : List (Str × D)} {v : List (Str × V)}, iN K CL Z d v -> iN K CL Z' d v
 | _, _, .nil => .nil
 | _, _, .cons h r => .cons (bz.mono e h) (iN.mono e r)
theorem fQ.mono {Z Z' : Hp} (e : aA Z Z') : ∀ {d : List (Key × D)} {v : List (Key × V)}, fQ K CL Z d v -> fQ K CL Z' d v
 | _, _, .nil => .nil
 | _, _, .cons h r => .cons (bz.mono e h) (fQ.mono e r)
end
mutual
theorem cy.mono {H H' Z Z' : Hp} (e : aA Z Z') : ∀ {t : T} {v : V} {fp : List Addr}, (∀ a ∈ fp, H' a = H a) -> cy K CL H Z t v fp -> cy K CL H' Z' t v fp
 | _, _, _, _, .sh h => .sh (h.mono e)
 | _, _, _, k, .tup h r => .tup (e _ _ h) (aL.mono e k r)
 | _, _, _, k, .lst h r => .lst (by rw [k _ aaP]; exact h) (aL.mono e (fun a ha => k a (aaM _ ha)) r)
 | _, _, _, k, .ins h r => .ins (by rw [k _ aaP]; exact h) (bQ.mono e (fun a ha => k a (aaM _ ha)) r)
 | _, _, _, k, .qx h r => .qx (by rw [k _ aaP]; exact h) (fQ.mono e r)
 | _, _, _, k, .pin r => .pin (cy.mono e k r)
theorem aL.mono {H H' Z Z' : Hp} (e : aA Z Z') : ∀ {t : List T} {v : List V} {fp : List Addr}, (∀ a ∈ fp, H' a = H a) -> aL K CL H Z t v fp -> aL K CL H' Z' t v fp
 | _, _, _, _, .nil => .nil
 | _, _, _, k, .cons h r => .cons (cy.mono e (fun a ha => k a (aaX _ ha)) h) (aL.mono e (fun a ha => k a (aaD _ ha)) r)
theorem bQ.mono {H H' Z Z' : Hp} (e : aA Z Z') : ∀ {t : List (Str × T)} {v : List (Str × V)} {fp : List Addr}, (∀ a ∈ fp, H' a = H a) -> bQ K CL H Z t v fp -> bQ K CL H' Z' t v fp
 | _, _, _, _, .nil => .nil
 | _, _, _, k, .cons h r => .cons (cy.mono e (fun a ha => k a (aaX _ ha)) h) (bQ.mono e (fun a ha => k a (aaD _ ha)) r)
end
mutual
theorem cy.there {H Z : Hp} : ∀ {t : T} {v : V} {fp : List Addr}, cy K CL H Z t v fp -> ∀ a ∈ fp, ∃ o, H a = some o
 | _, _, _, .sh h => fun a ha => by cases ha
 | _, _, _, .tup h r => aL.there r
 | _, _, _, .lst h r => fun a ha => by
   rcases aaH.mp ha with rfl | ha
   . exact ⟨_, h⟩
   . exact aL.there r a ha
 | _, _, _, .ins h r => fun a ha => by
   rcases aaH.mp ha with rfl | ha
   . exact ⟨_, h⟩
   . exact bQ.there r a ha
 | _, _, _, .qx h r => fun a ha => by
   rcases aaH.mp ha with rfl | ha
   . exact ⟨_, h⟩
   . cases ha
 | _, _, _, .pin r => cy.there r
theorem aL.there {H Z : Hp} : ∀ {t : List T} {v : List V} {fp : List Addr}, aL K CL H Z t v fp -> ∀ a ∈ fp, ∃ o, H a = some o
 | _, _, _, .nil => fun a ha => by cases ha
 | _, _, _, .cons h r => fun a ha => (aaS.mp ha).elim (cy.there h a) (aL.there r a)
theorem bQ.there {H Z : Hp} : ∀ {t : List (Str × T)} {v : List (Str × V)} {fp : List Addr}, bQ K CL H Z t v fp -> ∀ a ∈ fp, ∃ o, H a = some o
 | _, _, _, .nil => fun a ha => by cases ha
 | _, _, _, .cons h r => fun a ha => (aaS.mp ha).elim (cy.there h a) (bQ.there r a)
end
mutual
theorem cy.cW {H Z Z' : Hp} (e : aA Z Z') : ∀ {t : T} {v : V} {fp : List Addr}, (∀ a ∈ fp, Z' a = H a) -> cy K CL H Z t v fp -> bz K CL Z' t.cW v
 | _, _, _, _, .sh h => by rw [T.cW]; exact h.mono e
 | _, _, _, k, .tup h r => by rw [T.cW]; exact .tup (AJ.of (e _ _ h)) (aL.cW e k r)
 | _, _, _, k, .lst h r => by rw [T.cW]; exact .lst (mQ.of (by rw [k _ aaP]; exact h)) (aL.cW e (fun a ha => k a (aaM _ ha)) r)
 | _, _, _, k, .ins h r => by rw [T.cW]; exact .ins (by rw [k _ aaP]; exact h) (bQ.cW e (fun a ha => k a (aaM _ ha)) r)
 | _, _, _, k, .qx h r => by rw [T.cW]; exact .qx (by rw [k _ aaP]; exact h) (fQ.mono e r)
 | _, _, _, k, .pin r => by rw [T.cW]; exact cy.cW e k r
theorem aL.cW {H Z Z' : Hp} (e : aA Z Z') : ∀ {t : List T} {v : List V} {fp : List Addr}, (∀ a ∈ fp, Z' a = H a) -> aL K CL H Z t v fp -> aD K CL Z' (T.fW t) v
 | _, _, _, _, .nil => by rw [T.fW]; exact .nil
 | _, _, _, k, .cons h r => by rw [T.fW]; exact .cons (cy.cW e (fun a ha => k a (aaX _ ha)) h) (aL.cW e (fun a ha => k a (aaD _ ha)) r)
theorem bQ.cW {H Z Z' : Hp} (e : aA Z Z') : ∀ {t : List (Str × T)} {v : List (Str × V)} {fp : List Addr}, (∀ a ∈ fp, Z' a = H a) -> bQ K CL H Z t v fp -> iN K CL Z' (T.lS t) v
 | _, _, _, _, .nil => by rw [T.lS]; exact .nil
 | _, _, _, k, .cons h r => by rw [T.lS]; exact .cons (cy.cW e (fun a ha => k a (aaX _ ha)) h) (bQ.cW e (fun a ha => k a (aaD _ ha)) r)
end
theorem aD.length {Z : Hp} : ∀ {d : List D} {v : List V}, aD K CL Z d v -> d.length = v.length
 | _, _, .nil => rfl
 | _, _, .cons _ r => by rw [aaZ, aaZ, aD.length r]
theorem aL.length {H Z : Hp} : ∀ {d : List T} {v : List V} {fp : List Addr}, aL K CL H Z d v fp -> d.length = v.length
 | _, _, _, .nil => rfl
 | _, _, _, .cons _ r => by rw [aaZ, aaZ, aL.length r]
theorem aD.get {Z : Hp} : ∀ {ds : List D} {vs : List V} {i : Nat} {d : D}, aD K CL Z ds vs -> ds[i]? = some d -> ∃ v, vs[i]? = some v /\ bz K CL Z d v
 | _, _, _, _, .nil, e => by simp at e
 | _, _, 0, _, .cons r _, e => by simp at e; subst e; exact ⟨_, rfl, r⟩
 | _, _, i + 1, d, .cons _ t, e => by
   obtain ⟨u, h1, h2⟩ := aD.get (i := i) (d := d) t (by simpa using e)
   exact ⟨u, by simpa using h1, h2⟩
theorem aD.IZ {Z : Hp} : ∀ {ds : List D} {vs : List V} {i : Nat} {v : V}, aD K CL Z ds vs -> vs[i]? = some v -> ∃ d, ds[i]? = some d /\ bz K CL Z d v
 | _, _, _, _, .nil, e => by simp at e
 | _, _, 0, _, .cons r _, e => by simp at e; subst e; exact ⟨_, rfl, r⟩
 | _, _, i + 1, d, .cons _ t, e => by
   obtain ⟨u, h1, h2⟩ := aD.IZ (i := i) (v := d) t (by simpa using e)
   exact ⟨u, by simpa using h1, h2⟩
theorem ef.get {H Z : Hp} : ∀ {δ : List (Option T)} {σ : L2.St} {fp : List Addr} {i : Nat} {t : T}, ef K CL H Z δ σ fp -> δ[i]? = some (some t) →
   ∃ v f1 f2 f3, σ[i]? = some (some v) /\ fp = f1 ++ (f2 ++ f3) /\ cy K CL H Z t v f2 ∧
     (∀ {H' Z' : Hp} {t' : T} {v' : V} {g : List Addr}, aA Z Z' -> (∀ a ∈ f1 ++ f3, H' a = H a) -> cy K CL H' Z' t' v' g -> ef K CL H' Z' (δ.set i (some t')) (σ.set i (some v')) (f1 ++ (g ++ f3))) ∧
     (∀ {o : Option V}, ef K CL H Z (δ.set i none) (σ.set i o) (f1 ++ f3)) := by
 intro δ σ fp i t h
 have mono : ∀ {H H' Z Z' : Hp} {δ : List (Option T)} {σ : L2.St} {fp : List Addr}, aA Z Z' -> (∀ a ∈ fp, H' a = H a) -> ef K CL H Z δ σ fp -> ef K CL H' Z' δ σ fp := by
   intro H H' Z Z' δ σ fp e k r
   induction r with
   | nil => exact .nil
   | skip _ ih => exact .skip (ih k)
   | cons r _ ih => exact .cons (r.mono e fun a ha => k a (aaX _ ha)) (ih fun a ha => k a (aaD _ ha))
 induction h generalizing i with
 | nil => intro e; simp at e
 | @skip o δ σ fp r ih =>
   cases i with
   | zero => intro e; simp at e
   | succ i =>
     intro e
     obtain ⟨v, f1, f2, f3, h1, h2, h3, h4, h5⟩ := ih (i := i) (by simpa using e)
     exact ⟨v, f1, f2, f3, by simpa using h1, h2, h3, fun e k q => .skip (h4 e k q), .skip h5⟩
 | @cons t0 v0 δ σ fp gp r0 r ih =>
   cases i with
   | zero =>
     intro e
     simp at e
     subst e
     refine ⟨v0, [], fp, gp, rfl, rfl, r0, fun {H' Z' t' v' g} e k q => ef.cons (fp := g) (gp := gp) q (mono (fp := gp) e (fun a ha => k a (by simpa using ha)) r), .skip (by simpa using r)⟩
   | succ i =>
     intro e
     obtain ⟨v, f1, f2, f3, h1, h2, h3, h4, h5⟩ := ih (i := i) (by simpa using e)
     refine ⟨v, fp ++ f1, f2, f3, by simpa using h1, by rw [h2, List.append_assoc], h3, fun {H' Z' t' v' g} e k q => ?_, fun {o} => ?_⟩
     . rw [aaG]
       exact .cons (r0.mono e fun a ha => k a (by simp [ha])) (h4 e (fun a ha => k a (by rw [aaG]; exact aaD _ ha)) q)
     . rw [aaG]
       exact .cons r0 h5
theorem ef.mono {H H' Z Z' : Hp} {δ : List (Option T)} {σ : L2.St} {fp : List Addr} (e : aA Z Z') (k : ∀ a ∈ fp, H' a = H a) (r : ef K CL H Z δ σ fp) : ef K CL H' Z' δ σ fp := by
 induction r with
 | nil => exact .nil
 | skip _ ih => exact .skip (ih k)
 | cons r _ ih => exact .cons (r.mono e fun a ha => k a (aaX _ ha)) (ih fun a ha => k a (aaD _ ha))
theorem ef.there {H Z : Hp} {δ : List (Option T)} {σ : L2.St} {fp : List Addr} (r : ef K CL H Z δ σ fp) : ∀ a ∈ fp, ∃ o, H a = some o := by
 induction r with
 | nil => intro a ha; cases ha
 | skip _ ih => exact ih
 | cons r _ ih => exact fun a ha => (aaS.mp ha).elim (r.there a) (ih a)
theorem ef.put {H Z : Hp} {δ : List (Option T)} {σ : L2.St} {fp : List Addr} (r : ef K CL H Z δ σ fp) {t : T} {v : V} {g : List Addr} (q : cy K CL H Z t v g) :
   ∀ {i : Nat}, i < δ.length -> ∃ f, ef K CL H Z (δ.set i (some t)) (σ.set i (some v)) f /\ ∃ f', f'.Sublist fp /\ f.Perm (g ++ f') := by
 induction r with
 | nil => intro i hi; simp at hi
 | @skip o δ σ fp r ih =>
   intro i hi
   cases i with
   | zero => exact ⟨g ++ fp, .cons q r, fp, abb _, acm _⟩
   | succ i =>
     obtain ⟨f, h1, f', h2, h3⟩ := ih (i := i) (by simpa using hi)
     exact ⟨f, .skip h1, f', h2, h3⟩
 | @cons t0 v0 δ σ fp gp r0 r ih =>
   intro i hi
   cases i with
   | zero => exact ⟨g ++ gp, .cons q r, gp, abC _ _, acm _⟩
   | succ i =>
     obtain ⟨f, h1, f', h2, h3⟩ := ih (i := i) (by simpa using hi)
     refine ⟨fp ++ f, .cons r0 h1, fp ++ f', abd (abb _) h2, ?_⟩
     refine (abr fp h3).trans ?_
     rw [← aaG, ← aaG]
     exact List.Perm.append_right f' abl
end
def yS (X : Cx) (e : Expr) : TE := fun σ H Q => ∀ (pins : List (Addr × Obj)) (s : Shared), Inv X pins σ H s -> wpAny (model X.prog X.w) X.A (eval e X.env) (EP X pins σ Q) X.xe s
def I0 (X : Cx) (e : Expr) : TT := fun σ H Q => ∀ (pins : List (Addr × Obj)) (s : Shared), Inv X pins σ H s -> wpAny (model X.prog X.w) X.A (isTrue e X.env (eval e X.env)) (TP X pins σ Q) X.xe s
def E1 (X : Cx) (es : List Expr) : TA := fun σ H Q => ∀ (pos : Pos) (pins : List (Addr × Obj)) (s : Shared), Inv X pins σ H s -> wpAny (model X.prog X.w) X.A (spliced (backTo pos (starEach es X.env))) (AP X pins σ Q) X.xe s
def OG (X : Cx) (st : Stmt) : TS := fun D σ H => ∀ (pins : List (Addr × Obj)) (s : Shared), Inv X pins σ H s -> wpAny (model X.prog X.w) X.A (exec st X.env) (SP X pins D) X.xe s
def OI (X : Cx) (st : List Stmt) : TS := fun D σ H => ∀ (pins : List (Addr × Obj)) (s : Shared), Inv X pins σ H s -> wpAny (model X.prog X.w) X.A (execs st X.env) (SP X pins D) X.xe s
section
variable {X : Cx}
theorem eT {e : Expr} : PE X e (yS X e) := fun pins s _ _ _ I h => h pins s I
theorem OJ {e : Expr} : PT X e (I0 X e) := fun pins s _ _ _ I h => h pins s I
theorem Ja {e : List Expr} : PA X e (E1 X e) := fun pos pins s _ _ _ I h => h pos pins s I
theorem YM {e : Stmt} : PS X e (OG X e) := fun pins s _ _ _ I h => h pins s I
theorem MT {e : List Stmt} : AI X e (OI X e) := fun pins s _ _ _ I h => h pins s I
theorem c9 {e : Expr} {t : TE} (h : PE X e t) {σ : L2.St} {H : Hp} {Q : VK} (q : t σ H Q) : yS X e σ H Q := fun pins s I => h pins s σ H Q I q
theorem Dh {e : Expr} {t : TT} (h : PT X e t) {σ : L2.St} {H : Hp} {Q : Bool -> Hp -> Prop} (q : t σ H Q) : I0 X e σ H Q := fun pins s I => h pins s σ H Q I q
theorem Di {e : List Expr} {t : TA} (h : PA X e t) {σ : L2.St} {H : Hp} {Q : List V -> Hp -> Prop} (q : t σ H Q) : E1 X e σ H Q := fun pos pins s I => h pos pins s σ H Q I q
theorem yT {e : Stmt} {t : TS} (h : PS X e t) {σ : L2.St} {H : Hp} {D : Ends} (q : t D σ H) : OG X e D σ H := fun pins s I => h pins s σ H D I q
theorem Sf {e : List Stmt} {t : TS} (h : AI X e t) {σ : L2.St} {H : Hp} {D : Ends} (q : t D σ H) : OI X e D σ H := fun pins s I => h pins s σ H D I q
end
def notStar : Expr -> Bool
 | .Starred _ _ => false
 | _ => true
theorem cz {e : Expr} {es : List Expr} {env : Env} (h : notStar e = true) : starEach (e :: es) env = (false, eval e env) :: starEach es env := by
 cases e <;> first | rfl | (cases h)
structure Bx where
 B : Hp
 Z : Hp
def gi : HO -> Bool
 | .tup _ => true
 | .cW _ _ => true
 | _ => false
def yU (x : Str) : Bool := x.cps[0]? == some 35
def Dj (x : Str) : Str := ⟨x.cps.extract 1 x.cps.size⟩
def jc (CL : Str -> Addr) (Z : Hp) : Prop := ∀ x, yU x = true -> CL x ≠ 0 -> Z (CL x) = some (.tabs (Dj x))
structure bT (K : PySem.W.Frag) (CL : Str -> Addr) (b : Bx) (H Z : Hp) (δ : List (Option T)) (σ : L2.St) (ts : List T) (vs : List V) : Prop where
 rep : ∃ fp gp, ef K CL H Z δ σ fp /\ aL K CL H Z ts vs gp /\ (fp ++ gp).Nodup /\ ∀ a ∈ fp ++ gp, Z a = none /\ b.B a = none
 bh : aA b.B H
 zz : aA b.Z Z
 zh : aA Z H
 new : ∀ a o, Z a = some o -> b.Z a = none -> b.B a = none
 tp : ∀ a o, H a = some o -> gi o = true -> Z a = some o
 tab : jc CL b.Z
section
variable {K : PySem.W.Frag} {CL : Str -> Addr} {b : Bx} {H H' Z Z' : Hp} {δ δ' : List (Option T)} {σ σ' : L2.St} {ts YN : List T} {vs V8 : List V} {t : T} {v : V}
theorem jc.mono {A B : Hp} (h : jc CL A) (e : aA A B) : jc CL B := fun x hx h0 => e _ _ (h x hx h0)
theorem bT.Sg (S : bT K CL b H Z δ σ ts vs) : jc CL Z := S.tab.mono S.zz
theorem bT.Dk (S : bT K CL b H Z δ σ ts vs) : jc CL H := S.Sg.mono S.zh
theorem OL {A B : Hp} (e : aA A B) {a : Addr} (h : B a = none) : A a = none := e.free h
theorem aA.upd {H : Hp} {p : Addr} {o : HO} (h : H p = none) : aA H (upd H p o) := fun b u e => by rw [av (aC e h)]; exact e
theorem bT.view (S : bT K CL b H Z δ σ (t :: ts) (v :: vs)) : bz K CL H t.cW v := by
 obtain ⟨fp, gp, _, r, _, _⟩ := S.rep
 cases r with
 | cons r _ => exact r.cW S.zh fun _ _ => rfl
theorem bT.pop (S : bT K CL b H Z δ σ (t :: ts) (v :: vs)) : bT K CL b H Z δ σ ts vs := by
 obtain ⟨fp, gp, e, r, nd, k⟩ := S.rep
 cases r with
 | @cons _ _ _ _ f1 f2 r1 r2 =>
   refine ⟨⟨fp, f2, e, r2, nd.sublist (abd (abb _) (abC _ _)), fun a ha => k a ?_⟩, S.bh, S.zz, S.zh, S.new, S.tp, S.tab⟩
   rcases aaS.mp ha with h | h
   . exact aaX _ h
   . exact aaD _ (aaD _ h)
theorem bT.push {d : D} (S : bT K CL b H Z δ σ ts vs) (r : bz K CL Z d v) : bT K CL b H Z δ σ (.sh d :: ts) (v :: vs) := by
 obtain ⟨fp, gp, e, r2, nd, k⟩ := S.rep
 exact ⟨⟨fp, [] ++ gp, e, .cons (.sh r) r2, nd, k⟩, S.bh, S.zz, S.zh, S.new, S.tp, S.tab⟩
theorem bT.E2 (S : bT K CL b H Z δ σ (t :: ts) (v :: vs)) : ∃ Z', aA Z Z' /\ bT K CL b H Z' δ σ (.sh t.cW :: ts) (v :: vs) := by
 classical
 obtain ⟨fp, gp, e, r, nd, k⟩ := S.rep
 cases r with
 | @cons _ _ _ _ f1 f2 r1 r2 =>
   have nZ : ∀ a ∈ f1, Z a = none /\ b.B a = none := fun a ha => k a (aaD _ (aaX _ ha))
   have sz : aA Z (fun a => if a ∈ f1 then H a else Z a) := fun a o q => by
     by_cases ha : a ∈ f1
     . rw [(nZ a ha).1] at q; cases q
     . show (if a ∈ f1 then H a else Z a) = some o
       rw [aaE ha]; exact q
   have Sh := abm.mp nd
   have dj : ∀ a ∈ fp ++ f2, a ∉ f1 := fun a ha h1 => by
     rcases aaS.mp ha with h | h
     . exact Sh.2.2 a h a (aaX _ h1) rfl
     . exact (abm.mp Sh.2.1).2.2 a h1 a h rfl
   refine ⟨fun a => if a ∈ f1 then H a else Z a, sz, ⟨⟨fp, [] ++ f2, e.mono sz (fun _ _ => rfl), .cons (.sh (r1.cW sz fun a ha => aaF ha)) (r2.mono sz fun _ _ => rfl), ?_, fun a ha => ?_⟩, S.bh, S.zz.trans sz, fun a o q => ?_, fun a o q z => ?_, fun a o q i => ?_, S.tab⟩⟩
   . exact nd.sublist (abd (abb _) (abC _ _))
   . have E3 : a ∈ fp ++ f2 := ha
     refine ⟨?_, (k a ?_).2⟩
     . show (if a ∈ f1 then H a else Z a) = none
       rw [aaE (dj a E3)]
       refine (k a ?_).1
       rcases aaS.mp E3 with h | h
       . exact aaX _ h
       . exact aaD _ (aaD _ h)
     . rcases aaS.mp E3 with h | h
       . exact aaX _ h
       . exact aaD _ (aaD _ h)
   . have q' : (if a ∈ f1 then H a else Z a) = some o := q
     by_cases ha : a ∈ f1
     . rw [aaF ha] at q'; exact q'
     . rw [aaE ha] at q'; exact S.zh a o q'
   . have q' : (if a ∈ f1 then H a else Z a) = some o := q
     by_cases ha : a ∈ f1
     . exact (nZ a ha).2
     . rw [aaE ha] at q'; exact S.new a o q' z
   . exact sz a o (S.tp a o q i)
theorem bT.Jb {i : Nat} (S : bT K CL b H Z δ σ ts vs) (hi : δ[i]? = some (some t)) : ∃ v Z', σ[i]? = some (some v) /\ aA Z Z' /\ bT K CL b H Z' (δ.set i (some (.sh t.cW))) σ (.sh t.cW :: ts) (v :: vs) := by
 classical
 obtain ⟨fp, gp, e, r, nd, k⟩ := S.rep
 obtain ⟨v, f1, f2, f3, hv, qy, rt, put, _⟩ := e.get hi
 subst qy
 have nZ : ∀ a ∈ f2, Z a = none /\ b.B a = none := fun a ha => k a (by simp [ha])
 have sz : aA Z (fun a => if a ∈ f2 then H a else Z a) := fun a o q => by
   by_cases ha : a ∈ f2
   . rw [(nZ a ha).1] at q; cases q
   . show (if a ∈ f2 then H a else Z a) = some o
     rw [aaE ha]; exact q
 have dj : ∀ a ∈ (f1 ++ f3) ++ gp, a ∉ f2 := fun a ha h2 => by
   have hp : ((f1 ++ (f2 ++ f3)) ++ gp).Perm (f2 ++ ((f1 ++ f3) ++ gp)) := by
     rw [← aaG, ← aaG]
     refine (List.perm_append_right_iff gp).mpr ?_
     rw [← aaG]
     exact (List.perm_append_right_iff f3).mpr abl
   exact (abm.mp (hp.nodup_iff.mp nd)).2.2 a h2 a ha rfl
 have rF : bz K CL (fun a => if a ∈ f2 then H a else Z a) t.cW v := rt.cW sz fun a ha => aaF ha
 have OO : σ.set i (some v) = σ := by
   apply ab3
   intro j
   rw [List.getElem?_set]
   split
   . rename_i h; subst h
     split
     . exact hv.symm
     . rename_i h2; rw [ab6 (by omega)]
   . rfl
 have e2 : ef K CL H (fun a => if a ∈ f2 then H a else Z a) (δ.set i (some (.sh t.cW))) σ (f1 ++ ([] ++ f3)) := by
   have := put (H' := H) (t' := .sh t.cW) (v' := v) (g := []) sz (fun _ _ => rfl) (.sh rF)
   rwa [OO] at this
 refine ⟨v, fun a => if a ∈ f2 then H a else Z a, hv, sz, ⟨⟨f1 ++ ([] ++ f3), [] ++ gp, e2, .cons (.sh rF) (r.mono sz fun _ _ => rfl), ?_, fun a ha => ?_⟩, S.bh, S.zz.trans sz, fun a o q => ?_, fun a o q z => ?_, fun a o q i => sz a o (S.tp a o q i), S.tab⟩⟩
 . exact nd.sublist (abd (abd (abb _) (abC _ _)) (abb _))
 . have E3 : a ∈ (f1 ++ f3) ++ gp := ha
   have hm : a ∈ (f1 ++ (f2 ++ f3)) ++ gp := by
     simp only [aaS] at E3 ⊢
     rcases E3 with (h | h) | h
     . exact .inl (.inl h)
     . exact .inl (.inr (.inr h))
     . exact .inr h
   refine ⟨?_, (k a hm).2⟩
   show (if a ∈ f2 then H a else Z a) = none
   rw [aaE (dj a E3)]
   exact (k a hm).1
 . have q' : (if a ∈ f2 then H a else Z a) = some o := q
   by_cases ha : a ∈ f2
   . rw [aaF ha] at q'; exact q'
   . rw [aaE ha] at q'; exact S.zh a o q'
 . have q' : (if a ∈ f2 then H a else Z a) = some o := q
   by_cases ha : a ∈ f2
   . exact (nZ a ha).2
   . rw [aaE ha] at q'; exact S.new a o q' z
theorem bT.move {i : Nat} (S : bT K CL b H Z δ σ ts vs) (hi : δ[i]? = some (some t)) : ∃ v, σ[i]? = some (some v) /\ bT K CL b H Z (δ.set i none) σ (t :: ts) (v :: vs) := by
 obtain ⟨fp, gp, e, r, nd, k⟩ := S.rep
 obtain ⟨v, f1, f2, f3, hv, qy, rt, _, del⟩ := e.get hi
 subst qy
 have OO : σ.set i (some v) = σ := by
   apply ab3
   intro j
   rw [List.getElem?_set]
   split
   . rename_i h; subst h
     split
     . exact hv.symm
     . rename_i h2; rw [ab6 (by omega)]
   . rfl
 have hp : ((f1 ++ (f2 ++ f3)) ++ gp).Perm ((f1 ++ f3) ++ (f2 ++ gp)) := by
   have h1 : (f2 ++ f3).Perm (f3 ++ f2) := abl
   have h2 := (abr f1 h1).append_right gp
   simp only [aaG] at h2 ⊢
   exact h2
 refine ⟨v, hv, ⟨⟨f1 ++ f3, f2 ++ gp, ?_, .cons rt r, hp.nodup_iff.mp nd, fun a ha => k a (hp.mem_iff.mpr ha)⟩, S.bh, S.zz, S.zh, S.new, S.tp, S.tab⟩⟩
 have := del (o := some v)
 rwa [OO] at this
theorem bT.look {i : Nat} (S : bT K CL b H Z δ σ ts vs) (hi : δ[i]? = some (some t)) : ∃ v, σ[i]? = some (some v) /\ bz K CL H t.cW v := by
 obtain ⟨fp, gp, e, r, nd, k⟩ := S.rep
 obtain ⟨v, f1, f2, f3, hv, qy, rt, _, _⟩ := e.get hi
 exact ⟨v, hv, rt.cW S.zh fun _ _ => rfl⟩
theorem bT.MV {i : Nat} {d : D} (S : bT K CL b H Z δ σ ts vs) (hi : δ[i]? = some (some (.sh d))) : ∃ v, σ[i]? = some (some v) /\ bz K CL Z d v := by
 obtain ⟨fp, gp, e, r, nd, k⟩ := S.rep
 obtain ⟨v, f1, f2, f3, hv, qy, rt, _, _⟩ := e.get hi
 cases rt with
 | sh h => exact ⟨v, hv, h⟩
theorem bT.set {i : Nat} (S : bT K CL b H Z δ σ (t :: ts) (v :: vs)) (hi : i < δ.length) : bT K CL b H Z (δ.set i (some t)) (σ.set i (some v)) ts vs := by
 obtain ⟨fp, gp, e, r, nd, k⟩ := S.rep
 cases r with
 | @cons _ _ _ _ f1 f2 r1 r2 =>
   obtain ⟨f, h1, f', h2, h3⟩ := e.put r1 hi
   have hp : (f ++ f2).Perm (f' ++ (f1 ++ f2)) := by
     refine (h3.append_right f2).trans ?_
     rw [← aaG]
     exact abl.append_right f2
   have Si : (f' ++ (f1 ++ f2)).Sublist (fp ++ (f1 ++ f2)) := abd h2 (abb _)
   exact ⟨⟨f, f2, h1, r2, hp.nodup_iff.mpr (nd.sublist Si), fun a ha => k a (Si.subset (hp.mem_iff.mp ha))⟩, S.bh, S.zz, S.zh, S.new, S.tp, S.tab⟩
end
mutual
def D.jd : D -> Bool
 | .tup ds => D.bM ds
 | .lst _ => false
 | .ins _ _ => false
 | .qx _ => false
 | .any => false
 | _ => true
def D.bM : List D -> Bool
 | [] => true
 | d :: ds => d.jd && D.bM ds
end
mutual
def T.clean : T -> Bool
 | .sh d => d.jd
 | .tup ts => T.dH ts
 | .lst ts => T.dH ts
 | .ins _ fs => T.aW fs
 | .qx kH => D.bM (kH.map (·.2))
 | .pin _ t => t.clean
def T.dH : List T -> Bool
 | [] => true
 | t :: ts => t.clean && T.dH ts
def T.aW : List (Str × T) -> Bool
 | [] => true
 | (_, t) :: ts => t.clean && T.aW ts
end
def cj (X : Cx) (CL : Str -> Addr) (b : Bx) (e : Expr) (δ : List (Option T)) (t : T) (δ' : List (Option T)) : Prop :=
 ∀ (H Z : Hp) (σ : L2.St) (ts : List T) (vs : List V) (Q : VK), bT X.K CL b H Z δ σ ts vs -> (∀ v H' Z', aA Z Z' -> aA H H' -> bT X.K CL b H' Z' δ' σ (t :: ts) (v :: vs) -> Q v H') -> yS X e σ H Q
def cD (X : Cx) (CL : Str -> Addr) (b : Bx) (e : Expr) (δ : List (Option T)) (d : D) (δ' : List (Option T)) : Prop :=
 ∀ (H Z : Hp) (σ : L2.St) (ts : List T) (vs : List V) (Q : VK), bT X.K CL b H Z δ σ ts vs -> (∀ v H' Z', aA Z Z' -> aA H H' -> bT X.K CL b H' Z' δ' σ ts vs -> bz X.K CL H' d v -> Q v H') -> yS X e σ H Q
def mS (X : Cx) (CL : Str -> Addr) (b : Bx) (e : Expr) (δ : List (Option T)) (p : Bool) (δ' : List (Option T)) : Prop :=
 ∀ (H Z : Hp) (σ : L2.St) (ts : List T) (vs : List V) (Q : Bool -> Hp -> Prop), bT X.K CL b H Z δ σ ts vs -> (∀ H' Z', aA Z Z' -> aA H H' -> bT X.K CL b H' Z' δ' σ ts vs -> Q p H') -> I0 X e σ H Q
def A0 (X : Cx) (CL : Str -> Addr) (b : Bx) (es : List Expr) (δ : List (Option T)) (tl : List T) (δ' : List (Option T)) : Prop :=
 ∀ (H Z : Hp) (σ : L2.St) (ts : List T) (vs : List V) (Q : List V -> Hp -> Prop), bT X.K CL b H Z δ σ ts vs →
   (∀ us H' Z', us.length = tl.length -> aA Z Z' -> aA H H' -> bT X.K CL b H' Z' δ' σ (tl.reverse ++ ts) (us.reverse ++ vs) -> Q us H') -> E1 X es σ H Q
def MX (X : Cx) (CL : Str -> Addr) (b : Bx) (es : List Expr) (δ : List (Option T)) (ds : List D) (δ' : List (Option T)) : Prop :=
 ∀ (H Z : Hp) (σ : L2.St) (ts : List T) (vs : List V) (Q : List V -> Hp -> Prop), bT X.K CL b H Z δ σ ts vs →
   (∀ us H' Z', aA Z Z' -> aA H H' -> bT X.K CL b H' Z' δ' σ ts vs -> aD X.K CL H' ds us -> Q us H') -> E1 X es σ H Q
structure cM where
 nx : List (Option T) -> Prop
 rt : T -> List (Option T) -> Prop
 bk : List (Option T) -> Prop := fun _ => False
 ct : List (Option T) -> Prop := fun _ => False
structure Meets (K : PySem.W.Frag) (CL : Str -> Addr) (b : Bx) (Z : Hp) (ts : List T) (vs : List V) (D : cM) (E : Ends) : Prop where
 nx : ∀ δ' σ' H' Z', aA Z Z' -> bT K CL b H' Z' δ' σ' ts vs -> D.nx δ' -> E.nx σ' H'
 rt : ∀ t v H' Z' δ' σ', aA Z Z' -> bT K CL b H' Z' δ' σ' (t :: ts) (v :: vs) -> D.rt t δ' -> E.rt v H'
 bk : ∀ δ' σ' H' Z', aA Z Z' -> bT K CL b H' Z' δ' σ' ts vs -> D.bk δ' -> E.bk σ' H'
 ct : ∀ δ' σ' H' Z', aA Z Z' -> bT K CL b H' Z' δ' σ' ts vs -> D.ct δ' -> E.ct σ' H'
def OQ (X : Cx) (CL : Str -> Addr) (b : Bx) (st : Stmt) (δ : List (Option T)) (D : cM) : Prop :=
 ∀ (H Z : Hp) (σ : L2.St) (ts : List T) (vs : List V) (E : Ends), bT X.K CL b H Z δ σ ts vs -> Meets X.K CL b Z ts vs D E -> OG X st E σ H
def fD (X : Cx) (CL : Str -> Addr) (b : Bx) (st : List Stmt) (δ : List (Option T)) (D : cM) : Prop :=
 ∀ (H Z : Hp) (σ : L2.St) (ts : List T) (vs : List V) (E : Ends), bT X.K CL b H Z δ σ ts vs -> Meets X.K CL b Z ts vs D E -> OI X st E σ H
section
variable {K : PySem.W.Frag} {CL : Str -> Addr} {b : Bx} {H H' Z Z' : Hp} {δ δ' : List (Option T)} {σ σ' : L2.St} {ts YN : List T} {vs V8 : List V} {t : T} {v : V}
theorem Meets.mono {D : cM} {E : Ends} (M : Meets K CL b Z ts vs D E) (e : aA Z Z') : Meets K CL b Z' ts vs D E :=
 ⟨fun _ _ _ _ s => M.nx _ _ _ _ (e.trans s), fun _ _ _ _ _ _ s => M.rt _ _ _ _ _ _ (e.trans s), fun _ _ _ _ s => M.bk _ _ _ _ (e.trans s), fun _ _ _ _ s => M.ct _ _ _ _ (e.trans s)⟩
theorem Jc {a : Addr} {xs : List V} (zh : ∀ a o, H a = some o -> gi o = true -> Z a = some o) (h : AJ K H a xs) : AJ K Z a xs := by
 rcases h with (h | ⟨o, h⟩) | h
 . exact .inl (.inl (zh _ _ h rfl))
 . exact .inl (.inr ⟨o, zh _ _ h rfl⟩)
 . exact .inr h
mutual
theorem bz.jd (zh : ∀ a o, H a = some o -> gi o = true -> Z a = some o) : ∀ {d : D} {v : V}, d.jd = true -> bz K CL H d v -> bz K CL Z d v
 | _, _, _, .non => .non
 | _, _, _, .bl b => .bl b
 | _, _, _, .int b => .int b
 | _, _, _, .str b => .str b
 | _, _, k, .any b => by rw [D.jd] at k; cases k
 | _, _, _, .val b => .val b
 | _, _, k, .tup h r => .tup (Jc zh h) (aD.jd zh (by rw [D.jd] at k; exact k) r)
 | _, _, k, .lst h r => by rw [D.jd] at k; cases k
 | _, _, k, .ins h r => by rw [D.jd] at k; cases k
 | _, _, k, .qx h r => by rw [D.jd] at k; cases k
theorem aD.jd (zh : ∀ a o, H a = some o -> gi o = true -> Z a = some o) : ∀ {d : List D} {v : List V}, D.bM d = true -> aD K CL H d v -> aD K CL Z d v
 | _, _, _, .nil => .nil
 | _, _, k, .cons h r => by
   rw [D.bM, abt] at k
   exact .cons (bz.jd zh k.1 h) (aD.jd zh k.2 r)
end
theorem fQ.clean {Z1 : Hp} (zi : ∀ {d : D} {v : V}, d.jd = true -> bz K CL Z1 d v -> bz K CL Z d v) : ∀ {kH : List (Key × D)} {gs : List (Key × V)}, D.bM (kH.map (·.2)) = true -> fQ K CL Z1 kH gs -> fQ K CL Z kH gs
 | _, _, _, .nil => .nil
 | _, _, k, .cons h r => by
   rw [aa8, D.bM, abt] at k
   exact .cons (zi k.1 h) (fQ.clean zi k.2 r)
mutual
theorem cy.clean {Z1 : Hp} (zh : ∀ a xs, Z1 a = some (.tup xs) -> Z a = some (.tup xs)) (zi : ∀ {d : D} {v : V}, d.jd = true -> bz K CL Z1 d v -> bz K CL Z d v) : ∀ {t : T} {v : V} {fp : List Addr}, t.clean = true -> cy K CL H Z1 t v fp -> cy K CL H Z t v fp
 | _, _, _, k, .sh h => .sh (zi (by rw [T.clean] at k; exact k) h)
 | _, _, _, k, .tup h r => .tup (zh _ _ h) (aL.clean zh zi (by rw [T.clean] at k; exact k) r)
 | _, _, _, k, .lst h r => .lst h (aL.clean zh zi (by rw [T.clean] at k; exact k) r)
 | _, _, _, k, .ins h r => .ins h (bQ.clean zh zi (by rw [T.clean] at k; exact k) r)
 | _, _, _, k, .qx h r => .qx h (fQ.clean zi (by rw [T.clean] at k; exact k) r)
 | _, _, _, k, .pin r => .pin (cy.clean zh zi (by rw [T.clean] at k; exact k) r)
theorem aL.clean {Z1 : Hp} (zh : ∀ a xs, Z1 a = some (.tup xs) -> Z a = some (.tup xs)) (zi : ∀ {d : D} {v : V}, d.jd = true -> bz K CL Z1 d v -> bz K CL Z d v) : ∀ {t : List T} {v : List V} {fp : List Addr}, T.dH t = true -> aL K CL H Z1 t v fp -> aL K CL H Z t v fp
 | _, _, _, _, .nil => .nil
 | _, _, _, k, .cons h r => by
   rw [T.dH, abt] at k
   exact .cons (cy.clean zh zi k.1 h) (aL.clean zh zi k.2 r)
theorem bQ.clean {Z1 : Hp} (zh : ∀ a xs, Z1 a = some (.tup xs) -> Z a = some (.tup xs)) (zi : ∀ {d : D} {v : V}, d.jd = true -> bz K CL Z1 d v -> bz K CL Z d v) : ∀ {t : List (Str × T)} {v : List (Str × V)} {fp : List Addr}, T.aW t = true -> bQ K CL H Z1 t v fp -> bQ K CL H Z t v fp
 | _, _, _, _, .nil => .nil
 | _, _, _, k, .cons h r => by
   rw [T.aW, abt] at k
   exact .cons (cy.clean zh zi k.1 h) (bQ.clean zh zi k.2 r)
end
theorem bT.back {W W' : Hp} {fp : List Addr} (S : bT K CL b H Z δ σ ts vs) (hh : aA H H') (zw : aA Z W) (ww : aA W W') (wh : aA W' H') (new : ∀ a o, W' a = some o -> W a = none -> H a = none)
   (tp : ∀ a o, H' a = some o -> gi o = true -> W' a = some o) (r : cy K CL H' W' t v fp) (nd : fp.Nodup) (own : ∀ a ∈ fp, W' a = none /\ H a = none) (c : W = Z \/ t.clean = true) :
   ∃ Z', aA Z Z' /\ bT K CL b H' Z' δ σ (t :: ts) (v :: vs) := by
 classical
 let Z' : Hp := fun a => if (H a).isSome = true then Z a else W' a
 have zs : ∀ {a : Addr} {o : HO}, H a = some o -> Z' a = Z a := fun {a o} e => by
   show (if (H a).isSome = true then Z a else W' a) = Z a
   rw [aaF (by rw [e]; rfl)]
 have zn : ∀ {a : Addr}, H a = none -> Z' a = W' a := fun {a} e => by
   show (if (H a).isSome = true then Z a else W' a) = W' a
   rw [aaE (by rw [e]; simp)]
 have sz : aA Z Z' := fun a o q => by rw [zs (S.zh a o q)]; exact q
 have YQ : ∀ a o, Z' a = some o -> W' a = some o := fun a o q => by
   cases e : H a with
   | none => rw [zn e] at q; exact q
   | some u => rw [zs e] at q; exact ww a o (zw a o q)
 have V9 : ∀ a o, H' a = some o -> gi o = true -> Z' a = some o := fun a o q i => by
   cases e : H a with
   | none => rw [zn e]; exact tp a o q i
   | some u =>
     rw [zs e]
     have := hh a u e
     rw [q] at this; cases this
     exact S.tp a o e i
 have r' : cy K CL H' Z' t v fp := by
   rcases c with c | c
   . have : Z' = W' := by
       funext a
       cases e : H a with
       | none => exact zn e
       | some u =>
         rw [zs e]
         cases q : W' a with
         | none =>
           cases q2 : Z a with
           | none => rfl
           | some o => rw [ww a o (zw a o q2)] at q; cases q
         | some o =>
           cases q2 : W a with
           | none => rw [new a o q q2] at e; cases e
           | some o2 =>
             have := ww a o2 q2
             rw [q] at this; cases this
             rw [← c]; exact q2
     rw [this]; exact r
   . refine cy.clean (fun a xs h => ?_) (fun {d v} k h => ?_) c r
     . exact V9 a _ (wh a _ h) rfl
     . exact bz.jd (H := H') V9 k (h.mono wh)
 obtain ⟨f0, g0, e0, r0, YR, k0⟩ := S.rep
 have old : ∀ a ∈ f0 ++ g0, ∃ o, H a = some o := fun a ha => (aaS.mp ha).elim (e0.there a) (r0.there a)
 have keep : ∀ a ∈ f0 ++ g0, H' a = H a := fun a ha => by
   obtain ⟨o, e⟩ := old a ha
   rw [e]; exact hh a o e
 refine ⟨Z', sz, ⟨⟨f0, fp ++ g0, e0.mono sz (fun a ha => keep a (aaX _ ha)), .cons r' (r0.mono sz fun a ha => keep a (aaD _ ha)), ?_, fun a ha => ?_⟩, S.bh.trans hh, S.zz.trans sz, fun a o q => wh a o (YQ a o q), fun a o q z => ?_, V9, S.tab⟩⟩
 . have hp : (f0 ++ (fp ++ g0)).Perm (fp ++ (f0 ++ g0)) := by
     rw [← aaG, ← aaG]
     exact abl.append_right g0
   refine hp.nodup_iff.mpr (abm.mpr ⟨nd, YR, fun a ha c hc e => ?_⟩)
   subst e
   obtain ⟨o, q⟩ := old a hc
   rw [(own a ha).2] at q; cases q
 . have : a ∈ f0 ++ g0 \/ a ∈ fp := by
     simp only [aaS] at ha ⊢
     rcases ha with h | h | h
     . exact .inl (.inl h)
     . exact .inr h
     . exact .inl (.inr h)
   rcases this with h | h
   . obtain ⟨o, q⟩ := old a h
     exact ⟨by rw [zs q]; exact (k0 a h).1, (k0 a h).2⟩
   . exact ⟨by rw [zn (own a h).2]; exact (own a h).1, S.bh.free (own a h).2⟩
 . cases e : H a with
   | none => exact S.bh.free e
   | some u => rw [zs e] at q; exact S.new a o q z
end
section
variable {X : Cx} {CL : Str -> Addr} {b : Bx} {δ δ1 δ2 δ3 : List (Option T)} {e e1 e2 : Expr} {t t1 t2 : T} {d d1 d2 : D} {pos : Pos}
theorem MY (h : cj X CL b e δ t δ1) : cD X CL b e δ t.cW δ1 := fun H Z σ ts vs Q S k => h H Z σ ts vs Q S fun v H' Z' z s S' => k v H' Z' z s S'.pop S'.view
theorem ah (h : cj X CL b e δ (.sh d) δ1) : cD X CL b e δ d δ1 := by have := MY h; rwa [T.cW] at this
theorem cK (h : cD X CL b e δ d δ1) (i : d.jd = true) : cj X CL b e δ (.sh d) δ1 := fun H Z σ ts vs Q S k => h H Z σ ts vs Q S fun v H' Z' z s S' r => k v H' Z' z s (S'.push (bz.jd S'.tp i r))
theorem A1 (h : cj X CL b e δ t δ1) : cj X CL b e δ (.sh t.cW) δ1 := fun H Z σ ts vs Q S k => h H Z σ ts vs Q S fun v H' Z' z s S' => by
 obtain ⟨Z2, z2, S2⟩ := S'.E2
 exact k v H' Z2 (z.trans z2) s S2
theorem aj {i : Int} {j : Nat} : cj X CL b (.Constant (.int i) j pos) δ (.sh (.int i)) δ := fun H Z σ ts vs Q S k => c9 NR (k _ _ Z (.refl _) (.refl _) (S.push (.int i)))
theorem B7 {i : Bool} {j : Nat} : cj X CL b (.Constant (.bool i) j pos) δ (.sh (.bl i)) δ := fun H Z σ ts vs Q S k => c9 Rz (k _ _ Z (.refl _) (.refl _) (S.push (.bl i)))
theorem bO {x : Str} {j : Nat} : cj X CL b (.Constant (.str x) j pos) δ (.sh (.str x)) δ := fun H Z σ ts vs Q S k => c9 NS (k _ _ Z (.refl _) (.refl _) (S.push (.str x)))
section
variable (i : Nat) {x : Str} (hi : X.N[i]? = some x := by rfl) (hv : NC X.env.scope x := by first | exact Or.inl rfl | exact Or.inr (Or.inl rfl) | exact Or.inr (Or.inr rfl)) (hd : (x == ("__debug__" : Str)) = false := by decide) (iL : (x == ("__classdict__" : Str)) = false := by decide)
include hi hv hd iL
theorem OS (h : δ[i]? = some (some (.sh d)) := by rfl) : cj X CL b (.Name x pos) δ (.sh d) δ := fun H Z σ ts vs Q S k => by
 obtain ⟨v, e, r⟩ := S.MV h
 exact c9 (mz hi hv hd iL) ⟨v, e, k v H Z (.refl _) (.refl _) (S.push r)⟩
theorem Jd (h : δ[i]? = some (some t) := by rfl) : cj X CL b (.Name x pos) δ (.sh t.cW) (δ.set i (some (.sh t.cW))) := fun H Z σ ts vs Q S k => by
 obtain ⟨v, Z', e, z, S'⟩ := S.Jb h
 exact c9 (mz hi hv hd iL) ⟨v, e, k v H Z' z (.refl _) S'⟩
theorem Je (h : δ[i]? = some (some t) := by rfl) : cj X CL b (.Name x pos) δ t (δ.set i none) := fun H Z σ ts vs Q S k => by
 obtain ⟨v, e, S'⟩ := S.move h
 exact c9 (mz hi hv hd iL) ⟨v, e, k v H Z (.refl _) (.refl _) S'⟩
theorem OU (h : δ[i]? = some (some t) := by rfl) : cD X CL b (.Name x pos) δ t.cW δ := fun H Z σ ts vs Q S k => by
 obtain ⟨v, e, r⟩ := S.look h
 exact c9 (mz hi hv hd iL) ⟨v, e, k v H Z (.refl _) (.refl _) S r⟩
end
def OV : D -> Option V
 | .non => some .non
 | .bl b => some (.bl b)
 | .int i => some (.int i)
 | .str x => some (.str x)
 | _ => none
theorem bz.sc {K : PySem.W.Frag} {Z : Hp} {d : D} {v w : V} (r : bz K CL Z d v) (h : OV d = some w) : v = w := by
 cases r <;> first | (exact aaY h) | (cases h)
theorem Jf {K : PySem.W.Frag} {Z : Hp} {d : D} {w : V} (h : OV d = some w) : bz K CL Z d w := by
 cases d <;> first | (cases h; constructor) | (cases h)
theorem mC {op : Operator} {r : R2} {w1 w2 w : V} (ho : pQ X (binaryOp op) r) (h1 : cD X CL b e1 δ d1 δ1) (h2 : cD X CL b e2 δ1 d2 δ2) (s1 : OV d1 = some w1) (s2 : OV d2 = some w2) (s3 : OV d = some w)
   (hr : ∀ (H : Hp) (Q : VK), Q w H -> r w1 w2 H Q) : cj X CL b (.BinOp e1 op e2 pos) δ (.sh d) δ2 := fun H Z σ ts vs Q S k => by
 refine c9 (EC ho eT eT) (h1 H Z σ ts vs _ S fun v1 H1 Z1 z1 k1 S1 r1 => h2 H1 Z1 σ ts vs _ S1 fun v2 H2 Z2 z2 k2 S2 r2 => ?_)
 rw [r1.sc s1, r2.sc s2]
 exact hr H2 Q (k w H2 Z2 (z1.trans z2) (k1.trans k2) (S2.push (Jf s3)))
theorem dm {i j : Int} (h1 : cD X CL b e1 δ (.int i) δ1) (h2 : cD X CL b e2 δ1 (.int j) δ2) : cj X CL b (.BinOp e1 .Add e2 pos) δ (.sh (.int (i + j))) δ2 := mC Oc h1 h2 rfl rfl rfl fun _ _ q => ⟨i, j, rfl, rfl, q⟩
theorem jS {i j : Int} (h1 : cD X CL b e1 δ (.int i) δ1) (h2 : cD X CL b e2 δ1 (.int j) δ2) : cj X CL b (.BinOp e1 .Sub e2 pos) δ (.sh (.int (i - j))) δ2 := mC Od h1 h2 rfl rfl rfl fun _ _ q => ⟨i, j, rfl, rfl, q⟩
theorem mD {i j : Int} (h1 : cD X CL b e1 δ (.int i) δ1) (h2 : cD X CL b e2 δ1 (.int j) δ2) (c : IC i j) : cj X CL b (.BinOp e1 .Mult e2 pos) δ (.sh (.int (i * j))) δ2 := mC Oe h1 h2 rfl rfl rfl fun _ _ q => ⟨i, j, rfl, rfl, c, q⟩
theorem aQ {i j : Int} (h1 : cD X CL b e1 δ (.int i) δ1) (h2 : cD X CL b e2 δ1 (.int j) δ2) (c : 0 < j) : cj X CL b (.BinOp e1 .Mod e2 pos) δ (.sh (.int (i % j))) δ2 := mC Og h1 h2 rfl rfl rfl fun _ _ q => ⟨i, j, rfl, rfl, c, q⟩
theorem bD {i j : Int} (h1 : cD X CL b e1 δ (.int i) δ1) (h2 : cD X CL b e2 δ1 (.int j) δ2) (c : RT i j) : cj X CL b (.BinOp e1 .FloorDiv e2 pos) δ (.sh (.int (i / j))) δ2 := mC IE h1 h2 rfl rfl rfl fun _ _ q => ⟨i, j, rfl, rfl, c, q⟩
theorem A2 {i j : Int} (h1 : cD X CL b e1 δ (.int i) δ1) (h2 : cD X CL b e2 δ1 (.int j) δ2) (c : RV i j) : cj X CL b (.BinOp e1 .Pow e2 pos) δ (.sh (.int (i ^ j.toNat))) δ2 := mC Oh h1 h2 rfl rfl rfl fun _ _ q => ⟨i, j, rfl, rfl, c, q⟩
theorem jT {x y : Str} (h1 : cD X CL b e1 δ (.str x) δ1) (h2 : cD X CL b e2 δ1 (.str y) δ2) (c : x.length + y.length <= sizeLine) : cj X CL b (.BinOp e1 .Add e2 pos) δ (.sh (.str (x ++ y))) δ2 := mC AO h1 h2 rfl rfl rfl fun _ _ q => ⟨x, y, rfl, rfl, c, q⟩
theorem pU {op : CmpOp} {r : R2} {p : Bool} {w1 w2 : V} (ho : pQ X (compareOp op) r) (h1 : cD X CL b e1 δ d1 δ1) (h2 : cD X CL b e2 δ1 d2 δ2) (s1 : OV d1 = some w1) (s2 : OV d2 = some w2)
   (hr : ∀ (H : Hp) (Q : VK), Q (.bl p) H -> r w1 w2 H Q) (hm : behindInMarks op e2 = false) : mS X CL b (.Compare e1 [op] [e2] pos) δ p δ2 /\ cj X CL b (.Compare e1 [op] [e2] pos) δ (.sh (.bl p)) δ2 := by
 constructor
 . intro H Z σ ts vs Q S k
   refine Dh (qv ho eT eT hm) (h1 H Z σ ts vs _ S fun v1 H1 Z1 z1 k1 S1 r1 => h2 H1 Z1 σ ts vs _ S1 fun v2 H2 Z2 z2 k2 S2 r2 => ?_)
   rw [r1.sc s1, r2.sc s2]
   exact hr H2 _ ⟨p, rfl, k H2 Z2 (z1.trans z2) (k1.trans k2) S2⟩
 . intro H Z σ ts vs Q S k
   refine c9 (qu ho eT eT hm) (h1 H Z σ ts vs _ S fun v1 H1 Z1 z1 k1 S1 r1 => h2 H1 Z1 σ ts vs _ S1 fun v2 H2 Z2 z2 k2 S2 r2 => ?_)
   rw [r1.sc s1, r2.sc s2]
   exact hr H2 _ (k _ H2 Z2 (z1.trans z2) (k1.trans k2) (S2.push (.bl p)))
theorem dw {i j : Int} (h1 : cD X CL b e1 δ (.int i) δ1) (h2 : cD X CL b e2 δ1 (.int j) δ2) : mS X CL b (.Compare e1 [.Eq] [e2] pos) δ (decide (i = j)) δ2 /\ cj X CL b (.Compare e1 [.Eq] [e2] pos) δ (.sh (.bl (decide (i = j)))) δ2 :=
 pU EE h1 h2 rfl rfl (fun _ _ q => ⟨rfl, by rw [show decide (V.int i = V.int j) = decide (i = j) by simp]; exact q⟩) (iu _)
theorem uZ {i j : Int} (h1 : cD X CL b e1 δ (.int i) δ1) (h2 : cD X CL b e2 δ1 (.int j) δ2) : mS X CL b (.Compare e1 [.NotEq] [e2] pos) δ (!decide (i = j)) δ2 /\ cj X CL b (.Compare e1 [.NotEq] [e2] pos) δ (.sh (.bl (!decide (i = j)))) δ2 :=
 pU MN h1 h2 rfl rfl (fun _ _ q => ⟨rfl, by rw [show decide (V.int i = V.int j) = decide (i = j) by simp]; exact q⟩) (iu _)
theorem ow {i j : Str} (h1 : cD X CL b e1 δ (.str i) δ1) (h2 : cD X CL b e2 δ1 (.str j) δ2) : mS X CL b (.Compare e1 [.Eq] [e2] pos) δ (decide (i = j)) δ2 /\ cj X CL b (.Compare e1 [.Eq] [e2] pos) δ (.sh (.bl (decide (i = j)))) δ2 :=
 pU EE h1 h2 rfl rfl (fun _ _ q => ⟨rfl, by rw [show decide (V.str i = V.str j) = decide (i = j) by simp]; exact q⟩) (iu _)
theorem MZ {i j : Int} (h1 : cD X CL b e1 δ (.int i) δ1) (h2 : cD X CL b e2 δ1 (.int j) δ2) : mS X CL b (.Compare e1 [.Lt] [e2] pos) δ (decide (i < j)) δ2 /\ cj X CL b (.Compare e1 [.Lt] [e2] pos) δ (.sh (.bl (decide (i < j)))) δ2 := pU RX h1 h2 rfl rfl (fun _ _ q => ⟨i, j, rfl, rfl, q⟩) (iu _)
theorem Sj {i j : Int} (h1 : cD X CL b e1 δ (.int i) δ1) (h2 : cD X CL b e2 δ1 (.int j) δ2) : mS X CL b (.Compare e1 [.LtE] [e2] pos) δ (decide (i <= j)) δ2 /\ cj X CL b (.Compare e1 [.LtE] [e2] pos) δ (.sh (.bl (decide (i <= j)))) δ2 := pU RZ h1 h2 rfl rfl (fun _ _ q => ⟨i, j, rfl, rfl, q⟩) (iu _)
theorem M0 {i j : Int} (h1 : cD X CL b e1 δ (.int i) δ1) (h2 : cD X CL b e2 δ1 (.int j) δ2) : mS X CL b (.Compare e1 [.Gt] [e2] pos) δ (decide (j < i)) δ2 /\ cj X CL b (.Compare e1 [.Gt] [e2] pos) δ (.sh (.bl (decide (j < i)))) δ2 := pU R0 h1 h2 rfl rfl (fun _ _ q => ⟨i, j, rfl, rfl, q⟩) (iu _)
end
section
variable {K : PySem.W.Frag} {CL : Str -> Addr} {H Z : Hp}
theorem aL.split : ∀ {as bs : List T} {us ws : List V} {gp : List Addr}, as.length = us.length -> aL K CL H Z (as ++ bs) (us ++ ws) gp -> ∃ g1 g2, gp = g1 ++ g2 /\ aL K CL H Z as us g1 /\ aL K CL H Z bs ws g2
 | [], _, [], _, gp, _, r => ⟨[], gp, rfl, .nil, r⟩
 | [], _, _ :: _, _, _, h, _ => by simp at h
 | _ :: _, _, [], _, _, h, _ => by simp at h
 | a :: as, bs, u :: us, ws, gp, h, r => by
   cases r with
   | @cons _ _ _ _ f1 f2 r1 r2 =>
     obtain ⟨g1, g2, e, h1, h2⟩ := aL.split (as := as) (us := us) (by simpa using h) r2
     exact ⟨f1 ++ g1, g2, by rw [e, aaG], .cons r1 h1, h2⟩
theorem aL.app : ∀ {as bs : List T} {us ws : List V} {g1 g2 : List Addr}, aL K CL H Z as us g1 -> aL K CL H Z bs ws g2 -> aL K CL H Z (as ++ bs) (us ++ ws) (g1 ++ g2)
 | _, _, _, _, _, _, .nil, q => q
 | _, _, _, _, _, _, .cons (fp := f1) (gp := f2) r t, q => by
   rw [aaG]
   exact .cons r (aL.app t q)
theorem aL.rev : ∀ {as : List T} {us : List V} {g : List Addr}, aL K CL H Z as.reverse us.reverse g -> ∃ g', aL K CL H Z as us g' /\ g'.Perm g
 | [], [], g, r => by
   have r' : aL K CL H Z [] [] g := r
   cases r'
   exact ⟨[], .nil, acm _⟩
 | [], u :: us, g, r => by have := r.length; simp at this
 | a :: as, [], g, r => by have := r.length; simp at this
 | a :: as, u :: us, g, r => by
   rw [abW, abW] at r
   have hl := r.length
   obtain ⟨g1, g2, e, r1, r2⟩ := aL.split (by simp at hl ⊢; omega) r
   subst e
   obtain ⟨g', r', p⟩ := aL.rev r1
   cases r2 with
   | @cons _ _ _ _ f1 f2 q1 q2 =>
     cases q2
     refine ⟨f1 ++ g', .cons q1 r', ?_⟩
     rw [abq]
     exact (abr f1 p).trans abl
theorem gj : ∀ (ds : List D), T.fW (ds.map T.sh) = ds
 | [] => rfl
 | d :: ds => by rw [aa8, T.fW, gj ds, T.cW]
end
section
variable {K : PySem.W.Frag} {CL : Str -> Addr} {b : Bx} {H H' Z Z' : Hp} {δ δ' : List (Option T)} {σ σ' : L2.St} {ts tl : List T} {vs us : List V} {t : T} {v : V}
theorem bT.E4 {p : Addr} (S : bT K CL b H Z δ σ (tl.reverse ++ ts) (us.reverse ++ vs)) (hl : us.length = tl.length) (hp : H p = none) :
   aA Z (upd Z p (.tup us)) /\ aA H (upd H p (.tup us)) /\ bT K CL b (upd H p (.tup us)) (upd Z p (.tup us)) δ σ (.tup tl :: ts) (.ref p :: vs) := by
 obtain ⟨fp, gp, e, r, nd, k⟩ := S.rep
 obtain ⟨g1, g2, eg, r1, r2⟩ := aL.split (by simp [hl]) r
 subst eg
 obtain ⟨g', r', pm⟩ := r1.rev
 have zp : Z p = none := S.zh.free hp
 have sz : aA Z (upd Z p (.tup us)) := aA.upd zp
 have sh : aA H (upd H p (.tup us)) := aA.upd hp
 have keep : ∀ a ∈ fp ++ (g1 ++ g2), a ≠ p := fun a ha => by
   have : ∃ o, H a = some o := by
     rcases aaS.mp ha with h | h
     . exact e.there a h
     . exact r.there a h
   obtain ⟨o, q⟩ := this
   exact aC q hp
 have M3 : (fp ++ (g' ++ g2)).Perm (fp ++ (g1 ++ g2)) := (pm.append_right g2).append_left fp
 have kk : ∀ a ∈ fp ++ (g' ++ g2), a ≠ p := fun a ha => keep a (M3.mem_iff.mp ha)
 refine ⟨sz, sh, ⟨⟨fp, g' ++ g2, e.mono sz (fun a ha => av (keep a (aaX _ ha))), .cons (.tup aN (r'.mono sz fun a ha => av (kk a (by simp [ha])))) (r2.mono sz fun a ha => av (keep a (by simp [ha]))), M3.nodup_iff.mpr nd, fun a ha => ?_⟩, S.bh.trans sh, S.zz.trans sz, fun a o q => ?_, fun a o q z => ?_, fun a o q i => ?_, S.tab⟩⟩
 . exact ⟨by rw [av (kk a ha)]; exact (k a (M3.mem_iff.mp ha)).1, (k a (M3.mem_iff.mp ha)).2⟩
 . by_cases ha : a = p
   . subst ha; rw [aN] at q ⊢; exact q
   . rw [av ha] at q ⊢; exact S.zh a o q
 . by_cases ha : a = p
   . subst ha; exact S.bh.free hp
   . rw [av ha] at q; exact S.new a o q z
 . by_cases ha : a = p
   . subst ha; rw [aN] at q ⊢; exact q
   . rw [av ha] at q ⊢; exact S.tp a o q i
theorem bT.oz {p : Addr} {g0 : List Addr} (S : bT K CL b H Z δ σ (tl.reverse ++ ts) (us.reverse ++ vs)) (hl : us.length = tl.length) (hp : H p = none) :
   aA H (upd H p (.lst us)) /\ bT K CL b (upd H p (.lst us)) Z δ σ (.lst tl :: ts) (.ref p :: vs) := by
 obtain ⟨fp, gp, e, r, nd, k⟩ := S.rep
 obtain ⟨g1, g2, eg, r1, r2⟩ := aL.split (by simp [hl]) r
 subst eg
 obtain ⟨g', r', pm⟩ := r1.rev
 have zp : Z p = none := S.zh.free hp
 have sh : aA H (upd H p (.lst us)) := aA.upd hp
 have keep : ∀ a ∈ fp ++ (g1 ++ g2), a ≠ p := fun a ha => by
   have : ∃ o, H a = some o := by
     rcases aaS.mp ha with h | h
     . exact e.there a h
     . exact r.there a h
   obtain ⟨o, q⟩ := this
   exact aC q hp
 have M3 : (fp ++ (g' ++ g2)).Perm (fp ++ (g1 ++ g2)) := (pm.append_right g2).append_left fp
 have kk : ∀ a ∈ fp ++ (g' ++ g2), a ≠ p := fun a ha => keep a (M3.mem_iff.mp ha)
 have Xy : (fp ++ ((p :: g') ++ g2)).Perm (p :: (fp ++ (g' ++ g2))) := by
   rw [aa6]; exact List.perm_middle
 refine ⟨sh, ⟨⟨fp, (p :: g') ++ g2, e.mono (.refl _) (fun a ha => av (keep a (aaX _ ha))), .cons (.lst aN (r'.mono (.refl _) fun a ha => av (kk a (by simp [ha])))) (r2.mono (.refl _) fun a ha => av (keep a (by simp [ha]))), ?_, fun a ha => ?_⟩, S.bh.trans sh, S.zz, S.zh.trans sh, S.new, fun a o q i => ?_, S.tab⟩⟩
 . refine Xy.nodup_iff.mpr (abT.mpr ⟨fun h => kk p h rfl, M3.nodup_iff.mpr nd⟩)
 . rcases aaH.mp (Xy.mem_iff.mp ha) with h | h
   . subst h; exact ⟨zp, S.bh.free hp⟩
   . exact k a (M3.mem_iff.mp h)
 . by_cases ha : a = p
   . subst ha; rw [aN] at q; cases q; cases i
   . rw [av ha] at q; exact S.tp a o q i
end
section
variable {X : Cx} {CL : Str -> Addr} {b : Bx} {δ δ1 δ2 δ3 : List (Option T)} {e e1 e2 e3 : Expr} {es : List Expr} {t t1 t2 : T} {d d1 d2 : D} {tl : List T} {ds : List D} {p q : Bool} {pos : Pos}
theorem eK : A0 X CL b [] δ [] δ := fun H Z σ ts vs Q S k => Di fX (k [] H Z rfl (.refl _) (.refl _) S)
theorem gk (h1 : cj X CL b e δ t δ1) (h2 : A0 X CL b es δ1 tl δ2) (hs : starEach (e :: es) X.env = (false, eval e X.env) :: starEach es X.env := by exact cz rfl) : A0 X CL b (e :: es) δ (t :: tl) δ2 := fun H Z σ ts vs Q S k =>
 Di (cO eT Ja hs) (h1 H Z σ ts vs _ S fun v H1 Z1 z1 k1 S1 => h2 H1 Z1 σ _ _ _ S1 fun us H2 Z2 hl z2 k2 S2 => k (v :: us) H2 Z2 (by simp [hl]) (z1.trans z2) (k1.trans k2) (by
   rw [abW, abW, aaG, aaG]
   exact S2))
theorem aG : MX X CL b [] δ [] δ := fun H Z σ ts vs Q S k => Di fX (k [] H Z (.refl _) (.refl _) S .nil)
theorem ai (h1 : cD X CL b e δ d δ1) (h2 : MX X CL b es δ1 ds δ2) (hs : starEach (e :: es) X.env = (false, eval e X.env) :: starEach es X.env := by exact cz rfl) : MX X CL b (e :: es) δ (d :: ds) δ2 := fun H Z σ ts vs Q S k =>
 Di (cO eT Ja hs) (h1 H Z σ ts vs _ S fun v H1 Z1 z1 k1 S1 r1 => h2 H1 Z1 σ _ _ _ S1 fun us H2 Z2 z2 k2 S2 r2 => k (v :: us) H2 Z2 (z1.trans z2) (k1.trans k2) S2 (.cons (r1.mono k2) r2))
theorem OW {j : Nat} (h : A0 X CL b es δ tl δ1) (hl : tl.length <= sizeLine) : cj X CL b (.Tuple es j pos) δ (.tup tl) δ1 := fun H Z σ ts vs Q S k =>
 c9 (Ol Ja) (h H Z σ ts vs _ S fun us H1 Z1 hu z1 k1 S1 => ⟨by rw [hu]; exact hl, fun p hp => by
   obtain ⟨a, c, S2⟩ := S1.E4 hu hp
   exact k _ _ _ (z1.trans a) (k1.trans c) S2⟩)
theorem cB {j : Nat} (h : A0 X CL b es δ (ds.map T.sh) δ1) (hl : ds.length <= sizeLine) : cj X CL b (.Tuple es j pos) δ (.sh (.tup ds)) δ1 := by
 have := A1 (OW (pos := pos) (j := j) h (by simpa using hl))
 rwa [T.cW, gj] at this
theorem eL (h : A0 X CL b es δ tl δ1) (hl : tl.length <= sizeLine) : cj X CL b (.List es pos) δ (.lst tl) δ1 := fun H Z σ ts vs Q S k =>
 c9 (Om Ja) (h H Z σ ts vs _ S fun us H1 Z1 hu z1 k1 S1 => ⟨by rw [hu]; exact hl, fun p hp => by
   obtain ⟨c, S2⟩ := S1.oz (g0 := []) hu hp
   exact k _ _ _ z1 (k1.trans c) S2⟩)
theorem yV (h : cj X CL b e δ (.sh (.bl p)) δ1) (he : ∀ whole, isTrue e X.env whole = (do let v ← whole; standAt e.pos; holding [v] (truthy v)) := by intro _; rfl) : mS X CL b e δ p δ1 := fun H Z σ ts vs Q S k =>
 Dh (NT eT he) (h H Z σ ts vs _ S fun v H1 Z1 z1 k1 S1 => ⟨p, by have := S1.view; rw [T.cW] at this; exact this.sc rfl, k H1 Z1 z1 k1 S1.pop⟩)
theorem u5 (h : mS X CL b e δ p δ1) : mS X CL b (.UnaryOp .Not e pos) δ (!p) δ1 := fun H Z σ ts vs Q S k => Dh (NX OJ) (h H Z σ ts vs _ S fun H1 Z1 z1 k1 S1 => k H1 Z1 z1 k1 S1)
def OX (X : Cx) (e : Expr) : TT := fun σ H Q => ∀ (whole : Sem Value) (pins : List (Addr × Obj)) (s : Shared), Inv X pins σ H s -> wpAny (model X.prog X.w) X.A (isTrue e X.env whole) (TP X pins σ Q) X.xe s
theorem Xz {e : Expr} : PW X e (OX X e) := fun whole pins s _ _ _ I h => h whole pins s I
def OY (X : Cx) (CL : Str -> Addr) (b : Bx) (e : Expr) (δ : List (Option T)) (p : Bool) (δ' : List (Option T)) : Prop :=
 ∀ (H Z : Hp) (σ : L2.St) (ts : List T) (vs : List V) (Q : Bool -> Hp -> Prop), bT X.K CL b H Z δ σ ts vs -> (∀ H' Z', aA Z Z' -> aA H H' -> bT X.K CL b H' Z' δ' σ ts vs -> Q p H') -> OX X e σ H Q
theorem Jg {t : TT} (h : PW X e t) {σ : L2.St} {H : Hp} {Q : Bool -> Hp -> Prop} (q : t σ H Q) : OX X e σ H Q := fun whole pins s I => h whole pins s σ H Q I q
theorem u6 (h : OY X CL b e δ p δ1) : mS X CL b e δ p δ1 := fun H Z σ ts vs Q S k pins s I => h H Z σ ts vs Q S k _ pins s I
theorem u9 (h : mS X CL b e δ p δ1) : OY X CL b (.BoolOp .And [e] pos) δ p δ1 := fun H Z σ ts vs Q S k => Jg (Iw OJ) (h H Z σ ts vs _ S k)
theorem oA (h : mS X CL b e δ p δ1) : OY X CL b (.BoolOp .Or [e] pos) δ p δ1 := fun H Z σ ts vs Q S k => Jg (NV OJ) (h H Z σ ts vs _ S k)
theorem A3 (h : mS X CL b e δ p δ1) (h2 : p = true -> OY X CL b (.BoolOp .And (e2 :: es) pos) δ1 q δ1) : OY X CL b (.BoolOp .And (e :: e2 :: es) pos) δ (p && q) δ1 := fun H Z σ ts vs Q S k =>
 Jg (NW OJ Xz) (h H Z σ ts vs _ S fun H1 Z1 z1 k1 S1 => by
   cases p with
   | true => exact EZ (h2 rfl H1 Z1 σ ts vs _ S1 fun H2 Z2 z2 k2 S2 => k H2 Z2 (z1.trans z2) (k1.trans k2) S2)
   | false => exact EY (k H1 Z1 z1 k1 S1))
theorem pV (h : mS X CL b e δ p δ1) (h2 : p = false -> OY X CL b (.BoolOp .Or (e2 :: es) pos) δ1 q δ1) : OY X CL b (.BoolOp .Or (e :: e2 :: es) pos) δ (p || q) δ1 := fun H Z σ ts vs Q S k =>
 Jg (RA OJ Xz) (h H Z σ ts vs _ S fun H1 Z1 z1 k1 S1 => by
   cases p with
   | true => exact EZ (k H1 Z1 z1 k1 S1)
   | false => exact EY (h2 rfl H1 Z1 σ ts vs _ S1 fun H2 Z2 z2 k2 S2 => k H2 Z2 (z1.trans z2) (k1.trans k2) S2))
theorem E5 {op : BoolOp} (h : cj X CL b e δ t δ1) : cj X CL b (.BoolOp op [e] pos) δ t δ1 := fun H Z σ ts vs Q S k => c9 (NZ eT) (h H Z σ ts vs _ S k)
theorem M4 (h : cj X CL b e δ (.sh (.bl p)) δ1) (h2 : p = false -> cj X CL b (.BoolOp .Or (e2 :: es) pos) δ1 (.sh (.bl q)) δ1) : cj X CL b (.BoolOp .Or (e :: e2 :: es) pos) δ (.sh (.bl (p || q))) δ1 := fun H Z σ ts vs Q S k =>
 c9 (RB eT eT) (h H Z σ ts vs _ S fun v H1 Z1 z1 k1 S1 => by
   have hv : v = .bl p := by have := S1.view; rw [T.cW] at this; exact this.sc rfl
   refine ⟨p, hv, ?_⟩
   cases p with
   | true => exact EZ (k _ H1 Z1 z1 k1 (S1.pop.push (.bl true)))
   | false => exact EY (h2 rfl H1 Z1 σ ts vs _ S1.pop fun v H2 Z2 z2 k2 S2 => k v H2 Z2 (z1.trans z2) (k1.trans k2) S2))
theorem vd {K : PySem.W.Frag} {Z : Hp} {vs : List V} {k : Int} (r : aD K CL Z ds vs) (h : rC ds k = some d) : ∃ v, rC vs k = some v /\ bz K CL Z d v := by
 unfold rC at h ⊢
 rw [← r.length]
 cases e : De ds.length k with
 | none => rw [e] at h; cases h
 | some j =>
   rw [e] at h
   exact r.get h
theorem fF {k : Int} (h1 : cD X CL b e1 δ (.tup ds) δ1) (h2 : cD X CL b e2 δ1 (.int k) δ2) (hk : rC ds k = some d) (hs : mR e2 := by exact fun _ _ => rfl) : cD X CL b (.Subscript e1 e2 pos) δ d δ2 := fun H Z σ ts vs Q S kk =>
 c9 (B4 Ou eT eT hs) (h1 H Z σ ts vs _ S fun v1 H1 Z1 z1 k1 S1 r1 => h2 H1 Z1 σ ts vs _ S1 fun v2 H2 Z2 z2 k2 S2 r2 => by
   have OZ := r1.mono k2
   cases OZ with
   | tup hq rr =>
     obtain ⟨v, hv, rv⟩ := vd rr hk
     exact ⟨_, _, k, v, rfl, r2.sc rfl, hq, hv, kk v H2 Z2 (z1.trans z2) (k1.trans k2) S2 rv⟩)
theorem aP {k : Int} (h1 : cD X CL b e1 δ (.lst ds) δ1) (h2 : cD X CL b e2 δ1 (.int k) δ2) (hk : rC ds k = some d) (hs : mR e2 := by exact fun _ _ => rfl) : cD X CL b (.Subscript e1 e2 pos) δ d δ2 := fun H Z σ ts vs Q S kk =>
 c9 (B4 B5 eT eT hs) (h1 H Z σ ts vs _ S fun v1 H1 Z1 z1 k1 S1 r1 => h2 H1 Z1 σ ts vs _ S1 fun v2 H2 Z2 z2 k2 S2 r2 => by
   have OZ := r1.mono k2
   cases OZ with
   | lst hq rr =>
     obtain ⟨v, hv, rv⟩ := vd rr hk
     exact ⟨_, _, k, v, rfl, r2.sc rfl, hq, hv, kk v H2 Z2 (z1.trans z2) (k1.trans k2) S2 rv⟩)
theorem E6 {k : Int} {x : Str} {c : Nat} (h1 : cD X CL b e1 δ (.str x) δ1) (h2 : cD X CL b e2 δ1 (.int k) δ2) (hl : x.length <= sizeLine) (hk : rC x.cps.toList k = some c) (hs : mR e2 := by exact fun _ _ => rfl) : cj X CL b (.Subscript e1 e2 pos) δ (.sh (.str ⟨#[c]⟩)) δ2 := fun H Z σ ts vs Q S kk =>
 c9 (B4 Ov eT eT hs) (h1 H Z σ ts vs _ S fun v1 H1 Z1 z1 k1 S1 r1 => h2 H1 Z1 σ ts vs _ S1 fun v2 H2 Z2 z2 k2 S2 r2 =>
   ⟨x, k, c, r1.sc rfl, r2.sc rfl, hl, hk, kk _ H2 Z2 (z1.trans z2) (k1.trans k2) (S2.push (.str _))⟩)
theorem O1 {k : Int} (h1 : cj X CL b e1 δ (.sh (.lst ds)) δ1) (h2 : cD X CL b e2 δ1 (.int k) δ2) (hk : rC ds k = some d) (hs : mR e2 := by exact fun _ _ => rfl) : cj X CL b (.Subscript e1 e2 pos) δ (.sh d) δ2 := fun H Z σ ts vs Q S kk =>
 c9 (B4 B5 eT eT hs) (h1 H Z σ ts vs _ S fun v1 H1 Z1 z1 k1 S1 => h2 H1 Z1 σ _ _ _ S1 fun v2 H2 Z2 z2 k2 S2 r2 => by
   obtain ⟨fp, gp, _, r, _, _⟩ := S2.rep
   cases r with
   | cons r _ =>
     cases r with
     | sh r =>
       cases r with
       | lst hq rr =>
         obtain ⟨v, hv, rv⟩ := vd rr hk
         exact ⟨_, _, k, v, rfl, r2.sc rfl, S2.zh.seq hq, hv, kk v H2 Z2 (z1.trans z2) (k1.trans k2) (S2.pop.push rv)⟩)
end
section
variable {K : PySem.W.Frag} {CL : Str -> Addr} {b : Bx} {H H' Z Z' : Hp} {δ δ' : List (Option T)} {σ σ' : L2.St} {ts tl : List T} {vs us : List V} {t : T} {v : V}
theorem bT.rE : ∀ {ds : List D} {us : List V} {ts : List T} {vs : List V}, aD K CL Z ds us -> bT K CL b H Z δ σ ts vs -> bT K CL b H Z δ σ ((ds.map T.sh).reverse ++ ts) (us.reverse ++ vs)
 | _, _, _, _, .nil, S => S
 | _, _, ts, vs, .cons (d := d) (v := v) (ds := ds) (vs := us) r t, S => by
   rw [aa8, abW, abW, aaG, aaG]
   exact bT.rE t (S.push r)
end
section
variable {X : Cx} {CL : Str -> Addr} {b : Bx} {δ δ1 δ2 δ3 : List (Option T)} {e e1 e2 e3 : Expr} {es : List Expr} {t t1 t2 : T} {d d1 d2 : D} {tl : List T} {ds : List D} {p q : Bool} {pos pp : Pos}
theorem B8 (hm : X.mg "len" = none) (h : cD X CL b e δ (.lst ds) δ1) (hg : Gl X "len" := by rfl) (hs : starEach [e] X.env = (false, eval e X.env) :: starEach [] X.env := by exact cz rfl) (tW : (backTo pos (starEach ([] : List Expr) X.env)).any (·.1) = false := by rfl) : cj X CL b (.Call (.Name "len" pp) [e] [] pos) δ (.sh (.int ds.length)) δ1 := fun H Z σ ts vs Q S k =>
 c9 (yM uX hg hm PySem.boot_len (cO eT fX hs) (he := hs)) (h H Z σ ts vs _ S fun v H1 Z1 z1 k1 S1 r => by
   cases r with
   | lst hq rr => exact ⟨_, _, rfl, .inl hq, by rw [← rr.length]; exact k _ H1 Z1 z1 k1 (S1.push (.int _))⟩)
theorem dg (hm : X.mg "list" = none) (h : cD X CL b e δ (.lst ds) δ1) (hi : D.bM ds = true) (hg : Gl X "list" := by rfl) (hv : bootBuiltins "list" = some (.type "list") := by rfl) (hs : starEach [e] X.env = (false, eval e X.env) :: starEach [] X.env := by exact cz rfl) : cj X CL b (.Call (.Name "list" pp) [e] [] pos) δ (.lst (ds.map T.sh)) δ1 := fun H Z σ ts vs Q S k =>
 c9 (kI uY hg hm hv (cO eT fX hs) (he := hs)) (h H Z σ ts vs _ S fun v H1 Z1 z1 k1 S1 r => by
   cases r with
   | lst hq rr =>
     refine ⟨_, _, rfl, .inl hq, fun l hl => ?_⟩
     obtain ⟨c, S2⟩ := (bT.rE (aD.jd S1.tp hi rr) S1).oz (g0 := []) (by simp [rr.length]) hl
     exact k _ _ _ z1 (k1.trans c) S2)
def jO (K : PySem.W.Frag) (CL : Str -> Addr) {A : Type} (n : Nat) (arg : A -> List D) (Pre : A -> Prop) (res : A -> T) : Sp := fun vs H Q _ =>
 ∃ (W : Hp) (a : A), aA W H /\ (∀ c o, H c = some o -> gi o = true -> W c = some o) /\ aD K CL W (arg a) vs /\ (arg a).length = n /\ Pre a /\ jc CL W ∧
   ∀ v H' W' fp, aA H H' -> aA W W' -> aA W' H' -> (∀ c o, W' c = some o -> W c = none -> H c = none) -> (∀ c o, H' c = some o -> gi o = true -> W' c = some o) →
     cy K CL H' W' (res a) v fp -> fp.Nodup -> (∀ c ∈ fp, W' c = none /\ H c = none) -> Q v H'
section
variable {A : Type} {k n : Nat} {f : Addr} {fd : FuncData} {ps : List Str} {arg : A -> List D} {Pre : A -> Prop} {res : A -> T} {x : Str}
theorem Jh (a : A) (F : bL X.prog X.w X.K X.mg X.base fL k f fd ps (jO X.K CL n arg Pre res)) (hr : dR k X.A) (hm : X.mg x = some (.ref f)) (hk : PySem.W.keepIn X.K (.ref f) = true) (hb : Binds X.K fd ps [])
   (h : MX X CL b (e :: es) δ (arg a) δ1) (hn : (arg a).length = n) (hp : Pre a) (hc : (res a).clean = true) (hg : Gl X x)
   (tV : (x == ("__debug__" : Str)) = false := by decide) (he : starEach (e :: es) X.env = (false, eval e X.env) :: starEach es X.env := by exact cz rfl) (tW : (backTo pos (starEach es X.env)).any (·.1) = false := by rfl) :
   cj X CL b (.Call (.Name x pp) (e :: es) [] pos) δ (res a) δ1 := fun H Z σ ts vs Q S kk =>
 c9 (IJ F hr hg hm hk hb .nil B6 Ja tV he tW) (h H Z σ ts vs _ S fun us H1 Z1 z1 k1 S1 r => by
   rw [abq]
   refine ⟨H1, a, .refl _, fun _ _ q _ => q, r, hn, hp, S1.Dk, fun v H' W' fp hh ww wh nw tp rt nd own => ?_⟩
   obtain ⟨Z', z', S'⟩ := S1.back hh S1.zh ww wh nw tp rt nd own (.inr hc)
   exact kk v H' Z' (z1.trans z') (k1.trans hh) S')
end
variable {D D' : cM} {st : Stmt} {fY Sl : List Stmt}
theorem Meets.to {K : PySem.W.Frag} {Z : Hp} {ts : List T} {vs : List V} {E : Ends} (M : Meets K CL b Z ts vs D E) (h1 : ∀ δ, D'.nx δ -> D.nx δ) (h2 : ∀ t δ, D'.rt t δ -> D.rt t δ) (h3 : ∀ δ, D'.bk δ -> D.bk δ) (h4 : ∀ δ, D'.ct δ -> D.ct δ) : Meets K CL b Z ts vs D' E :=
 ⟨fun _ _ _ _ s S k => M.nx _ _ _ _ s S (h1 _ k), fun _ _ _ _ _ _ s S k => M.rt _ _ _ _ _ _ s S (h2 _ _ k), fun _ _ _ _ s S k => M.bk _ _ _ _ s S (h3 _ k), fun _ _ _ _ s S k => M.ct _ _ _ _ s S (h4 _ k)⟩
theorem az (h : D.nx δ) : fD X CL b [] δ D := fun H Z σ ts vs E S M => Sf Iz (M.nx δ σ H Z (.refl _) S h)
theorem eu (h : OQ X CL b st δ { D with nx := fun δ1 => fD X CL b fY δ1 D }) : fD X CL b (st :: fY) δ D := fun H Z σ ts vs E S M =>
 Sf (Ez YM MT) (h H Z σ ts vs _ S ⟨fun δ' σ' H' Z' s S' k => k H' Z' σ' ts vs E S' (M.mono s), M.rt, M.bk, M.ct⟩)
theorem O2 (h : cj X CL b e δ t δ1) (k : D.rt t δ1) : OQ X CL b (.Return (some e) pos) δ D := fun H Z σ ts vs E S M => yT (N1 eT) (h H Z σ ts vs _ S fun v H1 Z1 z1 k1 S1 => M.rt t v H1 Z1 δ1 σ z1 S1 k)
theorem Sn (h : mS X CL b e δ p δ1) (h1 : p = true -> fD X CL b fY δ1 D) (h2 : p = false -> fD X CL b Sl δ1 D) : OQ X CL b (.If e fY Sl pos) δ D := fun H Z σ ts vs E S M =>
 yT (RG OJ MT MT) (h H Z σ ts vs _ S fun H1 Z1 z1 k1 S1 => by
   cases p with
   | true => exact EZ (h1 rfl H1 Z1 σ ts vs E S1 (M.mono z1))
   | false => exact EY (h2 rfl H1 Z1 σ ts vs E S1 (M.mono z1)))
theorem E7 (i : Nat) {x : Str} {pos' : Pos} (h : cj X CL b e δ t δ1) (k : D.nx (δ1.set i (some t))) (hl : i < δ1.length := by decide) (hN : X.N.Nodup := by assumption) (hi : X.N[i]? = some x := by rfl) (hx : Loc X.env.scope x := by first | exact .inl rfl | exact .inr rfl)
   (hs : swapsWith e (some (.Name x pos')) pos.line X.env = pure false := by rfl) (hf : X.fn x = true \/ X.env.scope.names.lookup x = some .local := by first | exact .inl rfl | exact .inr rfl | assumption) : OQ X CL b (.Assign [.Name x pos'] e pos) δ D := fun H Z σ ts vs E S M =>
 yT (N5 hN hi hx eT hs hf) (h H Z σ ts vs _ S fun v H1 Z1 z1 k1 S1 => M.nx _ _ H1 Z1 z1 (S1.set hl) k)
end
def entry (N : List Str) (ds : List D) : List (Option T) := ds.map (fun d => some (T.sh d)) ++ List.replicate (N.length - ds.length) none
theorem gM {K : PySem.W.Frag} {CL : Str -> Addr} {H Z : Hp} : ∀ {ds : List D} {vs : List V} (n : Nat), aD K CL Z ds vs -> ef K CL H Z (ds.map (fun d => some (T.sh d)) ++ List.replicate n none) (vs.map some ++ List.replicate n none) []
 | _, _, 0, .nil => .nil
 | _, _, n + 1, .nil => .skip (gM (ds := []) (vs := []) n .nil)
 | _, _, n, .cons r t => .cons (fp := []) (gp := []) (.sh r) (gM n t)
theorem aX {P : Program} {w : World} {K : PySem.W.Frag} {mg : Str -> Option Value} {base : Heap} {CL : Str -> Addr} {x qual : Str} {st : Stmt} {f : Addr} {fd : FuncData} {N ps : List Str} {k : Nat} {A : Type} {arg : A -> List D} {Pre : A -> Prop} {res : A -> T} (F : iM K x qual st f fd) (S : aK N ps (ao st))
   (hb : ∀ (cS : Value) (Ar : Around) (outer : List Env) (s : Shared) (H : Hp) (E : XK) (b : Bx) (a : A), dR k (Ar.deeper (envOfC qual (ao st) s.heap.objs.size f cS)) -> Pre a →
     fD (rA fL P w K mg base N qual (ao st) f cS Ar outer s H E).Ij CL b (eH st) (entry N (arg a)) { nx := fun _ => res a = .sh .non, rt := fun t _ => t = res a }) :
   bL P w K mg base fL (k + 1) f fd ps (jO K CL ps.length arg Pre res) := by
 refine F.ok S (fun vs H Q E h => ?_) (fun cS Ar outer s H vs Q E hr h => ?_)
 . obtain ⟨W, a, _, _, r, hl, _⟩ := h
   rw [← r.length]; exact hl
 . obtain ⟨W, a, wh, tp, r, hl, hp, tb, kk⟩ := h
   refine ⟨_, MT, hb cS Ar outer s H E ⟨H, W⟩ a hr hp H W _ [] [] _ ⟨⟨[], [], ?_, .nil, abM, fun a ha => by cases ha⟩, .refl _, .refl _, wh, fun a o q z => ?_, tp, tb⟩ ⟨fun δ' σ' H' Z' s' S' e => ?_, fun t v H' Z' δ' σ' s' S' e => ?_, fun _ _ _ _ _ _ e => e.elim, fun _ _ _ _ _ _ e => e.elim⟩⟩
   . unfold entry L2.start
     rw [← r.length]
     exact gM _ r
   . have q' : W a = some o := q
     have z' : W a = none := z
     rw [q'] at z'; cases z'
   . exact kk .non H' Z' [] S'.bh S'.zz S'.zh S'.new S'.tp (by rw [show res a = .sh .non from e]; exact .sh .non) abM fun a ha => by cases ha
   . have e' : t = res a := e
     subst e'
     obtain ⟨fp, gp, _, r', nd, own⟩ := S'.rep
     cases r' with
     | @cons _ _ _ _ f1 f2 r1 r2 =>
       have h1 := (abm.mp nd).2.1
       exact kk v H' Z' f1 S'.bh S'.zz S'.zh S'.new S'.tp r1 (abm.mp h1).1 fun a ha => own a (aaD _ (aaX _ ha))
section
variable {prog : Program} {w : World} {A : Around} {R : Result -> Shared -> Prop} {s : Shared}
theorem ve {elt target iter : Expr} {ifs : List Expr} {scope : Scope} {pos : Pos} {it acc : Value} {env : Env} (I : Nat -> Shared -> Prop)
   (turn : ∀ n s, I n s -> wpAny (model prog w) A (pyNext it) (fun r s₁ => match r with
     | none => R (.ok .next) s₁
     | some v => wpAny (model prog w) A (letOwnedTupleGo target it v) (fun _ M5 => wpAny (model prog w) A (assign target env v) (fun _ s₂ =>
         wpAny (model prog w) A (forIn ifs true fun c r => if r = true then do let ok ← isTrue c env (eval c env); pure (ForInStep.yield ok) else pure (ForInStep.yield r)) (fun ok s₃ =>
           if ok = true then wpAny (model prog w) A (eval elt env) (fun x s₄ =>
             wpAny (model prog w) A (call (.builtin "list.append") [acc, x]) (fun _ s₅ => ∃ m, m < n /\ I m s₅) (fun _ _ => False) s₄) (fun _ _ => False) s₃
           else ∃ m, m < n /\ I m s₃) (fun _ _ => False) s₂) (fun _ _ => False) M5) (fun _ _ => False) s₁) (fun _ _ => False) s)
   (n : Nat) (h : I n s) :
   codeAny (model prog w) A (.compLoop (.ListComp elt [⟨target, iter, ifs, 0⟩] scope pos) 0 it acc env) R s := by
 refine codeAny_loop rfl I (fun n s hI => ?_) n h
 show wpAny _ A ((compTurn (.ListComp elt [⟨target, iter, ifs, 0⟩] scope pos) 0 it acc env).onRaise (fun x => do noteFrame x env; theTreesLotGoes x)) _ _ s
 refine wpAny_noted ?_
 rw [compTurn_list]
 refine aaO (wpAny_standAt (aaO (abF (turn n s hI) (fun r s₁ h₁ => ?_) fun _ _ h' => h'.elim)))
 cases r with
 | none => exact abk h₁
 | some v =>
   refine aaO (abF h₁ (fun _ M5 Sq => ?_) fun _ _ h' => h'.elim)
   refine aaO (abF Sq (fun _ s₂ h₂ => aaO (abF h₂ (fun ok s₃ h₃ => ?_) fun _ _ h' => h'.elim)) fun _ _ h' => h'.elim)
   cases ok with
   | false => exact abk ⟨rfl, h₃⟩
   | true =>
     exact aaO (aaO (abF h₃ (fun x s₄ h₄ => aaO (abF h₄ (fun _ s₅ h₅ => abk (abk ⟨rfl, h₅⟩)) fun _ _ h' => h'.elim)) fun _ _ h' => h'.elim))
end
def bR (env : Env) : List (Str × NameKind) -> List (Str × Addr) -> List (Str × Addr)
 | [], cs => cs
 | (n, k) :: r, cs => bR env r (if k == .free then (n, (env.cells.lookup n).getD 0) :: cs else cs)
theorem iy {scope : Scope} {env : Env} (h : ∀ x ∈ scope.names, x.2 = .free -> ∃ c, env.cells.lookup x.1 = some c) : closureFor scope env = pure (bR env scope.names []) := by
 have go : ∀ (l : List (Str × NameKind)) (cs : List (Str × Addr)), (∀ x ∈ l, x.2 = .free -> ∃ c, env.cells.lookup x.1 = some c) →
     (forIn l cs fun x r => match x with | (name, kind) => if (kind == NameKind.free) = true then do let a ← cellOf env name; pure (ForInStep.yield ((name, a) :: r)) else pure (ForInStep.yield r) : Sem (List (Str × Addr))) = pure (bR env l cs) := by
   intro l
   induction l with
   | nil => intro cs _; rfl
   | cons x r ih =>
     intro cs hx
     obtain ⟨n, k⟩ := x
     rw [List.forIn_cons]
     by_cases hk : k = .free
     . subst hk
       obtain ⟨c, hc⟩ := hx (n, .free) aaP rfl
       have e : cellOf env n = pure c := by unfold cellOf; rw [hc]
       simp only [ab9, ab4, e, pure_bind]
       rw [ih _ fun y hy => hx y (aaM _ hy)]
       simp only [bR, ab9, ab4]
       rw [hc]; rfl
     . have hb : (k == NameKind.free) = false := by simpa using hk
       simp only [hb, abv, abU, pure_bind]
       rw [ih _ fun y hy => hx y (aaM _ hy)]
       simp only [bR, hb, abv, abU]
 unfold closureFor
 have := go scope.names [] h
 simp only [bind_pure] at this ⊢
 exact this
theorem je {env : Env} : ∀ {l : List (Str × NameKind)} {cs : List (Str × Addr)} {y : Str} {c : Addr}, (∀ x ∈ l, x.2 = .free -> ∃ c, env.cells.lookup x.1 = some c) -> (∀ y c, cs.lookup y = some c -> env.cells.lookup y = some c) →
   (bR env l cs).lookup y = some c -> env.cells.lookup y = some c
 | [], cs, y, c, _, h, e => h y c e
 | (n, k) :: r, cs, y, c, hx, h, e => by
   refine je (l := r) (fun z hz => hx z (aaM _ hz)) (fun z d hz => ?_) e
   by_cases hk : k = .free
   . subst hk
     obtain ⟨c', hc⟩ := hx (n, .free) aaP rfl
     simp only [ab9, ab4, hc, Option.getD_some, aa7] at hz
     by_cases Wa : (z == n) = true
     . rw [Wa] at hz
       have : z = n := by simpa using Wa
       subst this
       cases hz
       exact hc
     . have : (z == n) = false := by simpa using Wa
       rw [this] at hz
       exact h z d hz
   . have hb : (k == NameKind.free) = false := by simpa using hk
     rw [hb] at hz
     exact h z d hz
theorem pW {env : Env} {y : Str} : ∀ {l : List (Str × NameKind)} {cs : List (Str × Addr)}, (∃ c, cs.lookup y = some c) -> ∃ c, (bR env l cs).lookup y = some c
 | [], cs, h => h
 | (n, k) :: r, cs, h => by
   refine pW (l := r) ?_
   by_cases hk : (k == NameKind.free) = true
   . rw [aaF hk, aa7]
     by_cases hy : (y == n) = true
     . rw [hy]; exact ⟨_, rfl⟩
     . have : (y == n) = false := by simpa using hy
       rw [this]; exact h
   . rw [aaE hk]; exact h
theorem gO {env : Env} {y : Str} : ∀ {l : List (Str × NameKind)} {cs : List (Str × Addr)}, l.lookup y = some .free -> ∃ c, (bR env l cs).lookup y = some c
 | [], _, h => by simp at h
 | (n, k) :: r, cs, h => by
   rw [aa7] at h
   by_cases hy : (y == n) = true
   . rw [hy] at h
     cases h
     refine pW (l := r) ?_
     rw [aaF (by rfl), aa7, hy]
     exact ⟨_, rfl⟩
   . have : (y == n) = false := by simpa using hy
     rw [this] at h
     exact gO (l := r) h
def cE (X : Cx) (scope : Scope) (Nc : List Str) (C : Addr) (s : Shared) (H : Hp) (fp : List Addr) : Cx where
 prog := X.prog
 w := X.w
 K := X.K
 mg := X.mg
 base := X.base
 A := X.A
 N := Nc
 s₀ := s
 H₀ := H
 env := compEnvC scope (bR X.env scope.names []) C X.env
 outer := X.stack
 stack := X.stack
 ex := fp
 fn := fun _ => false
 calm := X.calm
 pn := []
 xe := fun _ _ => False
structure eU (X : Cx) (scope : Scope) (x : Str) (Nc : List Str) (ix : List Nat) : Prop where
 kind : scope.kind = .function
 oB : ∀ y ∈ scope.names, y.2 ≠ .cell
 nd : Nc.Nodup
 names : ∀ y ∈ scope.names, y.2 = .local -> scope.names.lookup y.1 = some .local
 own : scope.names.lookup x = some .local
 frees : ∀ y ∈ scope.names, y.2 = .free -> scope.names.lookup y.1 = some .free /\ (X.env.kindOf y.1 = some .cell \/ X.env.kindOf y.1 = some .free)
 hd : Nc = x :: ix.filterMap (X.N[·]?)
 M6 : ∀ i ∈ ix, ∃ y, X.N[i]? = some y /\ scope.names.lookup y = some .free
theorem dI {env : Env} : ∀ {names : List (Str × NameKind)} {x : Str} {k : NameKind}, names.lookup x = some k -> 
   (names.map fun (n, k) => if (k == NameKind.free && env.scope.kind == .function && env.kindOf n == some .cell) then (n, NameKind.cell) else (n, k)).lookup x = some (if (k == NameKind.free && env.scope.kind == .function && env.kindOf x == some .cell) then .cell else k)
 | [], _, _, h => by simp at h
 | (n, k') :: r, x, k, h => by
   have ih := @dI env r x k
   show List.lookup x ((if (k' == NameKind.free && env.scope.kind == .function && env.kindOf n == some .cell) = true then (n, NameKind.cell) else (n, k')) :: _) = _
   cases hx : x == n with
   | true =>
     simp only [aa7, hx] at h
     cases h
     have e : x = n := by simpa using hx
     subst e
     split <;> simp [aa7]
   | false =>
     simp only [aa7, hx] at h
     split
     . simp only [aa7, hx]; exact ih h
     . simp only [aa7, hx]; exact ih h
theorem f9 {env : Env} : ∀ {names : List (Str × NameKind)} {x : Str}, names.lookup x = none -> 
   (names.map fun (n, k) => if (k == NameKind.free && env.scope.kind == .function && env.kindOf n == some .cell) then (n, NameKind.cell) else (n, k)).lookup x = none
 | [], _, _ => rfl
 | (n, k') :: r, x, h => by
   have ih := @f9 env r x
   show List.lookup x ((if (k' == NameKind.free && env.scope.kind == .function && env.kindOf n == some .cell) = true then (n, NameKind.cell) else (n, k')) :: _) = _
   cases hx : x == n with
   | true => simp only [aa7, hx] at h; cases h
   | false =>
     simp only [aa7, hx] at h
     split
     . simp only [aa7, hx]; exact ih h
     . simp only [aa7, hx]; exact ih h
section
variable {X : Cx} {scope : Scope} {x : Str} {Nc : List Str} {ix : List Nat} {pins : List (Addr × Obj)} {σ : L2.St} {H : Hp} {s : Shared}
def oE (σ : L2.St) (ix : List Nat) (o : Option V) : L2.St := o :: ix.map fun i => (σ[i]?).getD none
theorem Dl {fp : List Addr} {gJ : List (Addr × Obj)} {σ' : L2.St} {H' : Hp} {s' : Shared} {Rh : Heap} (I : Inv X pins σ H s) (qy : ∀ b ∈ fp, gb X pins H b)
   (J : Inv (cE X scope Nc s.heap.objs.size s H fp) gJ σ' H' s') (hs : Heap.SameBut s.heap.objs.size s'.heap Rh) : Inv X pins σ H' { s' with heap := Rh } := by
 have un : Un (El X.stack) fp H H' s.heap s'.heap := J.base
 have YS : Un (El X.stack) fp H H' s.heap Rh := by
   have ne : ∀ b o, s.heap.get? b = some o -> b ≠ s.heap.objs.size := fun b o e => abh (aaT e)
   refine ⟨fun b o e n hb hx => (hs.2 b (ne b o e)).trans (un.keep b o e n hb hx), fun b o e n hb hx => ?_, un.free, fun b o e hx => ?_, un.uN, un.fW, un.uO⟩
   . obtain ⟨sl, q⟩ := un.slot b o e n hb hx
     exact ⟨sl, (hs.2 b (ne b o e)).trans q⟩
   . obtain ⟨o', q⟩ := un.there b o e hx
     exact ⟨o', (hs.2 b (ne b o e)).trans q⟩
 have nC : H' s.heap.objs.size = none := J.free
 have c7 : qg X.prog X.w H' Rh := fun b u e => by
   refine (J.c7 b u e).yE (fun c v hc q => (hs.2 c ?_).trans q) (fun _ q => q) fun _ _ q => q
   rintro rfl
   rcases hc with z | z
   . subst z; rw [nC] at e; cases e
   . rw [nC] at z; cases z
 obtain ⟨hh, g, d, t, Rc⟩ := s'
 obtain rfl : Rc = s.os := J.os
 show L2.Inv X pins σ H' { s with heap := Rh, gens := g, drawn := d, toks := t }
 exact I.call (h' := Rh) (g' := g) (d' := d) (t' := t) (ch := fp) YS c7 J.bare fun b hb => ⟨(qy b hb).2.2.2.1, (qy b hb).2.1, (qy b hb).2.2.2.2.1, (qy b hb).2.2.2.2.2⟩
def O4 (X : Cx) : List Expr -> TT
 | [] => fun _ H Q => Q true H
 | [c] => I0 X c
 | _ => fun _ _ _ => False
theorem E8 {ifs : List Expr} {Q : Bool -> Hp -> Prop} (I : Inv X pins σ H s) (h : O4 X ifs σ H Q) (hx : X.xe = fun _ _ => False) :
   wpAny (model X.prog X.w) X.A (forIn ifs true fun c r => if r = true then do let ok ← isTrue c X.env (eval c X.env); pure (ForInStep.yield ok) else pure (ForInStep.yield r)) (TP X pins σ Q) (fun _ _ => False) s := by
 match ifs, h with
 | [], h => exact wpAny_tests_nil ⟨H, I, h⟩
 | [c], h =>
   have := h pins s I
   rw [hx] at this
   exact wpAny_tests_one this
end
def U6 (X : Cx) (CL : Str -> Addr) (b : Bx) (ifs : List Expr) (δ : List (Option T)) (p : Bool) : Prop :=
 match ifs with
 | [] => p = true
 | [c] => mS X CL b c δ p δ
 | _ => False
theorem U6.YT {X : Cx} {CL : Str -> Addr} {b : Bx} {ifs : List Expr} {δ : List (Option T)} {p : Bool} (h : U6 X CL b ifs δ p) {H Z : Hp} {σ : L2.St} {Q : Bool -> Hp -> Prop} (S : bT X.K CL b H Z δ σ [] [])
   (k : ∀ H' Z', aA Z Z' -> aA H H' -> bT X.K CL b H' Z' δ σ [] [] -> Q p H') : O4 X ifs σ H Q := by
 match ifs, h with
 | [], h =>
   have e : p = true := h
   subst e
   exact k H Z (.refl _) (.refl _) S
 | [c], h => exact (show mS X CL b c δ p δ from h) H Z σ [] [] Q S k
theorem gF {ts : List T} : (T.lst ts).clean = T.dH ts := by rw [T.clean]
theorem rG {g : D -> T} : ∀ {ds : List D}, (∀ d ∈ ds, (g d).clean = true) -> T.dH (ds.map g) = true
 | [], _ => by rw [List.map_nil, T.dH]
 | d :: ds, h => by
   rw [aa8, T.dH, h d aaP, rG fun e he => h e (aaM _ he)]
   rfl
section
variable {X : Cx} {CL : Str -> Addr} {b : Bx} {H Z W1 : Hp} {δ δc : List (Option T)} {σ : L2.St} {ts : List T} {vs us : List V} {ds : List D} {scope : Scope} {Nc : List Str} {ix : List Nat} {elt : Expr} {ifs : List Expr} {p : D -> Bool} {g : D -> T} {J : It}
end
section
variable {K : PySem.W.Frag} {CL : Str -> Addr} {b : Bx} {H H' Z Z' : Hp} {δ δ' : List (Option T)} {σ σ' : L2.St} {ts tl : List T} {vs us : List V} {t : T} {v : V}
theorem aL.at : ∀ {tl : List T} {us : List V} {fp : List Addr} {j : Nat} {t : T}, aL K CL H Z tl us fp -> tl[j]? = some t -> ∃ v f1 f2 f3, us[j]? = some v /\ fp = f1 ++ (f2 ++ f3) /\ cy K CL H Z t v f2 ∧
   ∀ {H' : Hp} {t' : T} {v' : V} {g : List Addr}, (∀ a ∈ f1 ++ f3, H' a = H a) -> cy K CL H' Z t' v' g -> aL K CL H' Z (tl.set j t') (us.set j v') (f1 ++ (g ++ f3))
 | _, _, _, _, _, .nil, e => by simp at e
 | _, _, _, 0, _, .cons (fp := fp) (gp := gp) r q, e => by
   simp at e
   subst e
   exact ⟨_, [], fp, gp, rfl, rfl, r, fun {H' t' v' g} k r' => aL.cons (fp := g) (gp := gp) r' (aL.mono (fp := gp) (.refl _) (fun a ha => k a (by simpa using ha)) q)⟩
 | _, _, _, j + 1, t, .cons (fp := fp) (gp := gp) r q, e => by
   obtain ⟨v, f1, f2, f3, h1, h2, h3, h4⟩ := aL.at (j := j) (t := t) q (by simpa using e)
   refine ⟨v, fp ++ f1, f2, f3, by simpa using h1, by rw [h2, List.append_assoc], h3, fun k r' => ?_⟩
   rw [aaG]
   exact .cons (r.mono (.refl _) fun a ha => k a (by simp [ha])) (h4 (fun a ha => k a (by rw [aaG]; exact aaD _ ha)) r')
theorem rH {α : Type} {l : List α} {i : Nat} {x : α} (h : l[i]? = some x) : l.set i x = l := by
 apply ab3
 intro j
 rw [List.getElem?_set]
 split
 . rename_i e; subst e
   split
   . exact h.symm
   . rename_i h2; rw [ab6 (by omega)]
 . rfl
theorem bT.write {a : Addr} {xs : List V} {f1 f2 f3 g gp O5 : List Addr} {δ2 : List (Option T)} (S : bT K CL b H Z δ σ ts vs) (nd : ((f1 ++ (f2 ++ f3)) ++ gp).Nodup) (own : ∀ c ∈ (f1 ++ (f2 ++ f3)) ++ gp, Z c = none /\ b.B c = none) (ha : a ∈ f2)
   (hH : ∃ o, H a = some o) (e' : ef K CL (upd H a (.lst xs)) Z δ2 σ (f1 ++ (g ++ f3))) (r' : aL K CL (upd H a (.lst xs)) Z tl us O5) (pm : ((f1 ++ (g ++ f3)) ++ O5).Nodup) (sub : ∀ c ∈ (f1 ++ (g ++ f3)) ++ O5, c ∈ (f1 ++ (f2 ++ f3)) ++ gp) :
   bT K CL b (upd H a (.lst xs)) Z δ2 σ tl us := by
 have oa := own a (by simp [ha])
 refine ⟨⟨_, _, e', r', pm, fun c hc => own c (sub c hc)⟩, fun c o q => ?_, S.zz, fun c o q => ?_, S.new, fun c o q i => ?_, S.tab⟩
 . rw [av (aC q oa.2)]; exact S.bh c o q
 . rw [av (aC q oa.1)]; exact S.zh c o q
 . by_cases hc : c = a
   . subst hc; rw [aN] at q; cases q; cases i
   . rw [av hc] at q; exact S.tp c o q i
theorem bT.append {i : Nat} (S : bT K CL b H Z δ σ (t :: ts) (v :: vs)) (hi : δ[i]? = some (some (.lst tl))) :
   ∃ a us, σ[i]? = some (some (.ref a)) /\ H a = some (.lst us) /\ us.length = tl.length /\ bT K CL b (upd H a (.lst (us ++ [v]))) Z (δ.set i (some (.lst (tl ++ [t])))) σ ts vs := by
 obtain ⟨fp, gp, e, r, nd, k⟩ := S.rep
 obtain ⟨v0, f1, f2, f3, hv, qy, rt, put, _⟩ := e.get hi
 subst qy
 cases rt with
 | @lst a us _ g ha rs =>
   cases r with
   | @cons _ _ _ _ ft gr q1 q2 =>
     have ne : ∀ c ∈ (f1 ++ (g ++ f3)) ++ (ft ++ gr), c ≠ a := fun c hc e => by
       subst e
       have hp : ((f1 ++ ((c :: g) ++ f3)) ++ (ft ++ gr)).Perm (c :: ((f1 ++ (g ++ f3)) ++ (ft ++ gr))) := by
         rw [aa6, ← aa6]
         exact (List.perm_middle.append_right _)
       exact (abT.mp (hp.nodup_iff.mp nd)).1 hc
     refine ⟨a, us, hv, ha, rs.length.symm, ?_⟩
     have r1 : cy K CL (upd H a (.lst (us ++ [v]))) Z (.lst (tl ++ [t])) (.ref a) (a :: (g ++ (ft ++ []))) :=
       .lst aN (aL.app (rs.mono (.refl _) fun c hc => av (ne c (by simp [hc]))) (.cons (q1.mono (.refl _) fun c hc => av (ne c (by simp [hc]))) .nil))
     have e2 := put (H' := upd H a (.lst (us ++ [v]))) (.refl _) (fun c hc => av (ne c (by
       rcases aaS.mp hc with h | h
       . simp [h]
       . simp [h]))) r1
     rw [rH hv] at e2
     have hp : ((f1 ++ ((a :: (g ++ (ft ++ []))) ++ f3)) ++ gr).Perm ((f1 ++ ((a :: g) ++ f3)) ++ (ft ++ gr)) := by
       simp only [abq, aa6, aaG]
       refine abr f1 (List.Perm.cons a (abr g ?_))
       rw [← aaG, ← aaG]
       exact abl.append_right gr
     exact S.write nd k (aaP) ⟨_, ha⟩ e2 (q2.mono (.refl _) fun c hc => av (ne c (by simp [hc]))) (hp.nodup_iff.mpr nd) fun c hc => hp.mem_iff.mp hc
theorem bT.setAt {i j : Nat} (S : bT K CL b H Z δ σ (t :: ts) (v :: vs)) (hi : δ[i]? = some (some (.lst tl))) (hj : j < tl.length) :
   ∃ a us, σ[i]? = some (some (.ref a)) /\ H a = some (.lst us) /\ us.length = tl.length /\ bT K CL b (upd H a (.lst (us.set j v))) Z (δ.set i (some (.lst (tl.set j t)))) σ ts vs := by
 obtain ⟨fp, gp, e, r, nd, k⟩ := S.rep
 obtain ⟨v0, f1, f2, f3, hv, qy, rt, put, _⟩ := e.get hi
 subst qy
 cases rt with
 | @lst a us _ g ha rs =>
   cases r with
   | @cons _ _ _ _ ft gr q1 q2 =>
     have ne : ∀ c ∈ (f1 ++ (g ++ f3)) ++ (ft ++ gr), c ≠ a := fun c hc e => by
       subst e
       have hp : ((f1 ++ ((c :: g) ++ f3)) ++ (ft ++ gr)).Perm (c :: ((f1 ++ (g ++ f3)) ++ (ft ++ gr))) := by
         rw [aa6, ← aa6]
         exact (List.perm_middle.append_right _)
       exact (abT.mp (hp.nodup_iff.mp nd)).1 hc
     refine ⟨a, us, hv, ha, rs.length.symm, ?_⟩
     obtain ⟨vj, g1, g2, g3, _, hg, _, set⟩ := rs.at (aa3 hj)
     subst hg
     have r1 : cy K CL (upd H a (.lst (us.set j v))) Z (.lst (tl.set j t)) (.ref a) (a :: (g1 ++ (ft ++ g3))) :=
       .lst aN (set (fun c hc => av (ne c (by
         rcases aaS.mp hc with h | h
         . simp [h]
         . simp [h]))) (q1.mono (.refl _) fun c hc => av (ne c (by simp [hc]))))
     have e2 := put (H' := upd H a (.lst (us.set j v))) (.refl _) (fun c hc => av (ne c (by
       rcases aaS.mp hc with h | h
       . simp [h]
       . simp [h]))) r1
     rw [rH hv] at e2
     have hp : ((f1 ++ ((a :: (g1 ++ (ft ++ g3))) ++ f3)) ++ gr).Perm ((f1 ++ ((a :: (g1 ++ g3)) ++ f3)) ++ (ft ++ gr)) := by
       simp only [aa6, aaG]
       refine abr f1 (List.Perm.cons a (abr g1 ?_))
       have := (abl (l₁ := ft) (l₂ := g3 ++ f3)).append_right gr
       simp only [aaG] at this
       exact this
     have sb : ((f1 ++ ((a :: (g1 ++ g3)) ++ f3)) ++ (ft ++ gr)).Sublist ((f1 ++ ((a :: (g1 ++ (g2 ++ g3))) ++ f3)) ++ (ft ++ gr)) := by
       refine abd (abd (abb _) (abd (List.Sublist.cons₂ a ?_) (abb _))) (abb _)
       exact abd (abb _) (abC _ _)
     exact S.write nd k (aaP) ⟨_, ha⟩ e2 (q2.mono (.refl _) fun c hc => av (ne c (by simp [hc]))) (hp.nodup_iff.mpr (nd.sublist sb)) fun c hc => sb.subset (hp.mem_iff.mp hc)
end
section
variable {X : Cx} {CL : Str -> Addr} {b : Bx} {δ δ1 δ2 : List (Option T)} {e e2 : Expr} {t : T} {tl Ji tt XA : List T} {D : cM} {pos pp pa pb : Pos}
theorem O6 (i : Nat) {x : Str} (h0 : δ[i]? = some (some (.lst Ji))) (h : cj X CL b e δ t δ1) (h1 : δ1[i]? = some (some (.lst tl))) (hl : tl.length < sizeLine) (k : D.nx (δ1.set i (some (.lst (tl ++ [t])))))
   (hi : X.N[i]? = some x := by rfl) (hv : NC X.env.scope x := by first | exact Or.inl rfl | exact Or.inr (Or.inl rfl) | exact Or.inr (Or.inr rfl)) (hd : (x == ("__debug__" : Str)) = false := by decide) (iL : (x == ("__classdict__" : Str)) = false := by decide)
   (yQ : attributeBase (.Name x pp) "append" X.env (eval (.Name x pp) X.env) = eval (.Name x pp) X.env := by rfl)
   (EW : ((backTo pb (starEach [e] X.env)).all (fun x => !x.1) && (backToKw pb (keywordEach [] X.env)).all (fun x => x.1.isSome) && decide ([e].length + ([] : List Keyword).length + (if ([] : List Keyword).isEmpty then 0 else 1) < 30)) = true := by rfl)
   (hline : (pa.endLine == pb.line) = true := by rfl) (hs : starEach [e] X.env = (false, eval e X.env) :: starEach [] X.env := by exact cz rfl) (vf : swapsWith (.Call (.Attribute (.Name x pp) "append" pa) [e] [] pb) none pos.line X.env = pure false := by rfl) :
   OQ X CL b (.Expr (.Call (.Attribute (.Name x pp) "append" pa) [e] [] pb) pos) δ D := fun H Z σ ts vs E S M =>
 yT (IA (R9 PySem.F.plainAttrs_list PySem.F.slot_list_append PySem.F.type_list_append ur (mz hi hv hd iL) (cO eT fX hs) yQ EW hline hs rfl) vf) (by
   obtain ⟨v0, e0, r0⟩ := S.look h0
   refine ⟨v0, e0, ?_, ?_⟩
   . rw [T.cW] at r0
     cases r0 with
     | lst hq _ => exact .inl ⟨rfl, _, hq⟩
   . refine h H Z σ ts vs _ S fun v H1 Z1 z1 k1 S1 => ?_
     obtain ⟨a, us, ea, ha, hu, S2⟩ := S1.append h1
     rw [e0] at ea
     cases ea
     exact ⟨a, us, v, rfl, rfl, ha, by rw [hu]; exact hl, M.nx _ σ _ Z1 z1 S2 k⟩)
end
def Ss : Option (Option T) -> Option T
 | some (some t) => some (.sh t.cW)
 | _ => none
def XC : Option (Option T) -> Option T
 | some (some (T.sh d)) => some (.sh d)
 | _ => none
def tZ (δ : List (Option T)) (ix : List Nat) : List (Option T) := ix.map fun i => Ss δ[i]?
def yW (δ : List (Option T)) (ix : List Nat) : List (Option T) := ix.map fun i => XC δ[i]?
section
variable {K : PySem.W.Frag} {CL : Str -> Addr} {b : Bx} {H Z : Hp} {δ : List (Option T)} {σ : L2.St} {ts : List T} {vs : List V}
theorem rJ (S : bT K CL b H Z δ σ ts vs) : ∀ (ix : List Nat) (H' : Hp), ef K CL H' H (tZ δ ix) (ix.map fun i => (σ[i]?).getD none) []
 | [], _ => .nil
 | i :: r, H' => by
   have ih := rJ S r H'
   show ef K CL H' H (Ss δ[i]? :: tZ δ r) (((σ[i]?).getD none) :: r.map fun i => (σ[i]?).getD none) []
   cases e : δ[i]? with
   | none => exact .skip ih
   | some o =>
     cases o with
     | none => exact .skip ih
     | some t =>
       obtain ⟨v, hv, rv⟩ := S.look e
       rw [hv]
       exact .cons (fp := []) (gp := []) (.sh rv) ih
theorem yX (S : bT K CL b H Z δ σ ts vs) : ∀ (ix : List Nat) (H' : Hp), ef K CL H' Z (yW δ ix) (ix.map fun i => (σ[i]?).getD none) []
 | [], _ => .nil
 | i :: r, H' => by
   have ih := yX S r H'
   show ef K CL H' Z (XC δ[i]? :: yW δ r) (((σ[i]?).getD none) :: r.map fun i => (σ[i]?).getD none) []
   cases e : δ[i]? with
   | none => exact .skip ih
   | some o =>
     cases o with
     | none => exact .skip ih
     | some t =>
       cases t with
       | sh d =>
         obtain ⟨v, hv, rv⟩ := S.MV e
         rw [hv]
         exact .cons (fp := []) (gp := []) (.sh rv) ih
       | tup _ => exact .skip ih
       | lst _ => exact .skip ih
       | ins _ _ => exact .skip ih
       | qx _ => exact .skip ih
       | pin _ _ => exact .skip ih
end
section
variable {X : Cx} {CL : Str -> Addr} {b : Bx} {δ δ1 : List (Option T)} {scope : Scope} {x : Str} {Nc : List Str} {ix : List Nat} {elt iter : Expr} {ifs : List Expr} {px pos : Pos} {ds : List D}
structure Comes (X : Cx) (CL : Str -> Addr) (b : Bx) (δ1 : List (Option T)) (σ : L2.St) (ts : List T) (vs : List V) (Z H : Hp) (ds : List D) (J : It) (H1 : Hp) : Prop where
 ex : ∃ Z1 us, aA Z Z1 /\ aA H H1 /\ bT X.K CL b H1 Z1 δ1 σ ts vs /\ aD X.K CL Z1 ds us /\ (∀ i H2, aA Z1 H2 -> i < ds.length -> J.go i H2) ∧
   (∀ i H2 x H', aA Z1 H2 -> i < ds.length -> J.MK i H2 x H' -> H' = H2 /\ us[i]? = some x) /\ (∀ H2, aA Z1 H2 -> J.stop ds.length H2)
def M7 (X : Cx) (CL : Str -> Addr) (b : Bx) (tg e : Expr) (δ : List (Option T)) (ds : List D) (δ1 : List (Option T)) : Prop :=
 ∃ wi, PI X tg e wi /\ ∀ (H Z : Hp) (σ : L2.St) (ts : List T) (vs : List V) (R : It -> Hp -> Prop), bT X.K CL b H Z δ σ ts vs -> (∀ J H1, Comes X CL b δ1 σ ts vs Z H ds J H1 -> R J H1) -> wi σ H R
theorem mE {tg : Expr} (h : cj X CL b iter δ (.sh (.lst ds)) δ1) : M7 X CL b tg iter δ ds δ1 := by
 refine ⟨_, IB eT, fun H Z σ ts vs R S k => h H Z σ ts vs _ S fun v H1 Z1 z1 k1 S1 => ?_⟩
 obtain ⟨fp, gp, _, r, _, _⟩ := S1.rep
 cases r with
 | cons r _ =>
   cases r with
   | sh r =>
     cases r with
     | @lst a us _ hq rr =>
       refine ⟨a, rfl, ⟨us, S1.zh.seq hq⟩, k _ _ ⟨Z1, us, z1, k1, S1.pop, rr, fun i H2 s hi => ?_, fun i H2 y H' s hi hy => ⟨hy.1, hy.2 us (s.seq hq)⟩, fun H2 s => ⟨us, s.seq hq, by rw [rr.length]; exact aaI _⟩⟩⟩
       have M8 : i < us.length := by rw [← rr.length]; exact hi
       exact ⟨us, us[i], s.seq hq, by simp [M8]⟩
def bH (lo : Int) (n : Nat) : List D := (List.range n).map fun (i : Nat) => D.int (lo + i)
theorem yZ {K : PySem.W.Frag} {Z : Hp} (lo : Int) (n : Nat) : aD K CL Z (bH lo n) ((List.range n).map fun (i : Nat) => V.int (lo + i)) := by
 unfold bH
 generalize List.range n = l
 induction l with
 | nil => exact .nil
 | cons i r ih => exact .cons (.int _) ih
theorem eB {tg : Expr} {pr pc : Pos} {n : Int} (hm : X.mg "range" = none) (h : cD X CL b iter δ (.int n) δ1) (hn : -(2 ^ 62) <= n /\ n < 2 ^ 62) (hg : Gl X "range") (O7 : starEach [iter] X.env = [(false, eval iter X.env)] := by rfl) (O8 : starEach [iter] X.env = (false, eval iter X.env) :: starEach [] X.env := by exact cz rfl) :
   M7 X CL b tg (.Call (.Name "range" pr) [iter] [] pc) δ (bH 0 n.toNat) δ1 := by
 refine ⟨_, C3 hg hm (cO eT fX O8) O7, fun H Z σ ts vs R S k => h H Z σ ts vs _ S fun v H1 Z1 z1 k1 S1 r => ⟨n, by rw [r.sc rfl], hn.1, hn.2, k _ _ ⟨Z1, _, z1, k1, S1, yZ 0 n.toNat, fun i H2 s hi => ?_, fun i H2 y H' s hi hy => ?_, fun H2 s => ?_⟩⟩⟩
 . show i < n.toNat
   have : (bH 0 n.toNat).length = n.toNat := by simp [bH]
   omega
 . have M8 : i < n.toNat := by simpa [bH] using hi
   refine ⟨hy.1, ?_⟩
   rw [abn, ab0 M8, hy.2]
   rfl
 . show n.toNat <= (bH 0 n.toNat).length
   simp [bH]
theorem Dm {tg : Expr} {pr pc : Pos} {e1 e2 : Expr} {δ2 : List (Option T)} {m n : Int} (hm : X.mg "range" = none) (h1 : cD X CL b e1 δ (.int m) δ1) (h2 : cD X CL b e2 δ1 (.int n) δ2) (hn : -(2 ^ 62) <= m /\ m < 2 ^ 62 /\ -(2 ^ 62) <= n /\ n < 2 ^ 62) (hg : Gl X "range")
   (O7 : starEach [e1, e2] X.env = [(false, eval e1 X.env), (false, eval e2 X.env)] := by rfl) (O8 : starEach [e2] X.env = [(false, eval e2 X.env)] := by rfl) (Wb : starEach [e1, e2] X.env = (false, eval e1 X.env) :: starEach [e2] X.env := by rfl) (Wc : starEach [e2] X.env = (false, eval e2 X.env) :: starEach [] X.env := by rfl) :
   M7 X CL b tg (.Call (.Name "range" pr) [e1, e2] [] pc) δ (bH m (n - m).toNat) δ2 := by
 refine ⟨_, C4 hg hm (cO eT (cO eT fX Wc) Wb) O7 O8, fun H Z σ ts vs R S k => h1 H Z σ ts vs _ S fun v H1 Z1 z1 k1 S1 r => h2 H1 Z1 σ ts vs _ S1 fun v2 H2 Z2 z2 k2 S2 r2 => ⟨m, n, by rw [r.sc rfl, r2.sc rfl], hn, k _ _ ⟨Z2, _, z1.trans z2, k1.trans k2, S2, yZ m (n - m).toNat, fun i H2 s hi => ?_, fun i H2 y H' s hi hy => ?_, fun H2 s => ?_⟩⟩⟩
 . show i < (n - m).toNat
   have : (bH m (n - m).toNat).length = (n - m).toNat := by simp [bH]
   omega
 . have M8 : i < (n - m).toNat := by simpa [bH] using hi
   refine ⟨hy.1, ?_⟩
   rw [abn, ab0 M8, hy.2]
   rfl
 . show (n - m).toNat <= (bH m (n - m).toNat).length
   simp [bH]
theorem O9 {D : cM} {fY : List Stmt} (i : Nat) {pos' : Pos} (P : Nat -> List (Option T) -> Prop) (h : M7 X CL b (.Name x pos') iter δ ds δ1) (h0 : P 0 δ1) (hl : ∀ j δ, P j δ -> i < δ.length)
   (hs : ∀ j d δ, ds[j]? = some d -> P j δ -> fD X CL b fY (δ.set i (some (.sh d))) { nx := P (j + 1), rt := D.rt, bk := D.nx, ct := P (j + 1) }) (hd : ∀ δ, P ds.length δ -> D.nx δ)
   (hp : PassesOwn (model X.prog X.w) X.A X.env X.xe) (hc : X.calm = true) (hN : X.N.Nodup) (hi : X.N[i]? = some x) (hx : Loc X.env.scope x) (hf : X.fn x = true \/ X.env.scope.names.lookup x = some .local) (hq : ∀ x, foldedSetIterable iter X.env x = pure x := by intro _; rfl) :
   OQ X CL b (.For (.Name x pos') iter fY [] pos) δ D := fun H Z σ ts vs E S M => by
 obtain ⟨wi, pi, hw⟩ := h
 refine yT (N8 hp hc pi (uR hN hi hx hf) MT hq) (hw H Z σ ts vs _ S fun J H1 ⟨Z1, us, z1, k1, S1, rr, go, yl, st⟩ => ?_)
 refine ⟨fun j m σ H2 => m = ds.length - j /\ j <= ds.length /\ ∃ Z2 δ2, aA Z1 Z2 /\ bT X.K CL b H2 Z2 δ2 σ ts vs /\ P j δ2, ⟨_, rfl, abf _, Z1, δ1, .refl _, S1, h0⟩, ?_⟩
 rintro j m σ H2 ⟨rfl, hj, Z2, δ2, s, S2, p2⟩
 by_cases t6 : j < ds.length
 . refine .inr ⟨go j H2 (s.trans S2.zh) t6, fun σ' H' => ∃ Z2 δ2, aA Z1 Z2 /\ bT X.K CL b H' Z2 δ2 σ' ts vs /\ P (j + 1) δ2, fun σ' H' h => ⟨ds.length - (j + 1), by omega, rfl, t6, h⟩, fun y H' hy => ?_⟩
   obtain ⟨e, hu⟩ := yl j H2 y H' (s.trans S2.zh) t6 hy
   subst e
   obtain ⟨d, NQ, rd⟩ := rr.IZ hu
   have S3 := (S2.push (rd.mono s)).set (hl j δ2 p2)
   exact hs j d δ2 NQ p2 _ Z2 _ ts vs _ S3 ⟨fun δ' σ' H' Z' s' S' k => ⟨Z', δ', s.trans s', S', k⟩, fun t v H' Z' δ' σ' s' S' k => M.rt t v H' Z' δ' σ' (z1.trans (s.trans s')) S' k, fun δ' σ' H' Z' s' S' k => M.nx δ' σ' H' Z' (z1.trans (s.trans s')) S' k, fun δ' σ' H' Z' s' S' k => ⟨Z', δ', s.trans s', S', k⟩⟩
 . have e : j = ds.length := by omega
   subst e
   exact .inl ⟨st H2 (s.trans S2.zh), M.nx δ2 σ H2 Z2 (z1.trans s) S2 (hd δ2 p2)⟩
def Block (X : Cx) (CL : Str -> Addr) (scope : Scope) (Nc : List Str) (ifs : List Expr) (elt : Expr) (δc : List (Option T)) (ds : List D) (p : D -> Bool) (g : D -> T) : Prop :=
 ∀ C s0 H0 f0 b' d, d ∈ ds -> U6 (cE X scope Nc C s0 H0 f0) CL b' ifs (some (.sh d) :: δc) (p d) /\ (p d = true -> cj (cE X scope Nc C s0 H0 f0) CL b' elt (some (.sh d) :: δc) (g d) (some (.sh d) :: δc))
variable {p : D -> Bool} {g : D -> T} {δc : List (Option T)}
end
section
variable {X : Cx} {CL : Str -> Addr} {b : Bx} {δ δ1 : List (Option T)} {scope : Scope} {x : Str} {Nc : List Str} {ix : List Nat} {elt iter : Expr} {ifs : List Expr} {px pos : Pos} {ds : List D} {p : D -> Bool} {g : D -> T} {δc : List (Option T)}
def isD : L3.D -> String -> Option Bool
 | .non, n => if n = "int" \/ n = "str" \/ n = "list" \/ n = "tuple" \/ n = "bool" \/ n = "dict" then some false else none
 | .bl _, n => if n = "int" \/ n = "bool" then some true else if n = "str" \/ n = "list" \/ n = "tuple" \/ n = "dict" then some false else none
 | .int _, n => if n = "int" then some true else if n = "str" \/ n = "list" \/ n = "tuple" \/ n = "bool" \/ n = "dict" then some false else none
 | .str _, n => if n = "str" then some true else if n = "int" \/ n = "list" \/ n = "tuple" \/ n = "bool" \/ n = "dict" then some false else none
 | .lst _, n => if n = "list" then some true else if n = "int" \/ n = "str" \/ n = "tuple" \/ n = "bool" \/ n = "dict" then some false else none
 | .tup _, n => if n = "tuple" then some true else if n = "int" \/ n = "str" \/ n = "list" \/ n = "bool" \/ n = "dict" then some false else none
 | _, _ => none
def Pa (t n : String) : Option Bool := if (Value.type t == Value.type n) = true then some true else if PySem.W.kitMeta n = true then (fastBuiltinMro t).map (·.contains (.type n)) else none
theorem iO {K : PySem.W.Frag} {t n : String} : PySem.W.kitOne K (.type t) (.type n) = Pa t n := rfl
theorem E9 : (["NoneType", "bool", "int", "str", "list", "tuple"].all fun t => ["int", "str", "list", "tuple", "bool", "dict"].all fun n => Pa t n == some (t == n || (t == "bool" && n == "int"))) = true := by decide +kernel
theorem kK {t n : String} (ht : t ∈ ["NoneType", "bool", "int", "str", "list", "tuple"]) (hn : n ∈ ["int", "str", "list", "tuple", "bool", "dict"]) : Pa t n = some (t == n || (t == "bool" && n == "int")) := by
 have := E9
 rw [abN] at this
 have h := this t ht
 rw [abN] at h
 simpa using h n hn
def Wd : L3.D -> Option String
 | .non => some "NoneType"
 | .bl _ => some "bool"
 | .int _ => some "int"
 | .str _ => some "str"
 | .lst _ => some "list"
 | .tup _ => some "tuple"
 | _ => none
theorem Dn : pR X (.builtin "isinstance") (fun xs H Q => ∃ y n d t, xs = [y, .ty n] /\ bz X.K CL H d y /\ Wd d = some t /\ n ∈ ["int", "str", "list", "tuple", "bool", "dict"] /\ Q (.bl (t == n || (t == "bool" && n == "int"))) H) := by
 intro pins s σ H xs us Q I r h
 obtain ⟨y, n, d, t, rfl, rd, ht, hn, q⟩ := h
 obtain ⟨u, u2, rfl, ru, YV⟩ := r.two
 cases (show u2 = Value.type n from YV)
 have fin : ∀ tk, EP X pins σ Q (.bool (t == n || (t == "bool" && n == "int"))) { s with toks := tk } := fun tk => ⟨.bl _, H, I.tok tk, rfl, q⟩
 cases rd with
 | non => cases ht; cases (show u = Value.none from ru); exact ab2 PySem.W.kitx_none I.yC True.intro (iO.trans (kK (by decide) hn)) (fun z => nomatch z) fin
 | bl c => cases ht; cases (show u = Value.bool c from ru); exact ab2 PySem.W.kitx_bool I.yC True.intro (iO.trans (kK (by decide) hn)) (fun z => nomatch z) fin
 | int c => cases ht; obtain ⟨tt, e⟩ := (show ∃ t, u = Value.int c t from ru); cases e; exact ab2 PySem.W.kitx_int I.yC True.intro (iO.trans (kK (by decide) hn)) (fun z => nomatch z) fin
 | str c => cases ht; obtain ⟨tt, e⟩ := (show ∃ t, u = Value.str c t from ru); cases e; exact ab2 PySem.W.kitx_str I.yC True.intro (iO.trans (kK (by decide) hn)) (fun z => nomatch z) fin
 | @lst a ws _ hq rr =>
   cases ht
   cases (show u = Value.ref a from ru)
   obtain ⟨its, _, pl, _⟩ := I.list hq
   obtain ⟨o, n', e, c, _⟩ := pl
   exact ab2 PySem.W.kitx_list I.yC ⟨o, e, c⟩ (iO.trans (kK (by decide) hn)) (fun z => nomatch z) fin
 | @tup a ws _ hq rr =>
   cases ht
   cases (show u = Value.ref a from ru)
   obtain ⟨its, _, pl, _⟩ := I.tuple hq
   obtain ⟨o, e, c, _⟩ := pl
   exact ab2 PySem.W.kitx_tuple I.yC ⟨o, e, c⟩ (iO.trans (kK (by decide) hn)) (fun z => nomatch z) fin
 | ins _ _ => cases ht
 | any _ => cases ht
 | val _ => cases ht
 | qx _ _ => cases ht
theorem Jj {e : Expr} {d : L3.D} {t n : String} {nm : Str} {pp pq : Pos} (hm : X.mg "isinstance" = none) (Wf : X.mg nm = none) (hg : Gl X "isinstance") (Wg : Gl X nm) (YW : bootBuiltins nm = some (.type n)) (YX : nm ≠ "__name__") (YY : (nm == ("__debug__" : Str)) = false) (h : cD X CL b e δ d δ1) (ht : Wd d = some t) (hn : n ∈ ["int", "str", "list", "tuple", "bool", "dict"])
   (hs : starEach [e, .Name nm pq] X.env = (false, eval e X.env) :: starEach [.Name nm pq] X.env := by exact cz rfl) :
   cj X CL b (.Call (.Name "isinstance" pp) [e, .Name nm pq] [] pos) δ (.sh (.bl (t == n || (t == "bool" && n == "int")))) δ1 := fun H Z σ ts vs Q S k =>
 c9 (yM (Dn (CL := CL)) hg hm boot_isinstance (cO eT (cO (Iv Wg Wf YW (v := .ty n) rfl YX YY) fX) hs) (he := hs)) (h H Z σ ts vs _ S fun v H1 Z1 z1 k1 S1 r =>
   ⟨v, n, d, t, rfl, r, ht, hn, k _ H1 Z1 z1 k1 (S1.push (.bl _))⟩)
end
theorem aJ {n : Nat} (h : Nat.ble n 1000 = true) : n <= sizeLine := abE (eS (aaJ h))
structure Vn (X : Cx) (i : Nat) (x : Str) : Prop where
 hi : X.N[i]? = some x
 hv : NC X.env.scope x
 hd : (x == ("__debug__" : Str)) = false
 iL : (x == ("__classdict__" : Str)) = false
structure Ln (X : Cx) (i : Nat) (x : Str) : Prop extends Vn X i x where
 loc : Loc X.env.scope x
 hf : X.fn x = true \/ X.env.scope.names.lookup x = some .local
structure Gx (X : Cx) : Prop where
 nd : X.N.Nodup
 calm : X.calm = true
 xe : X.xe = fun _ _ => False
structure Fc (X : Cx) (CL : Str -> Addr) (x : Str) (k n : Nat) {A : Type} (arg : A -> List D) (Pre : A -> Prop) (res : A -> T) : Prop where
 ex : ∃ f fd ps, bL X.prog X.w X.K X.mg X.base fL k f fd ps (jO X.K CL n arg Pre res) /\ X.mg x = some (.ref f) /\ PySem.W.keepIn X.K (.ref f) = true /\ Binds X.K fd ps []
 room : dR k X.A
section
variable {X : Cx} {CL : Str -> Addr} {b : Bx} {δ δ1 δ2 : List (Option T)} {e e1 e2 : Expr} {es : List Expr} {d : L3.D} {t : T} {i : Nat} {x : Str} {pos pp : Pos} {D : cM} {fY : List Stmt} {ds : List L3.D}
theorem v_ (n : Vn X i x) (h : δ[i]? = some (some (.sh d)) := by rfl) : cj X CL b (.Name x pos) δ (.sh d) δ := OS i n.hi n.hv n.hd n.iL h
theorem vF (n : Vn X i x) (h : δ[i]? = some (some t) := by rfl) : cj X CL b (.Name x pos) δ (.sh t.cW) (δ.set i (some (.sh t.cW))) := Jd i n.hi n.hv n.hd n.iL h
theorem vM (n : Vn X i x) (h : δ[i]? = some (some t) := by rfl) : cj X CL b (.Name x pos) δ t (δ.set i none) := Je i n.hi n.hv n.hd n.iL h
theorem vB (n : Vn X i x) (h : δ[i]? = some (some t) := by rfl) : cD X CL b (.Name x pos) δ t.cW δ := OU i n.hi n.hv n.hd n.iL h
theorem cX {k : Int} (h : cD X CL b e δ (.int k) δ1) : cj X CL b (.UnaryOp .USub e pos) δ (.sh (.int (-k))) δ1 := fun H Z σ ts vs Q S kk =>
 c9 (RP Oi eT) (h H Z σ ts vs _ S fun v H1 Z1 z1 k1 S1 r => ⟨k, r.sc rfl, kk _ H1 Z1 z1 k1 (S1.push (.int _))⟩)
theorem vL (n : Vn X i x) (h : δ[i]? = some (some (.lst (ds.map T.sh))) := by rfl) : cD X CL b (.Name x pos) δ (.lst ds) δ := by
 have := vB (CL := CL) (b := b) (pos := pos) n h
 rwa [T.cW, gj] at this
theorem c_ {k n : Nat} {A : Type} {arg : A -> List L3.D} {Pre : A -> Prop} {res : A -> T} (a : A) (F : Fc X CL x k n arg Pre res) (hg : Gl X x) (h : MX X CL b (e :: es) δ (arg a) δ1) (hp : Pre a) (hc : (res a).clean = true) (hn : (arg a).length = n := by rfl)
   (tV : (x == ("__debug__" : Str)) = false := by decide) (he : starEach (e :: es) X.env = (false, eval e X.env) :: starEach es X.env := by exact cz rfl) (tW : (backTo pos (starEach es X.env)).any (·.1) = false := by rfl) :
   cj X CL b (.Call (.Name x pp) (e :: es) [] pos) δ (res a) δ1 := by
 obtain ⟨f, fd, ps, F1, m, k, b⟩ := F.ex
 exact Jh a F1 F.room m k b h hn hp hc hg tV he tW
theorem aO {pos' : Pos} (g : Gx X) (n : Ln X i x) (h : cj X CL b e δ t δ1) (k : fD X CL b fY (δ1.set i (some t)) D) (hl : i < δ1.length := by exact aaJ rfl) (hs : swapsWith e (some (.Name x pos')) pos.line X.env = pure false := by rfl) :
   fD X CL b (.Assign [.Name x pos'] e pos :: fY) δ D := eu (E7 i h k hl g.nd n.hi n.loc hs n.hf)
theorem aY (h : cj X CL b e δ t δ1) (k : D.rt t δ1) : fD X CL b (.Return (some e) pos :: fY) δ D := eu (O2 h k)
theorem fS {p : Bool} {a c : List Stmt} (h : mS X CL b e δ p δ1) (h1 : p = true -> fD X CL b a δ1 { D with nx := fun δ2 => fD X CL b fY δ2 D }) (h2 : p = false -> fD X CL b c δ1 { D with nx := fun δ2 => fD X CL b fY δ2 D }) : fD X CL b (.If e a c pos :: fY) δ D := eu (Sn h h1 h2)
theorem fD.to {D' : cM} (h : fD X CL b fY δ D') (h1 : ∀ δ, D'.nx δ -> D.nx δ) (h2 : ∀ t δ, D'.rt t δ -> D.rt t δ) (h3 : ∀ δ, D'.bk δ -> D.bk δ) (h4 : ∀ δ, D'.ct δ -> D.ct δ) : fD X CL b fY δ D := fun H Z σ ts vs E S M => h H Z σ ts vs E S (M.to h1 h2 h3 h4)
theorem y9 {p : Bool} {a c : List Stmt} (J : List (Option T) -> Prop) (h : mS X CL b e δ p δ1) (h1 : p = true -> fD X CL b a δ1 { D with nx := J }) (h2 : p = false -> fD X CL b c δ1 { D with nx := J }) (k : ∀ δ2, J δ2 -> fD X CL b fY δ2 D) : fD X CL b (.If e a c pos :: fY) δ D :=
 fS h (fun hp => fD.to (h1 hp) k (fun _ _ q => q) (fun _ q => q) (fun _ q => q)) (fun hp => fD.to (h2 hp) k (fun _ _ q => q) (fun _ q => q) (fun _ q => q))
theorem jU {body : List Stmt} {pos' : Pos} (g : Gx X) (n : Ln X i x) (P : Nat -> List (Option T) -> Prop) (h : M7 X CL b (.Name x pos') e δ ds δ1) (h0 : P 0 δ1) (hl : ∀ j δ, P j δ -> i < δ.length)
   (hs : ∀ j d δ, ds[j]? = some d -> P j δ -> fD X CL b body (δ.set i (some (.sh d))) { nx := P (j + 1), rt := D.rt, bk := fun δ2 => fD X CL b fY δ2 D, ct := P (j + 1) }) (hd : ∀ δ, P ds.length δ -> fD X CL b fY δ D) (hq : ∀ x, foldedSetIterable e X.env x = pure x := by intro _; rfl) :
   fD X CL b (.For (.Name x pos') e body [] pos :: fY) δ D :=
 eu (O9 (D := { D with nx := fun δ1 => fD X CL b fY δ1 D }) i P h h0 hl hs hd (by rw [g.xe]; exact PassesOwn.never) g.calm g.nd n.hi n.loc n.hf hq)
theorem iP {e : Expr} {o : Option Expr} {l : Nat} {env : Env} (h : ∃ c, swapsWith e o l env = pure c) : swapsWith e o l env = pure true \/ swapsWith e o l env = pure false := by
 obtain ⟨c, h⟩ := h
 cases c
 . exact .inr h
 . exact .inl h
theorem fZ {scope : Scope} {Nc : List Str} {C : Addr} {s : Shared} {H : Hp} {fp : List Addr} (h1 : Nc[i]? = some x) (h2 : scope.names.lookup x = some .local) (hd : (x == ("__debug__" : Str)) = false := by decide) (iL : (x == ("__classdict__" : Str)) = false := by decide) : Vn (cE X scope Nc C s H fp) i x :=
 ⟨h1, .inl (lookup_relabel_local h2), hd, iL⟩
theorem gP {scope : Scope} {Nc : List Str} {C : Addr} {s : Shared} {H : Hp} {fp : List Addr} (h1 : Nc[i]? = some x) (h2 : scope.names.lookup x = some .free) (hd : (x == ("__debug__" : Str)) = false := by decide) (iL : (x == ("__classdict__" : Str)) = false := by decide) : Vn (cE X scope Nc C s H fp) i x := by
 refine ⟨h1, ?_, hd, iL⟩
 have q := dI (env := X.env) h2
 show (relabel scope X.env).names.lookup x = some .local \/ (relabel scope X.env).names.lookup x = some .cell \/ (relabel scope X.env).names.lookup x = some .free
 rw [show (relabel scope X.env).names.lookup x = _ from q]
 split
 . exact .inr (.inl rfl)
 . exact .inr (.inr rfl)
theorem jf {scope : Scope} {Nc : List Str} {C : Addr} {s : Shared} {H : Hp} {fp : List Addr} (h2 : scope.names.lookup x = some .globalImplicit) : Gl (cE X scope Nc C s H fp) x := by
 have q := dI (env := X.env) h2
 show (relabel scope X.env).names.lookup x = some .globalImplicit
 rw [show (relabel scope X.env).names.lookup x = _ from q]
 rfl
theorem mU {scope : Scope} {Nc : List Str} {C : Addr} {s : Shared} {H : Hp} {fp : List Addr} {k n : Nat} {A : Type} {arg : A -> List L3.D} {Pre : A -> Prop} {res : A -> T} (F : Fc X CL x k n arg Pre res) : Fc (cE X scope Nc C s H fp) CL x k n arg Pre res := ⟨F.ex, F.room⟩
end
section
variable {X : Cx} {CL : Str -> Addr} {b : Bx} {δ δ1 δ2 : List (Option T)} {e e1 e2 : Expr} {es : List Expr} {ds : List L3.D} {pos : Pos}
theorem Fb {i j : Bool} (h1 : cD X CL b e1 δ (.bl i) δ1) (h2 : cD X CL b e2 δ1 (.bl j) δ2) : mS X CL b (.Compare e1 [.Eq] [e2] pos) δ (decide (i = j)) δ2 /\ cj X CL b (.Compare e1 [.Eq] [e2] pos) δ (.sh (.bl (decide (i = j)))) δ2 :=
 pU EE h1 h2 rfl rfl (fun _ _ q => ⟨rfl, by rw [show decide (V.bl i = V.bl j) = decide (i = j) by simp]; exact q⟩) (iu _)
theorem Fd {i j : Bool} (h1 : cD X CL b e1 δ (.bl i) δ1) (h2 : cD X CL b e2 δ1 (.bl j) δ2) : mS X CL b (.Compare e1 [.NotEq] [e2] pos) δ (!decide (i = j)) δ2 /\ cj X CL b (.Compare e1 [.NotEq] [e2] pos) δ (.sh (.bl (!decide (i = j)))) δ2 :=
 pU MN h1 h2 rfl rfl (fun _ _ q => ⟨rfl, by rw [show decide (V.bl i = V.bl j) = decide (i = j) by simp]; exact q⟩) (iu _)
theorem B9 (h : A0 X CL b es δ (ds.map T.sh) δ1) (hl : ds.length <= sizeLine := by exact aJ rfl) : cj X CL b (.List es pos) δ (.sh (.lst ds)) δ1 := by
 have := A1 (eL (pos := pos) h (by simpa using hl))
 rwa [T.cW, gj] at this
end
section
variable {X : Cx} {CL : Str -> Addr} {b : Bx} {δ δ1 : List (Option T)} {e : Expr} {d : L3.D} {t : String} {pos pp pq : Pos}
theorem Dp : bootBuiltins "int" = some (.type "int") := by decide +kernel
theorem A4 : bootBuiltins "bool" = some (.type "bool") := by decide +kernel
theorem XD (hm : X.mg "isinstance" = none) (Wf : X.mg "bool" = none) (hg : Gl X "isinstance") (Wg : Gl X "bool") (h : cD X CL b e δ d δ1) (ht : Wd d = some t := by rfl) (hs : starEach [e, .Name "bool" pq] X.env = (false, eval e X.env) :: starEach [.Name "bool" pq] X.env := by exact cz rfl) :
   cj X CL b (.Call (.Name "isinstance" pp) [e, .Name "bool" pq] [] pos) δ (.sh (.bl (t == "bool" || (t == "bool" && "bool" == "int")))) δ1 := Jj hm Wf hg Wg A4 (by decide) (by decide) h ht (by decide) hs
theorem bZ : bootBuiltins "list" = some (.type "list") := by decide +kernel
theorem za : bootBuiltins "tuple" = some (.type "tuple") := by decide +kernel
end
def jN (sc : Scope) (l : List (Str × NameKind)) : Bool := l.all fun p => sc.names.lookup p.1 == some p.2
theorem dD {sc : Scope} {l : List (Str × NameKind)} (h : jN sc l = true) (i : Nat) {x : Str} {k : NameKind} (hi : l[i]? = some (x, k)) : sc.names.lookup x = some k := by
 unfold jN at h
 rw [abN] at h
 exact beq_iff_eq.mp (h _ (abu hi))
inductive Jk (X : Cx) : List Nat -> List Str -> Prop where
 | nil : Jk X [] []
 | cons {i : Nat} {y : Str} {ix : List Nat} {ys : List Str} (n : Vn X i y) (k : X.env.kindOf y = some .cell \/ X.env.kindOf y = some .free) (r : Jk X ix ys) : Jk X (i :: ix) (y :: ys)
def Fe (scope : Scope) (x : Str) (zb : List Str) : Bool :=
 scope.kind == .function && scope.names.lookup x == some .local && zb.all (fun y => scope.names.lookup y == some .free) && decide ((x :: zb).Nodup) &&
   scope.names.all fun y => y.2 != .cell && (y.2 != .local || scope.names.lookup y.1 == some .local) && (y.2 != .free || (zb.contains y.1 && scope.names.lookup y.1 == some .free))
theorem dJ {X : Cx} {scope : Scope} {x : Str} {ix : List Nat} {zb : List Str} (c : Jk X ix zb) (ok : Fe scope x zb = true) : eU X scope x (x :: zb) ix := by
 unfold Fe at ok
 simp only [abt, abN, abX, beq_iff_eq] at ok
 obtain ⟨⟨⟨⟨h1, h2⟩, h3⟩, h4⟩, h5⟩ := ok
 have kc : ∀ y ∈ zb, X.env.kindOf y = some .cell \/ X.env.kindOf y = some .free := by
   clear h3 h4 h5
   induction c with
   | nil => intro y hy; cases hy
   | cons n k r ih =>
     intro y hy
     rcases aaH.mp hy with e | hy
     . subst e; exact k
     . exact ih y hy
 refine ⟨h1, fun y hy e => ?_, h4, fun y hy e => ?_, h2, fun y hy e => ?_, ?_, fun i hi => ?_⟩
 . have := (h5 y hy).1.1
   rw [e] at this
   simp at this
 . have := (h5 y hy).1.2
   rw [e] at this
   simpa using this
 . have := (h5 y hy).2
   rw [e] at this
   simp at this
   exact ⟨this.2, kc _ this.1⟩
 . congr 1
   clear h3 h4 h5 kc
   induction c with
   | nil => rfl
   | cons n k r ih => rw [abA, n.hi, ← ih]
 . clear h4 h5 kc
   induction c with
   | nil => cases hi
   | @cons i' y ix ys n k r ih =>
     rcases aaH.mp hi with e | hi
     . subst e; exact ⟨y, n.hi, h3 y aaP⟩
     . exact ih (fun z hz => h3 z (aaM _ hz)) hi
def D.zc : D -> Int
 | .int i => i
 | _ => 0
def D.toS : D -> Str
 | .str x => x
 | _ => Str.empty
theorem fG {bs : List Int} {k : Int} (h0 : 0 <= k) (h1 : k < bs.length) : rC (bs.map D.int) k = some (.int (bs.getD k.toNat 0)) := by
 obtain ⟨j, rfl⟩ : ∃ j : Nat, k = j := ⟨k.toNat, by omega⟩
 refine gf ?_
 have hl : j < bs.length := by omega
 rw [abn, aa3 hl]
 simp [List.getD, hl]
theorem dM : ∀ (bs : List Int), D.bM (bs.map D.int) = true
 | [] => rfl
 | i :: r => by rw [aa8, D.bM, dM r]; rfl
theorem gQ {lo : Int} {n j : Nat} {d : D} (h : (bH lo n)[j]? = some d) : d = .int (lo + j) /\ j < n := by
 have hl : j < n := by
   have := (aa4.mp h).1
   simpa [bH] using this
 refine ⟨?_, hl⟩
 unfold bH at h
 rw [abn, ab0 hl] at h
 exact (aaY h).symm
theorem fT {α : Type} (l : List α) : l.filter (fun _ => true) = l := by simp
theorem zf {K : PySem.W.Frag} {CL : Str -> Addr} {Z : Hp} : ∀ (ns : List Int), aD K CL Z (ns.map D.int) (ns.map V.int)
 | [] => .nil
 | n :: r => .cons (.int n) (zf r)
mutual
def D.toPy : D -> PyData
 | .non => .none
 | .bl b => .bool b
 | .int i => .int i
 | .str x => .str x
 | .tup ds => .tuple (D.jV ds)
 | .lst ds => .list (D.jV ds)
 | .ins _ _ => .none
 | .qx _ => .none
 | .any => .none
 | .val _ => .none
def D.jV : List D -> List PyData
 | [] => []
 | d :: ds => d.toPy :: D.jV ds
end
inductive iz : Nat -> D -> Prop where
 | non (n : Nat) : iz n .non
 | bl (n : Nat) (b : Bool) : iz n (.bl b)
 | int (n : Nat) (i : Int) : iz n (.int i)
 | str (n : Nat) (x : Str) (h : PyData.strOk x = true) : iz n (.str x)
 | tup {n : Nat} {ds : List D} (h : ∀ d ∈ ds, iz n d) : iz (n + 1) (.tup ds)
 | lst {n : Nat} {ds : List D} (h : ∀ d ∈ ds, iz n d) : iz (n + 1) (.lst ds)
def Dq (a b : D) : Bool := PyData.eqv a.toPy b.toPy
theorem iz.Pb {n : Nat} : ∀ {ds : List D}, (∀ d ∈ ds, d.toPy.canLay0 = true /\ d.toPy.depth <= n) -> PyData.canLayAll0 (D.jV ds) = true /\ PyData.depthAll (D.jV ds) <= n
 | [], _ => ⟨by rw [D.jV, PyData.canLayAll0], by rw [D.jV, PyData.depthAll]; exact abf _⟩
 | d :: ds, h => by
   have h1 := h d aaP
   have h2 := iz.Pb (ds := ds) fun e he => h e (aaM _ he)
   rw [D.jV, PyData.canLayAll0, PyData.depthAll, h1.1, h2.1]
   exact ⟨rfl, Nat.max_le.mpr ⟨h1.2, h2.2⟩⟩
theorem iz.lay {n : Nat} {d : D} (h : iz n d) : d.toPy.canLay0 = true /\ d.toPy.depth <= n := by
 induction h with
 | non n => exact ⟨by rw [D.toPy, PyData.canLay0], by rw [D.toPy, PyData.depth]; exact abf _⟩
 | bl n b => exact ⟨by rw [D.toPy, PyData.canLay0], by rw [D.toPy, PyData.depth]; exact abf _⟩
 | int n i => exact ⟨by rw [D.toPy, PyData.canLay0], by rw [D.toPy, PyData.depth]; exact abf _⟩
 | str n x hx => exact ⟨by rw [D.toPy, PyData.canLay0]; exact hx, by rw [D.toPy, PyData.depth]; exact abf _⟩
 | @tup n ds _ ih =>
   have := iz.Pb ih
   rw [D.toPy, PyData.canLay0, PyData.depth]
   exact ⟨this.1, by omega⟩
 | @lst n ds _ ih =>
   have := iz.Pb ih
   rw [D.toPy, PyData.canLay0, PyData.depth]
   exact ⟨this.1, by omega⟩
theorem mV {n : Nat} {d : D} (h : iz n d) : Dq d d = true := SeqAt.eqv_refl _ h.lay.1
section
variable {X : Cx} {CL : Str -> Addr} {pins : List (Addr × Obj)} {σ : L2.St} {H : Hp} {s : Shared}
mutual
theorem reads (I : L2.Inv X pins σ H s) : ∀ {d : D} {v : V} {u : Value}, d.toPy.canLay0 = true -> (∀ c fs, d ≠ .ins c fs) -> d ≠ .any -> bz X.K CL H d v -> RelV v u -> (∀ n, iz n d -> ∃ as, Reads s.heap u d.toPy as)
 | _, _, _, _, _, _, .non, r => fun _ _ => by cases r; rw [D.toPy]; exact ⟨[], .none⟩
 | _, _, _, _, _, _, .bl b, r => fun _ _ => by cases r; rw [D.toPy]; exact ⟨[], .bool b⟩
 | _, _, _, _, _, _, .int i, r => fun _ _ => by obtain ⟨t, rfl⟩ := r; rw [D.toPy]; exact ⟨[], .int i t⟩
 | _, _, _, _, _, _, .str x, r => fun _ _ => by obtain ⟨t, rfl⟩ := r; rw [D.toPy]; exact ⟨[], .str x t⟩
 | _, _, _, _, _, h, .any _, r => absurd rfl h
 | _, _, _, _, h, _, .ins _ _, r => absurd rfl (h _ _)
 | _, _, _, _, _, _, .qx _ _, r => fun n hd => by cases hd
 | _, _, _, _, _, _, .val _, r => fun n hd => by cases hd
 | _, _, _, hc, _, _, .tup (a := a) hq rr, r => fun n hd => by
   cases hd with
   | tup hd =>
     cases r
     obtain ⟨its, rv, ⟨o, e, c, k, dt⟩, _⟩ := I.tuple hq
     obtain ⟨as, ra⟩ := readsAll I hd rr rv
     rw [D.toPy]
     exact ⟨as, .tuple e c dt (by simpa using ra)⟩
 | _, _, _, hc, _, _, .lst (a := a) hq rr, r => fun n hd => by
   cases hd with
   | lst hd =>
     cases r
     obtain ⟨its, rv, ⟨o, k, e, c, _, dt⟩, _⟩ := I.list hq
     obtain ⟨as, ra⟩ := readsAll I hd rr rv
     rw [D.toPy]
     exact ⟨_, .list e c dt (by simpa using ra)⟩
theorem readsAll (I : L2.Inv X pins σ H s) : ∀ {n : Nat} {ds : List D} {vs : List V} {us : List Value}, (∀ d ∈ ds, iz n d) -> aD X.K CL H ds vs -> Vals vs us -> ∃ as, ReadsAll s.heap us (D.jV ds) as
 | _, _, _, _, _, .nil, r => by cases r; rw [D.jV]; exact ⟨[], .nil⟩
 | n, d :: _, _, _, h, .cons q qs, r => by
   cases r with
   | cons r rs =>
     have hd := h d aaP
     obtain ⟨as, ra⟩ := reads I hd.lay.1 (fun c fs e => by subst e; cases hd) (fun e => by subst e; cases hd) q r n hd
     obtain ⟨bs, rb⟩ := readsAll I (fun e he => h e (aaM _ he)) qs rs
     rw [D.jV]
     exact ⟨as ++ bs, .cons ra rb⟩
end
theorem vg (I : L2.Inv X pins σ H s) {n : Nat} {d : D} {v : V} {u : Value} (hd : iz n d) (q : bz X.K CL H d v) (r : RelV v u) : ∃ as, Reads s.heap u d.toPy as :=
 reads I hd.lay.1 (fun c fs e => by subst e; cases hd) (fun e => by subst e; cases hd) q r n hd
end
section
variable {X : Cx} {CL : Str -> Addr} {b : Bx} {δ δ1 δ2 δ3 : List (Option T)} {e e1 e2 e3 : Expr} {d1 d2 : D} {ds : List D} {pos p2 pp : Pos} {n m : Nat} {i : Nat} {x : Str} {t : T} {fY : List Stmt} {DD : cM}
theorem Pg (hu : X.A.units + 64 < cLine) : pQ X (compareOp .Eq) (fun x y H Q => ∃ a c, bz X.K CL H a x /\ bz X.K CL H c y /\ iz 60 a /\ iz 60 c /\ Q (.bl (Dq a c)) H) := by
 intro pins s σ H x y v u Q I rx ry h
 obtain ⟨a, c, ra, rc, da, dc, q⟩ := h
 obtain ⟨as, r1⟩ := vg I da ra rx
 obtain ⟨bs, r2⟩ := vg I dc rc ry
 exact SeqAt.rcAt_reads r1 r2 da.lay.1 dc.lay.1 (by have := da.lay.2; omega) X.prog X.w X.xe _ ⟨.bl _, H, I, rfl, q⟩
theorem Ph (hu : X.A.units + 64 < cLine) : pQ X (compareOp .NotEq) (fun x y H Q => ∃ a c, bz X.K CL H a x /\ bz X.K CL H c y /\ iz 60 a /\ iz 60 c /\ Q (.bl (!Dq a c)) H) := by
 intro pins s σ H x y v u Q I rx ry h
 obtain ⟨a, c, ra, rc, da, dc, q⟩ := h
 obtain ⟨as, r1⟩ := vg I da ra rx
 obtain ⟨bs, r2⟩ := vg I dc rc ry
 exact SeqAt.rcNeAt_reads r1 r2 da.lay.1 dc.lay.1 (by have := da.lay.2; omega) X.prog X.w X.xe _ ⟨.bl _, H, I, rfl, q⟩
theorem Sv {op : CmpOp} {f : Bool -> Bool} (ho : pQ X (compareOp op) (fun x y H Q => ∃ a c, bz X.K CL H a x /\ bz X.K CL H c y /\ iz 60 a /\ iz 60 c /\ Q (.bl (f (Dq a c))) H)) (h1 : cD X CL b e1 δ d1 δ1) (h2 : cD X CL b e2 δ1 d2 δ2) (k1 : iz 60 d1) (k2 : iz 60 d2)
   (hm : behindInMarks op e2 = false) : mS X CL b (.Compare e1 [op] [e2] pos) δ (f (Dq d1 d2)) δ2 /\ cj X CL b (.Compare e1 [op] [e2] pos) δ (.sh (.bl (f (Dq d1 d2)))) δ2 := by
 constructor
 . intro H Z σ ts vs Q S k
   refine Dh (qv ho eT eT hm) (h1 H Z σ ts vs _ S fun v1 H1 Z1 z1 Wh S1 r1 => h2 H1 Z1 σ ts vs _ S1 fun v2 H2 Z2 z2 Sw S2 r2 => ?_)
   exact ⟨d1, d2, r1.mono Sw, r2, k1, k2, _, rfl, k H2 Z2 (z1.trans z2) (Wh.trans Sw) S2⟩
 . intro H Z σ ts vs Q S k
   refine c9 (qu ho eT eT hm) (h1 H Z σ ts vs _ S fun v1 H1 Z1 z1 Wh S1 r1 => h2 H1 Z1 σ ts vs _ S1 fun v2 H2 Z2 z2 Sw S2 r2 => ?_)
   exact ⟨d1, d2, r1.mono Sw, r2, k1, k2, k _ H2 Z2 (z1.trans z2) (Wh.trans Sw) (S2.push (.bl _))⟩
theorem Pj (hu : X.A.units + 64 < cLine) (h1 : cD X CL b e1 δ d1 δ1) (h2 : cD X CL b e2 δ1 d2 δ2) (k1 : iz 60 d1) (k2 : iz 60 d2) : mS X CL b (.Compare e1 [.Eq] [e2] pos) δ (Dq d1 d2) δ2 /\ cj X CL b (.Compare e1 [.Eq] [e2] pos) δ (.sh (.bl (Dq d1 d2))) δ2 :=
 Sv (f := fun b => b) (Pg hu) h1 h2 k1 k2 (iu _)
theorem vh (hu : X.A.units + 64 < cLine) (h1 : cD X CL b e1 δ d1 δ1) (h2 : cD X CL b e2 δ1 d2 δ2) (k1 : iz 60 d1) (k2 : iz 60 d2) : mS X CL b (.Compare e1 [.NotEq] [e2] pos) δ (!Dq d1 d2) δ2 /\ cj X CL b (.Compare e1 [.NotEq] [e2] pos) δ (.sh (.bl (!Dq d1 d2))) δ2 :=
 Sv (f := fun b => !b) (Ph hu) h1 h2 k1 k2 (iu _)
def cutD {α : Type} (xs : List α) (lo hi : Option Int) : List α := (xs.drop (HT.qi xs.length 0 lo)).take (HT.qi xs.length xs.length hi - HT.qi xs.length 0 lo)
theorem aD.drop {K : PySem.W.Frag} {Z : Hp} : ∀ {ds : List L3.D} {vs : List V} (n : Nat), aD K CL Z ds vs -> aD K CL Z (ds.drop n) (vs.drop n)
 | _, _, 0, r => r
 | _, _, _ + 1, .nil => .nil
 | _, _, n + 1, .cons _ t => aD.drop n t
theorem aD.take {K : PySem.W.Frag} {Z : Hp} : ∀ {ds : List L3.D} {vs : List V} (n : Nat), aD K CL Z ds vs -> aD K CL Z (ds.take n) (vs.take n)
 | _, _, 0, _ => .nil
 | _, _, _ + 1, .nil => .nil
 | _, _, n + 1, .cons r t => .cons r (aD.take n t)
theorem aD.cut {K : PySem.W.Frag} {Z : Hp} {ds : List L3.D} {vs : List V} (r : aD K CL Z ds vs) (lo hi : Option Int) : aD K CL Z (cutD ds lo hi) (Dd vs lo hi) := by
 unfold cutD Dd
 rw [r.length]
 exact (r.drop _).take _
theorem zg : ∀ {ds : List L3.D}, D.bM ds = true -> ∀ d ∈ ds, d.jd = true
 | [], _, _, h => by cases h
 | d :: ds, k, e, h => by
   rw [D.bM, abt] at k
   rcases aaH.mp h with h | h
   . subst h; exact k.1
   . exact zg k.2 e h
theorem mW : ∀ {ds : List L3.D}, (∀ d ∈ ds, d.jd = true) -> D.bM ds = true
 | [], _ => rfl
 | d :: ds, h => by rw [D.bM, h d aaP, mW fun e he => h e (aaM _ he)]; rfl
theorem Jl {α : Type} {xs : List α} {lo hi : Option Int} {x : α} (h : x ∈ cutD xs lo hi) : x ∈ xs := List.mem_of_mem_drop (List.mem_of_mem_take h)
def Ri (X : Cx) (CL : Str -> Addr) (b : Bx) (e : Option Expr) (δ : List (Option T)) (k : Option Int) (δ' : List (Option T)) : Prop :=
 ∃ t, PO X e t /\ ∀ (H Z : Hp) (σ : L2.St) (ts : List T) (vs : List V) (Q : Option Int -> Hp -> Prop), bT X.K CL b H Z δ σ ts vs -> (∀ H' Z', aA Z Z' -> aA H H' -> bT X.K CL b H' Z' δ' σ ts vs -> Q k H') -> t σ H Q
theorem vm : Ri X CL b none δ none δ := ⟨_, IQ, fun H Z σ ts vs Q S k => k H Z (.refl _) (.refl _) S⟩
theorem vn {k : Int} (h : cD X CL b e δ (.int k) δ1) : Ri X CL b (some e) δ (some k) δ1 := ⟨_, IU eT, fun H Z σ ts vs Q S kk => h H Z σ ts vs _ S fun v H1 Z1 z1 k1 S1 r => ⟨k, r.sc rfl, kk H1 Z1 z1 k1 S1⟩⟩
theorem zj {lo hi : Option Expr} {l h : Option Int} (h1 : cD X CL b e δ (.lst ds) δ1) (YZ : D.bM ds = true) (h2 : Ri X CL b lo δ1 l δ2) (h3 : Ri X CL b hi δ2 h δ3) : cj X CL b (.Subscript e (.Slice lo hi none p2) pos) δ (.lst ((cutD ds l h).map T.sh)) δ3 := fun H Z σ ts vs Q S k => by
 obtain ⟨t2, Wi, w2⟩ := h2
 obtain ⟨t3, Wj, w3⟩ := h3
 refine c9 (yN IV eT Wi Wj) (h1 H Z σ ts vs _ S fun v H1 Z1 z1 k1 S1 r => w2 H1 Z1 σ ts vs _ S1 fun H2 Z2 z2 k2 S2 => w3 H2 Z2 σ ts vs _ S2 fun H3 Z3 z3 k3 S3 => ?_)
 have r' := r.mono (k2.trans k3)
 cases r' with
 | lst hq rr =>
   refine ⟨_, _, rfl, hq, fun p hp => ?_⟩
   have rc := aD.jd S3.tp (mW fun d hd => zg YZ d (Jl hd)) (rr.cut l h)
   obtain ⟨c, S4⟩ := (bT.rE rc S3).oz (g0 := []) (by simp [rc.length]) hp
   exact k _ _ _ (z1.trans (z2.trans z3)) (k1.trans (k2.trans (k3.trans c))) S4
theorem Dr (hm : X.mg "tuple" = none) (h : cD X CL b e δ (.lst ds) δ1) (hi : D.bM ds = true) (hg : Gl X "tuple") (hs : starEach [e] X.env = (false, eval e X.env) :: starEach [] X.env := by exact cz rfl) : cj X CL b (.Call (.Name "tuple" pp) [e] [] pos) δ (.sh (.tup ds)) δ1 := fun H Z σ ts vs Q S k =>
 c9 (kI tY hg hm za (cO eT fX hs) (he := hs)) (h H Z σ ts vs _ S fun v H1 Z1 z1 k1 S1 r => by
   cases r with
   | lst hq rr =>
     refine ⟨_, _, rfl, .inl ⟨hq, fun l hl => ?_⟩⟩
     obtain ⟨a, c, S2⟩ := (bT.rE (aD.jd S1.tp hi rr) S1).E4 (by simp [rr.length]) hl
     obtain ⟨Z3, z3, S3⟩ := S2.E2
     rw [T.cW, gj] at S3
     exact k _ _ Z3 (z1.trans (a.trans z3)) (k1.trans c) S3)
theorem lV {tl Ji : List T} {pa pb : Pos} (n : Vn X i x) (h0 : δ[i]? = some (some (.lst Ji))) (h : cj X CL b e δ t δ1) (h1 : δ1[i]? = some (some (.lst tl))) (hl : tl.length <= 1000000) (k : fD X CL b fY (δ1.set i (some (.lst (tl ++ [t])))) DD)
   (yQ : attributeBase (.Name x pp) "append" X.env (eval (.Name x pp) X.env) = eval (.Name x pp) X.env := by rfl)
   (EW : ((backTo pb (starEach [e] X.env)).all (fun x => !x.1) && (backToKw pb (keywordEach [] X.env)).all (fun x => x.1.isSome) && decide ([e].length + ([] : List Keyword).length + (if ([] : List Keyword).isEmpty then 0 else 1) < 30)) = true := by rfl)
   (hline : (pa.endLine == pb.line) = true := by rfl) (hs : starEach [e] X.env = (false, eval e X.env) :: starEach [] X.env := by exact cz rfl) (vf : swapsWith (.Call (.Attribute (.Name x pp) "append" pa) [e] [] pb) none pos.line X.env = pure false := by rfl) :
   fD X CL b (.Expr (.Call (.Attribute (.Name x pp) "append" pa) [e] [] pb) pos :: fY) δ DD :=
 eu (O6 i h0 h h1 (Nat.lt_of_le_of_lt hl (by rw [abe]; decide)) k n.hi n.hv n.hd n.iL yQ EW hline hs vf)
theorem M9 {tl : List T} {k : Int} {j : Nat} {ps : Pos} (n : Vn X i x) (h : cj X CL b e δ t δ1) (h2 : cD X CL b e2 δ1 (.int k) δ1) (h1 : δ1[i]? = some (some (.lst tl))) (hk : De tl.length k = some j) (kk : fD X CL b fY (δ1.set i (some (.lst (tl.set j t)))) DD)
   (ha : ∀ v, assign (.Subscript (.Name x pp) e2 ps) X.env v = (do
     let ov ← holding [v] (eval (.Name x pp) X.env)
     let iv ← holding [v, ov] (eval e2 X.env)
     standAt ps
     holding [v, ov, iv] (setItem ov iv v)
     release [v, ov, iv] []) := by intro _; rfl)
   (hs : swapsWithSole [.Subscript (.Name x pp) e2 ps] e pos.line X.env = pure false := by rfl) (hw : swappedStores [.Subscript (.Name x pp) e2 ps] e X.env = pure none := by rfl) (Y0 : (assignEach [.Subscript (.Name x pp) e2 ps] X.env).map (·.2) = [assign (.Subscript (.Name x pp) e2 ps) X.env] := by rfl) :
   fD X CL b (.Assign [.Subscript (.Name x pp) e2 ps] e pos :: fY) δ DD := by
 refine eu fun H Z σ ts vs E S M => yT (N4 eT (N3 (mz n.hi n.hv n.hd n.iL) eT set_list ha) hs hw Y0) (h H Z σ ts vs _ S fun v H1 Z1 z1 k1 S1 => ?_)
 have hj : j < tl.length := (uT hk).2.1
 obtain ⟨v0, e0, _⟩ := S1.look h1
 refine ⟨v0, e0, ?_⟩
 refine h2 H1 Z1 σ _ _ _ S1 fun v2 H2 Z2 z2 k2 S2 r2 => ?_
 obtain ⟨a, us, ea, E3, hu, S3⟩ := S2.setAt h1 hj
 rw [e0] at ea
 cases ea
 exact ⟨a, us, k, j, rfl, r2.sc rfl, E3, by rw [hu]; exact hk, M.nx _ σ _ Z2 (z1.trans z2) S3 kk⟩
theorem bV {n : Nat} (hn : ds.length = n) (hm : X.mg "len" = none) (h : cD X CL b e δ (.lst ds) δ1) (hg : Gl X "len") (hs : starEach [e] X.env = (false, eval e X.env) :: starEach [] X.env := by exact cz rfl) : cj X CL b (.Call (.Name "len" pp) [e] [] pos) δ (.sh (.int n)) δ1 := by
 subst hn
 exact B8 hm h hg hs
theorem dN (h : cj X CL b e δ (.lst (ds.map T.sh)) δ1) : cD X CL b e δ (.lst ds) δ1 := by
 have := MY h
 rwa [T.cW, gj] at this
end
theorem f6 {α : Type} {f : α -> D} {l : List α} {k : Int} (z : α) (h0 : 0 <= k) (h1 : k < l.length) : rC (l.map f) k = some (f (l.getD k.toNat z)) := by
 obtain ⟨j, rfl⟩ : ∃ j : Nat, k = j := ⟨k.toNat, by omega⟩
 refine gf ?_
 have hl : j < l.length := by omega
 rw [abn, aa3 hl]
 simp [List.getD, hl]
theorem Ff {α β : Type} {f : α -> β} {l : List α} {lo hi : Option Int} : cutD (l.map f) lo hi = (cutD l lo hi).map f := by
 unfold cutD
 rw [aaK, List.map_take, List.map_drop]
theorem iQ {α : Type} {f : α -> D} (h : ∀ a, (f a).jd = true) : ∀ (l : List α), D.bM (l.map f) = true
 | [] => rfl
 | a :: l => by rw [aa8, D.bM, h a, iQ h l]; rfl
section
variable {X : Cx} {CL : Str -> Addr} {b : Bx} {δ δ1 δ2 δ3 : List (Option T)} {e e1 e2 e3 : Expr} {es : List Expr} {d d1 d2 : D} {ds : List D} {pos p2 pp : Pos} {n m : Nat} {i : Nat} {x : Str} {t : T} {fY : List Stmt} {DD : cM}
theorem Jm {k : Int} {u : Tok} (hm : X.mg x = some (.int k u)) (hg : Gl X x) (hd : (x == ("__debug__" : Str)) = false := by decide) : cj X CL b (.Name x pos) δ (.sh (.int k)) δ := fun H Z σ ts vs Q S kk =>
 c9 (Iu (v := .int k) hg hm ⟨u, rfl⟩ hd) (kk _ H Z (.refl _) (.refl _) (S.push (.int k)))
theorem rK {k : Int} (hm : ∃ u, X.mg x = some (.int k u)) (hg : Gl X x) (hd : (x == ("__debug__" : Str)) = false := by decide) : cj X CL b (.Name x pos) δ (.sh (.int k)) δ := by
 obtain ⟨u, hm⟩ := hm
 exact Jm hm hg hd
theorem vE (n : Vn X i x) (h : δ[i]? = some (some t)) (e : t.cW = d) : cD X CL b (.Name x pos) δ d δ := e ▸ vB n h
theorem vo (x : Str) : ∀ l : List Str, MR (.str x) (l.map V.str) = decide (x ∈ l)
 | [] => by simp [MR]
 | y :: l => by
   have ih := vo x l
   unfold MR at ih ⊢
   rw [aa8, List.any_cons, ih]
   by_cases h : y = x
   . subst h; simp [En]
   . have h' : ¬ x = y := fun e => h e.symm
     simp [En, h, h']
theorem aD.strs {K : PySem.W.Frag} {Z : Hp} : ∀ {l : List Str} {vs : List V}, aD K CL Z (l.map D.str) vs -> vs = l.map V.str
 | [], _, r => by
   have r' : aD K CL Z [] _ := r
   cases r'; rfl
 | y :: l, _, r => by
   have r' : aD K CL Z (D.str y :: l.map D.str) _ := r
   cases r' with
   | cons r1 r2 => rw [r1.sc rfl, aD.strs r2]; rfl
theorem jg : ∀ l : List Str, (l.map V.str).all lU = true
 | [] => rfl
 | y :: l => by rw [aa8, List.all_cons, jg l]; rfl
theorem Sx {l : List Str} (h1 : cD X CL b e1 δ (.str x) δ1) (h2 : cD X CL b e2 δ1 (.tup (l.map .str)) δ2) (hm : behindInMarks .In e2 = false) :
   mS X CL b (.Compare e1 [.In] [e2] pos) δ (decide (x ∈ l)) δ2 /\ cj X CL b (.Compare e1 [.In] [e2] pos) δ (.sh (.bl (decide (x ∈ l)))) δ2 := by
 constructor
 . intro H Z σ ts vs Q S k
   refine Dh (qv kJ eT eT hm) (h1 H Z σ ts vs _ S fun v1 H1 Z1 z1 k1 S1 r1 => h2 H1 Z1 σ ts vs _ S1 fun v2 H2 Z2 z2 k2 S2 r2 => ?_)
   cases r2 with
   | tup hq rr =>
     have e := rr.strs
     subst e
     refine ⟨_, _, rfl, .inr hq, by rw [r1.sc rfl]; rfl, jg l, _, rfl, ?_⟩
     rw [aaE aaL, r1.sc rfl, vo]
     exact k H2 Z2 (z1.trans z2) (k1.trans k2) S2
 . intro H Z σ ts vs Q S k
   refine c9 (qu kJ eT eT hm) (h1 H Z σ ts vs _ S fun v1 H1 Z1 z1 k1 S1 r1 => h2 H1 Z1 σ ts vs _ S1 fun v2 H2 Z2 z2 k2 S2 r2 => ?_)
   cases r2 with
   | tup hq rr =>
     have e := rr.strs
     subst e
     refine ⟨_, _, rfl, .inr hq, by rw [r1.sc rfl]; rfl, jg l, ?_⟩
     rw [aaE aaL, r1.sc rfl, vo]
     exact k _ H2 Z2 (z1.trans z2) (k1.trans k2) (S2.push (.bl _))
theorem Fg {l : List Str} {j : Nat} (h1 : cD X CL b e1 δ (.str x) δ1) (h2 : A0 X CL b es δ1 ((l.map D.str).map T.sh) δ2) (hl : (l.map D.str).length <= sizeLine := by exact aJ rfl) :
   mS X CL b (.Compare e1 [.In] [.Tuple es j p2] pos) δ (decide (x ∈ l)) δ2 /\ cj X CL b (.Compare e1 [.In] [.Tuple es j p2] pos) δ (.sh (.bl (decide (x ∈ l)))) δ2 := Sx h1 (ah (cB h2 hl)) rfl
theorem Jo {p : Bool} (hm : X.mg "int" = none) (h : cD X CL b e δ (.bl p) δ1) (hg : Gl X "int") (hs : starEach [e] X.env = (false, eval e X.env) :: starEach [] X.env := by exact cz rfl) : cj X CL b (.Call (.Name "int" pp) [e] [] pos) δ (.sh (.int (if p then 1 else 0))) δ1 := fun H Z σ ts vs Q S k =>
 c9 (kI C6 hg hm Dp (cO eT fX hs) (he := hs)) (h H Z σ ts vs _ S fun v H1 Z1 z1 k1 S1 r => .inr ⟨p, by rw [r.sc rfl], k _ H1 Z1 z1 k1 (S1.push (.int _))⟩)
def rL : Expr -> Option Str
 | .Constant (.str x) _ _ => some x
 | _ => none
def oF : List Expr -> Option (List Str)
 | [] => some []
 | e :: es => (rL e).bind fun x => (oF es).map (x :: ·)
theorem zk {e : Expr} {x : Str} (h : rL e = some x) : ∃ j p, e = .Constant (.str x) j p := by
 unfold rL at h
 split at h
 . cases h; exact ⟨_, _, rfl⟩
 . cases h
theorem qz : ∀ {es : List Expr} {l : List Str}, oF es = some l -> A0 X CL b es δ ((l.map D.str).map T.sh) δ
 | [], l, h => by
   have e : l = [] := (aaY h).symm
   subst e
   exact eK
 | e :: es, l, h => by
   rw [oF] at h
   obtain ⟨x, hx, h⟩ := Option.bind_eq_some_iff.mp h
   obtain ⟨l', hl, rfl⟩ := Option.map_eq_some_iff.mp h
   obtain ⟨j, p, rfl⟩ := zk hx
   exact gk bO (qz hl)
end
theorem Fi {α : Type} {l : List α} {k : Int} (z : α) (h0 : 0 <= k) (h1 : k < l.length) : rC l k = some (l.getD k.toNat z) := by
 obtain ⟨j, rfl⟩ : ∃ j : Nat, k = j := ⟨k.toNat, by omega⟩
 refine gf ?_
 have hl : j < l.length := by omega
 rw [aa3 hl]
 simp [List.getD, hl]
theorem str_len (x y : Str) : (x ++ y).length = x.length + y.length := by
 show (x.cps ++ y.cps).size = _
 rw [Array.size_append]; rfl
theorem oG (x y : Str) (h1 : PyData.strOk x = true) (h2 : PyData.strOk y = true) : PyData.strOk (x ++ y) = true := by
 unfold PyData.strOk at *
 show (x.cps ++ y.cps).all _ = true
 rw [Array.all_append, h1, h2]; rfl
theorem pX (l : List Int) : T.dH ((l.map D.int).map T.sh) = true := by
 rw [abx]
 induction l with
 | nil => rfl
 | cons i r ih => rw [aa8, T.dH, ih]; rfl
section
variable {X : Cx} {tg : Expr}
end
section
variable {X : Cx} {CL : Str -> Addr} {b : Bx} {δ δ1 : List (Option T)} {e : Expr} {ds : List D} {tg : Expr} {pr pc : Pos}
end
section
variable {K : PySem.W.Frag} {CL : Str -> Addr} {b : Bx} {H Z : Hp} {δ : List (Option T)} {σ : L2.St} {ts tt : List T} {vs : List V} {t : T}
end
section
variable {X : Cx} {CL : Str -> Addr} {b : Bx} {δ : List (Option T)} {tt : List T} {t : T} {i : Nat} {x : Str} {pp pc ps : Pos} {kj : Nat}
end
section
variable {X : Cx} {CL : Str -> Addr} {b : Bx} {δ δ1 : List (Option T)} {e : Expr} {ds : List D} {t : T} {i : Nat} {x : Str} {pos pp p2 : Pos} {kj : Nat}
theorem Y3 (n : Vn X i x) (h : δ[i]? = some (some (.lst (ds.map T.sh)))) : cj X CL b (.Name x pos) δ (.sh (.lst ds)) (δ.set i (some (.sh (.lst ds)))) := by
 have := vF (CL := CL) (b := b) (pos := pos) n h
 rwa [T.cW, gj] at this
end
section
variable {K : PySem.W.Frag} {CL : Str -> Addr} {b : Bx} {H H' Z Z' : Hp} {δ δ' : List (Option T)} {σ σ' : L2.St} {ts tl : List T} {vs us : List V} {t : T} {v : V}
theorem iN.get : ∀ {fs : List (Str × D)} {gs : List (Str × V)} {f : Str} {d : D}, iN K CL Z fs gs -> fs.lookup f = some d -> ∃ v, gs.lookup f = some v /\ bz K CL Z d v
 | _, _, _, _, .nil, e => by simp at e
 | _, _, f, d, .cons (x := x) r t, e => by
   rw [aa7] at e ⊢
   cases h : f == x with
   | true => rw [h] at e; cases e; exact ⟨_, rfl, r⟩
   | false => rw [h] at e; exact iN.get t e
def t7 (f : Str) (t : T) : List (Str × T) -> List (Str × T)
 | [] => [(f, t)]
 | (g, x) :: r => if g = f then (g, t) :: r else (g, x) :: t7 f t r
theorem bQ.length : ∀ {fs : List (Str × T)} {gs : List (Str × V)} {fp : List Addr}, bQ K CL H Z fs gs fp -> fs.length = gs.length
 | _, _, _, .nil => rfl
 | _, _, _, .cons _ r => by rw [aaZ, aaZ, bQ.length r]
theorem bQ.put {f : Str} {g : List Addr} (q : cy K CL H Z t v g) : ∀ {fs : List (Str × T)} {gs : List (Str × V)} {fp : List Addr}, bQ K CL H Z fs gs fp →
   ∃ Ca f', bQ K CL H Z (t7 f t fs) (gK f v gs) Ca /\ f'.Sublist fp /\ Ca.Perm (g ++ f')
 | _, _, _, .nil => ⟨g ++ [], [], .cons q .nil, abb _, acm _⟩
 | _, _, _, .cons (x := x) (fp := fp) (gp := gp) r rs => by
   rw [t7, gK]
   by_cases h : x = f
   . rw [aaF h, aaF h]
     exact ⟨g ++ gp, gp, .cons q rs, abC _ _, acm _⟩
   . rw [aaE h, aaE h]
     obtain ⟨p, p', h1, h2, h3⟩ := bQ.put (f := f) q rs
     refine ⟨fp ++ p, fp ++ p', .cons r h1, abd (abb _) h2, (abr fp h3).trans ?_⟩
     rw [← aaG, ← aaG]
     exact abl.append_right p'
theorem bT.Pk {a : Addr} {o : HO} {Ca gp fp O5 : List Addr} {δ2 : List (Option T)} (hm : gi o = false) (S : bT K CL b H Z δ σ ts vs) (own : ∀ c ∈ fp ++ gp, Z c = none /\ b.B c = none) (ha : a ∈ fp ++ gp)
   (e' : ef K CL (upd H a o) Z δ2 σ Ca) (r' : aL K CL (upd H a o) Z tl us O5) (pm : (Ca ++ O5).Nodup) (sub : ∀ c ∈ Ca ++ O5, c ∈ fp ++ gp) :
   bT K CL b (upd H a o) Z δ2 σ tl us := by
 have oa := own a ha
 refine ⟨⟨_, _, e', r', pm, fun c hc => own c (sub c hc)⟩, fun c u q => ?_, S.zz, fun c u q => ?_, S.new, fun c u q i => ?_, S.tab⟩
 . rw [av (aC q oa.2)]; exact S.bh c u q
 . rw [av (aC q oa.1)]; exact S.zh c u q
 . by_cases hc : c = a
   . subst hc; rw [aN] at q; cases q; rw [hm] at i; cases i
   . rw [av hc] at q; exact S.tp c u q i
theorem bT.setField {i : Nat} {x : Addr} {c f : Str} {fs : List (Str × T)} (S : bT K CL b H Z δ σ (t :: ts) (v :: vs)) (hi : δ[i]? = some (some (.pin x (.ins c fs)))) :
   ∃ dx gs, σ[i]? = some (some (.ref x)) /\ H x = some (.ins (CL c) dx gs) /\ gs.length = fs.length /\ bT K CL b (upd H x (.ins (CL c) dx (gK f v gs))) Z (δ.set i (some (.pin x (.ins c (t7 f t fs))))) σ ts vs := by
 obtain ⟨fp, gp, e, r, nd, k⟩ := S.rep
 obtain ⟨v0, f1, f2, f3, hv, qy, rt, put, _⟩ := e.get hi
 subst qy
 cases rt with
 | pin rt =>
 cases rt with
 | @ins a dx _ gs _ g ha rs =>
   cases r with
   | @cons _ _ _ _ ft gr q1 q2 =>
     have ne : ∀ c ∈ (f1 ++ (g ++ f3)) ++ (ft ++ gr), c ≠ x := fun c hc e => by
       subst e
       have hp : ((f1 ++ ((c :: g) ++ f3)) ++ (ft ++ gr)).Perm (c :: ((f1 ++ (g ++ f3)) ++ (ft ++ gr))) := by
         rw [aa6, ← aa6]
         exact (List.perm_middle.append_right _)
       exact (abT.mp (hp.nodup_iff.mp nd)).1 hc
     refine ⟨dx, gs, hv, ha, rs.length.symm, ?_⟩
     have Y4 := q1.mono (H' := upd H x (.ins (CL c) dx (gK f v gs))) (.refl _) fun c hc => av (ne c (by simp [hc]))
     have Y5 := rs.mono (H' := upd H x (.ins (CL c) dx (gK f v gs))) (.refl _) fun c hc => av (ne c (by simp [hc]))
     obtain ⟨p, p', h1, h2, h3⟩ := bQ.put (f := f) Y4 Y5
     have r1 : cy K CL (upd H x (.ins (CL c) dx (gK f v gs))) Z (.pin x (.ins c (t7 f t fs))) (.ref x) (x :: p) := .pin (.ins aN h1)
     have e2 := put (H' := upd H x (.ins (CL c) dx (gK f v gs))) (.refl _) (fun c hc => av (ne c (by
       rcases aaS.mp hc with h | h
       . simp [h]
       . simp [h]))) r1
     rw [rH hv] at e2
     have hp : ((f1 ++ ((x :: p) ++ f3)) ++ gr).Perm ((f1 ++ ((x :: p') ++ f3)) ++ (ft ++ gr)) := by
       have h4 : ((f1 ++ ((x :: p) ++ f3)) ++ gr).Perm ((f1 ++ ((x :: (ft ++ p')) ++ f3)) ++ gr) := ((h3.cons x).append_right f3).append_left f1 |>.append_right gr
       refine h4.trans ?_
       simp only [aa6, aaG]
       refine abr f1 (List.Perm.cons x ?_)
       have := (abl (l₁ := ft) (l₂ := p' ++ f3)).append_right gr
       simp only [aaG] at this
       exact this
     have sb : ((f1 ++ ((x :: p') ++ f3)) ++ (ft ++ gr)).Sublist ((f1 ++ ((x :: g) ++ f3)) ++ (ft ++ gr)) :=
       abd (abd (abb _) (abd (List.Sublist.cons₂ x h2) (abb _))) (abb _)
     exact S.Pk rfl k (by simp) e2 (q2.mono (.refl _) fun c hc => av (ne c (by simp [hc]))) (hp.nodup_iff.mpr (nd.sublist sb)) fun c hc => sb.subset (hp.mem_iff.mp hc)
end
section
variable {X : Cx} {CL : Str -> Addr} {b : Bx} {δ δ1 δ2 : List (Option T)} {e : Expr} {es : List Expr} {t : T} {d : D} {c f x : Str} {fs : List (Str × D)} {pos pp : Pos} {DD : cM} {i : Nat}
theorem iA (hc : tS X.K (CL c)) (n : aV X.K (CL c) f) (h : cD X CL b e δ (.ins c fs) δ1) (hl : fs.lookup f = some d) (hb : attributeBase e f X.env (eval e X.env) = eval e X.env := by rfl) :
   cD X CL b (.Attribute e f pos) δ d δ1 := fun H Z σ ts vs Q S k =>
 c9 (EH eT hb) (h H Z σ ts vs _ S fun v H' Z' z s S' r => by
   cases r with
   | @ins a dx _ gs _ ha rf =>
     obtain ⟨w, hw, Ot⟩ := rf.get hl
     exact ⟨a, CL c, dx, gs, w, rfl, ha, hc, n, hw, k w H' Z' z s S' Ot⟩)
theorem Fj (hc : tS X.K (CL c)) (n : aV X.K (CL c) f) (h : cj X CL b e δ (.sh (.ins c fs)) δ1) (hl : fs.lookup f = some d) (hb : attributeBase e f X.env (eval e X.env) = eval e X.env := by rfl) :
   cj X CL b (.Attribute e f pos) δ (.sh d) δ1 := fun H Z σ ts vs Q S k =>
 c9 (EH eT hb) (h H Z σ ts vs _ S fun v H' Z' z s S' => by
   obtain ⟨fp, gp, _, r, _, _⟩ := S'.rep
   cases r with
   | cons r _ =>
     cases r with
     | sh r =>
       cases r with
       | @ins a dx _ gs _ ha rf =>
         obtain ⟨w, hw, Ot⟩ := rf.get hl
         exact ⟨a, CL c, dx, gs, w, rfl, S'.zh _ _ ha, hc, n, hw, k w H' Z' z s (S'.pop.push Ot)⟩)
theorem mX {fY : List Stmt} {a : Addr} {gs : List (Str × T)} {pa pb pc : Pos} (hc : tS X.K (CL c)) (n : aV X.K (CL c) f) (nm : Vn X i x) (h : cj X CL b e δ t δ1) (h1 : δ1[i]? = some (some (.pin a (.ins c gs)))) (hl : gs.length < 1000)
   (k : fD X CL b fY (δ1.set i (some (.pin a (.ins c (t7 f t gs))))) DD) (hs : swapsWith e (some (.Attribute (.Name x pa) f pb)) pc.line X.env = pure false := by rfl) :
   fD X CL b (.Assign [.Attribute (.Name x pa) f pb] e pc :: fY) δ DD := eu fun H Z σ ts vs E S M =>
 yT (Oj (mz nm.hi nm.hv nm.hd nm.iL) eT hs) (h H Z σ ts vs _ S fun v H' Z' z s S' => by
   obtain ⟨dx, ws, hv, hx, hlen, S2⟩ := S'.setField (f := f) h1
   exact ⟨.ref a, hv, a, CL c, dx, ws, rfl, hx, hc, n, by rw [hlen]; exact hl, M.nx _ σ _ Z' z S2 k⟩)
end
def Sy (K : PySem.W.Frag) (CL : Str -> Addr) {A : Type} (c : Str) (n : Nat) (arg : A -> List D) (Pre : A -> Prop) (res : A -> List (Str × T)) : Sp := fun vs H Q _ =>
 ∃ (W H0 : Hp) (a : A) (x dx : Addr) (us : List V), vs = .ref x :: us /\ H0 x = none /\ H0 dx = none /\ dx ≠ x /\ H = upd (upd H0 dx (.own x)) x (.ins (CL c) dx []) ∧
   aA W H0 /\ (∀ c o, H0 c = some o -> gi o = true -> W c = some o) /\ aD K CL W (arg a) us /\ (arg a).length + 1 = n /\ Pre a /\ jc CL W ∧
   ∀ H' W' fp, aA H0 H' -> aA W W' -> aA W' H' -> (∀ c o, W' c = some o -> W c = none -> H0 c = none) -> (∀ c o, H' c = some o -> gi o = true -> W' c = some o) →
     cy K CL H' W' (.ins c (res a)) (.ref x) fp -> fp.Nodup -> (∀ c ∈ fp, W' c = none /\ H0 c = none) -> Q .non H'
section
variable {X : Cx} {CL : Str -> Addr} {b : Bx} {δ δ1 δ2 : List (Option T)} {e o : Expr} {es : List Expr} {pos pp apos : Pos}
variable {A : Type} {k n : Nat} {f : Addr} {fd : FuncData} {ps : List Str} {arg : A -> List D} {Pre : A -> Prop} {x c m : Str}
theorem Jp {res : A -> List (Str × T)} (a : A) (M : Mk X.K (CL c) f) (F : bL X.prog X.w X.K X.mg X.base fL k f fd ps (Sy X.K CL c n arg Pre res)) (hr : dR (k + 1) X.A) (hm : X.mg x = some (.ref (CL c))) (hb : Binds X.K fd ps [])
   (h : MX X CL b (e :: es) δ (arg a) δ1) (hn : (arg a).length + 1 = n) (hp : Pre a) (hc : T.aW (res a) = true) (hg : Gl X x)
   (tV : (x == ("__debug__" : Str)) = false := by decide) (he : starEach (e :: es) X.env = (false, eval e X.env) :: starEach es X.env := by exact cz rfl) (tW : (backTo pos (starEach es X.env)).any (·.1) = false := by rfl) :
   cj X CL b (.Call (.Name x pp) (e :: es) [] pos) δ (.ins c (res a)) δ1 := fun H Z σ ts vs Q S kk =>
 c9 (B3 M F hr hg hm hb .nil B6 Ja tV he tW) (h H Z σ ts vs _ S fun us H1 Z1 z1 k1 S1 r x dx hx Sz ne => by
   rw [abq]
   refine ⟨H1, H1, a, x, dx, us, rfl, hx, Sz, ne, rfl, .refl _, fun _ _ q _ => q, r, hn, hp, S1.Dk, fun H' W' fp hh ww wh nw tp rt nd own => ⟨rfl, ?_⟩⟩
   obtain ⟨Z', z', S'⟩ := S1.back hh S1.zh ww wh nw tp rt nd own (.inr (by rw [T.clean]; exact hc))
   exact kk _ H' Z' (z1.trans z') (k1.trans hh) S')
end
theorem Cb {P : Program} {w : World} {K : PySem.W.Frag} {mg : Str -> Option Value} {base : Heap} {CL : Str -> Addr} {x qual c : Str} {st : Stmt} {f : Addr} {fd : FuncData} {N ps : List Str} {k : Nat} {A : Type} {arg : A -> List D} {Pre : A -> Prop} {res : A -> List (Str × T)} (F : iM K x qual st f fd) (S : aK N ps (ao st))
   (hb : ∀ (cS : Value) (Ar : Around) (outer : List Env) (s : Shared) (H : Hp) (E : XK) (b : Bx) (a : A) (y : Addr), dR k (Ar.deeper (envOfC qual (ao st) s.heap.objs.size f cS)) -> Pre a →
     fD (rA fL P w K mg base N qual (ao st) f cS Ar outer s H E).Ij CL b (eH st) (some (.pin y (.ins c [])) :: ((arg a).map (fun d => some (T.sh d)) ++ List.replicate (N.length - ((arg a).length + 1)) none))
       { nx := fun δ => δ[0]? = some (some (.pin y (.ins c (res a)))), rt := fun _ _ => False }) :
   bL P w K mg base fL (k + 1) f fd ps (Sy K CL c ps.length arg Pre res) := by
 refine F.ok S (fun vs H Q E h => ?_) (fun cS Ar outer s H vs Q E hr h => ?_)
 . obtain ⟨W, H0, a, y, dx, us, rfl, _, _, _, _, _, _, r, hl, _⟩ := h
   rw [aaZ, ← r.length]; exact hl
 . obtain ⟨W, H0, a, y, dx, us, rfl, hy, Sz, ne, rfl, wh, tp, r, hl, hp, tb, kk⟩ := h
   have old : ∀ {d : Addr} {o : HO}, H0 d = some o -> upd (upd H0 dx (.own y)) y (.ins (CL c) dx []) d = some o := fun {d o} q => by
     rw [av (aC q hy), av (aC q Sz)]; exact q
   refine ⟨_, MT, hb cS Ar outer s _ E ⟨H0, W⟩ a y hr hp _ W _ [] [] _ ⟨⟨[y] ++ [], [], ?_, .nil, by simp, fun d hd => ?_⟩, fun d o q => old q, .refl _, fun d o q => old (wh d o q), fun d o q z => ?_, fun d o q i => ?_, tb⟩ ⟨fun δ' σ' H' Z' s' S' e => ?_, fun t v H' Z' δ' σ' s' S' e => e.elim, fun _ _ _ _ _ _ e => e.elim, fun _ _ _ _ _ _ e => e.elim⟩⟩
   . unfold L2.start
     rw [aa8, aaZ, aa6, ← r.length]
     exact .cons (.pin (.ins aN .nil)) (gM _ r)
   . have : d = y := by simpa using hd
     subst this
     exact ⟨OL wh hy, hy⟩
   . have q' : W d = some o := q
     have z' : W d = none := z
     rw [q'] at z'; cases z'
   . by_cases h1 : d = y
     . subst h1; rw [aN] at q; cases q; cases i
     . rw [av h1] at q
       by_cases h2 : d = dx
       . subst h2; rw [aN] at q; cases q; cases i
       . rw [av h2] at q; exact tp d o q i
   . obtain ⟨fp, gp, eE, _, nd, own⟩ := S'.rep
     obtain ⟨v, f1, f2, f3, hv, qy, rt, _, _⟩ := eE.get e
     subst qy
     cases rt with
     | pin rt =>
       refine kk H' Z' f2 S'.bh S'.zz S'.zh S'.new S'.tp rt ?_ fun d hd => own d (by simp [hd])
       have h1 := (abm.mp nd).1
       exact (abm.mp (abm.mp h1).2.1).1
section
variable {X : Cx} {CL : Str -> Addr} {b : Bx} {δ δ1 δ2 : List (Option T)} {e e1 e2 : Expr} {es : List Expr} {t : T} {d : D} {ds Jq : List D} {x : Str} {pos pp : Pos} {DD : cM} {i : Nat} {fY body : List Stmt}
theorem Cd (g : Gx X) (P : Nat -> List (Option T) -> Prop) (m : Nat) (h0 : P m δ)
   (hs : ∀ m δ, P m δ -> ∃ p δ1, mS X CL b e δ p δ1 ∧
     (p = true -> fD X CL b body δ1 { nx := fun δ2 => ∃ m', m' < m /\ P m' δ2, rt := DD.rt, bk := fun δ2 => fD X CL b fY δ2 DD, ct := fun δ2 => ∃ m', m' < m /\ P m' δ2 }) /\ (p = false -> fD X CL b fY δ1 DD)) :
   fD X CL b (.While e body [] pos :: fY) δ DD := eu fun H Z σ ts vs E S M =>
 yT (EA (by rw [g.xe]; exact PassesOwn.never) OJ MT) (by
   refine ⟨fun m σ H => ∃ Z2 δ2, aA Z Z2 /\ bT X.K CL b H Z2 δ2 σ ts vs /\ P m δ2, ⟨m, Z, δ, .refl _, S, h0⟩, ?_⟩
   rintro m σ H ⟨Z2, δ2, z2, S2, p2⟩
   obtain ⟨p, δ3, ht, h1, h2⟩ := hs m δ2 p2
   refine ht H Z2 σ ts vs _ S2 fun H3 Z3 z3 k3 S3 => ?_
   cases p with
   | true =>
     rw [aaF rfl]
     refine ⟨fun σ' H' => ∃ m', m' < m /\ ∃ Z2 δ2, aA Z Z2 /\ bT X.K CL b H' Z2 δ2 σ' ts vs /\ P m' δ2, fun σ' H' q => q, ?_⟩
     refine h1 rfl H3 Z3 σ ts vs _ S3 ⟨fun δ' σ' H' Z' s' S' ⟨m', l, q⟩ => ⟨m', l, Z', δ', z2.trans (z3.trans s'), S', q⟩, fun t v H' Z' δ' σ' s' S' q => M.rt t v H' Z' δ' σ' (z2.trans (z3.trans s')) S' q,
       fun δ' σ' H' Z' s' S' q => M.nx δ' σ' H' Z' (z2.trans (z3.trans s')) S' q, fun δ' σ' H' Z' s' S' ⟨m', l, q⟩ => ⟨m', l, Z', δ', z2.trans (z3.trans s'), S', q⟩⟩
   | false =>
     rw [aaE (by decide)]
     exact M.nx δ3 σ H3 Z3 (z2.trans z3) S3 (h2 rfl))
def SD (K : PySem.W.Frag) : R2 := fun x y H Q => ∃ l b xs zs, x = .ref l /\ y = .ref b /\ mQ K H l xs /\ mQ K H b zs /\ xs.length + zs.length <= sizeLine /\ ∀ p, H p = none -> Q (.ref p) (upd H p (.lst (xs ++ zs)))
theorem Jr : pQ X (binaryOp .Add) (SD X.K) := by
 intro pins s σ H x y v u Q I rx ry h
 obtain ⟨l, b, xs, zs, rfl, rfl, hH, hB, hz, q⟩ := h
 cases rx
 cases ry
 obtain ⟨its, r, pl, _⟩ := I.list hH
 obtain ⟨Pn, r2, Y6, _⟩ := I.list hB
 have e1 := r.length
 have e2 := r2.length
 obtain ⟨⟨c1, dd, Y7, sl⟩, ho, hc, n, hd⟩ := pl.isList
 obtain ⟨⟨c2, Y8, da2, Y9⟩, XE, Pp, n2, hd2⟩ := Y6.isList
 cases hc; cases Pp; cases hd; cases hd2
 refine concat_meets ⟨_, ho, rfl⟩ ⟨_, XE, rfl⟩ noFill_list_add seq_list_add PySem.F.slot_list_add PySem.F.entry_list_add (PySem.F.args_list_add_2 (Value.ref l) (Value.ref b))
   (list_addW l b its.toArray Pn.toArray n n2 dd Y8 sl Y9 (by rw [aa0, aa0]; omega)) ⟨ho, XE, ?_⟩
 have ea : its.toArray ++ Pn.toArray = (its ++ Pn).toArray := by simp
 rw [ea]
 exact ⟨.ref _, _, I.Sb (t' := s.toks) (r.append r2) (by rw [aa1]; omega), rfl, q _ I.fresh⟩
theorem aD.app {K : PySem.W.Frag} {Z : Hp} : ∀ {ds Jq : List L3.D} {vs XF : List V}, aD K CL Z ds vs -> aD K CL Z Jq XF -> aD K CL Z (ds ++ Jq) (vs ++ XF)
 | _, _, _, _, .nil, r2 => r2
 | _, _, _, _, .cons r t, r2 => .cons r (aD.app t r2)
theorem Js (h1 : cD X CL b e1 δ (.lst ds) δ1) (h2 : cD X CL b e2 δ1 (.lst Jq) δ2) (i1 : D.bM ds = true) (i2 : D.bM Jq = true) (hz : ds.length + Jq.length <= sizeLine) :
   cj X CL b (.BinOp e1 .Add e2 pos) δ (.lst ((ds ++ Jq).map T.sh)) δ2 := fun H Z σ ts vs Q S k =>
 c9 (EC Jr eT eT) (h1 H Z σ ts vs _ S fun v1 H1 Z1 z1 k1 S1 r1 => h2 H1 Z1 σ ts vs _ S1 fun v2 H2 Z2 z2 k2 S2 r2 => by
   have OZ := r1.mono k2
   cases OZ with
   | lst Wk Rj =>
     cases r2 with
     | lst Za Wm =>
       refine ⟨_, _, _, _, rfl, rfl, Wk, Za, by rw [← Rj.length, ← Wm.length]; exact hz, fun p hp => ?_⟩
       have rc := aD.app (aD.jd S2.tp i1 Rj) (aD.jd S2.tp i2 Wm)
       obtain ⟨c, S4⟩ := (bT.rE rc S2).oz (g0 := []) (by simp [rc.length, Rj.length, Wm.length]) hp
       exact k _ _ _ (z1.trans z2) (k1.trans (k2.trans c)) S4)
theorem boot_str : bootBuiltins "str" = some (.type "str") := by decide +kernel
theorem Ce {i : Int} (hm : X.mg "str" = none) (hg : Gl X "str") (h : cD X CL b e δ (.int i) δ1) (hi : i.natAbs.log2 < 1920) (hs : starEach [e] X.env = (false, eval e X.env) :: starEach [] X.env := by exact cz rfl) :
   cj X CL b (.Call (.Name "str" pp) [e] [] pos) δ (.sh (.str (toString i))) δ1 := fun H Z σ ts vs Q S k =>
 c9 (kI uS hg hm boot_str (cO eT fX hs) (he := hs)) (h H Z σ ts vs _ S fun v H1 Z1 z1 k1 S1 r => by
   rw [r.sc rfl]
   exact ⟨i, rfl, hi, k _ H1 Z1 z1 k1 (S1.push (.str _))⟩)
end
structure Fm (X : Cx) (CL : Str -> Addr) (x : Str) (k n : Nat) {A : Type} (arg : A -> List D) (Pre : A -> Prop) (res : A -> List (Str × T)) : Prop where
 ex : ∃ f fd ps, Mk X.K (CL x) f /\ bL X.prog X.w X.K X.mg X.base fL k f fd ps (Sy X.K CL x n arg Pre res) /\ X.mg x = some (.ref (CL x)) /\ Binds X.K fd ps []
 room : dR (k + 1) X.A
def Fl (N : List Str) (y : Addr) (c : Str) (ds : List D) : List (Option T) := some (.pin y (.ins c [])) :: (ds.map (fun d => some (T.sh d)) ++ List.replicate (N.length - (ds.length + 1)) none)
section
variable {X : Cx} {CL : Str -> Addr} {b : Bx} {δ δ1 δ2 : List (Option T)} {e e1 e2 o : Expr} {es : List Expr} {d : L3.D} {t : T} {i : Nat} {x c m : Str} {pos pp apos : Pos} {D : cM} {fY : List Stmt} {ds : List L3.D}
theorem Zb {k n : Nat} {A : Type} {arg : A -> List L3.D} {Pre : A -> Prop} {res : A -> List (Str × T)} (a : A) (F : Fm X CL x k n arg Pre res) (hg : Gl X x) (h : MX X CL b (e :: es) δ (arg a) δ1) (hp : Pre a) (hc : T.aW (res a) = true) (hn : (arg a).length + 1 = n := by rfl)
   (tV : (x == ("__debug__" : Str)) = false := by decide) (he : starEach (e :: es) X.env = (false, eval e X.env) :: starEach es X.env := by exact cz rfl) (tW : (backTo pos (starEach es X.env)).any (·.1) = false := by rfl) :
   cj X CL b (.Call (.Name x pp) (e :: es) [] pos) δ (.ins x (res a)) δ1 := by
 obtain ⟨f, fd, ps, M, F1, m, b⟩ := F.ex
 exact Jp a M F1 F.room m b h hn hp hc hg tV he tW
end
theorem mY {α : Type} {f : Str} {d : α} {fs : List (Str × α)} : ((f, d) :: fs).lookup f = some d := by
 rw [aa7, ab9]
theorem fM {α : Type} {f g : Str} {d : α} {fs : List (Str × α)} (h : (f == g) = false) : ((g, d) :: fs).lookup f = fs.lookup f := by
 rw [aa7, h]
theorem eX {f : Str} {t : T} : t7 f t [] = [(f, t)] := rfl
theorem bA {f g : Str} {t u : T} {fs : List (Str × T)} (h : ¬ g = f) : t7 f t ((g, u) :: fs) = (g, u) :: t7 f t fs := by
 rw [t7, aaE h]
section
variable {X : Cx} {CL : Str -> Addr} {b : Bx} {δ δ1 δ2 : List (Option T)} {e1 e2 : Expr} {x : Str} {pos : Pos} {d : L3.D}
theorem vp (x : Int) : ∀ l : List Int, MR (.int x) (l.map V.int) = decide (x ∈ l)
 | [] => by simp [MR]
 | y :: l => by
   have ih := vp x l
   unfold MR at ih ⊢
   rw [aa8, List.any_cons, ih]
   by_cases h : y = x
   . subst h; simp [En]
   . have h' : ¬ x = y := fun e => h e.symm
     simp [En, h, h']
theorem aD.ints {K : PySem.W.Frag} {Z : Hp} : ∀ {l : List Int} {vs : List V}, aD K CL Z (l.map D.int) vs -> vs = l.map V.int
 | [], _, r => by
   have r' : aD K CL Z [] _ := r
   cases r'; rfl
 | y :: l, _, r => by
   have r' : aD K CL Z (D.int y :: l.map D.int) _ := r
   cases r' with
   | cons r1 r2 => rw [r1.sc rfl, aD.ints r2]; rfl
theorem jh : ∀ l : List Int, (l.map V.int).all lU = true
 | [] => rfl
 | y :: l => by rw [aa8, List.all_cons, jh l]; rfl
def Fo (d : L3.D) : Option (List L3.D) := match d with
 | .lst ds => some ds
 | .tup ds => some ds
 | _ => none
theorem bz.Fo {K : PySem.W.Frag} {Z : Hp} {v : V} {ds : List L3.D} (r : bz K CL Z d v) (h : L3.Fo d = some ds) : ∃ p us, v = .ref p /\ (mQ K Z p us \/ AJ K Z p us) /\ aD K CL Z ds us := by
 cases r with
 | tup hq rr => cases h; exact ⟨_, _, rfl, .inr hq, rr⟩
 | lst hq rr => cases h; exact ⟨_, _, rfl, .inl hq, rr⟩
 | non => cases h
 | bl => cases h
 | int => cases h
 | str => cases h
 | any => cases h
 | val => cases h
 | qx => cases h
 | ins => cases h
theorem ji {l : List Int} {i : Int} (h1 : cD X CL b e1 δ (.int i) δ1) (h2 : cD X CL b e2 δ1 d δ2) (hd : L3.Fo d = some (l.map .int)) (hm : behindInMarks .In e2 = false) :
   mS X CL b (.Compare e1 [.In] [e2] pos) δ (decide (i ∈ l)) δ2 /\ cj X CL b (.Compare e1 [.In] [e2] pos) δ (.sh (.bl (decide (i ∈ l)))) δ2 := by
 constructor
 . intro H Z σ ts vs Q S k
   refine Dh (qv kJ eT eT hm) (h1 H Z σ ts vs _ S fun v1 H1 Z1 z1 k1 S1 r1 => h2 H1 Z1 σ ts vs _ S1 fun v2 H2 Z2 z2 k2 S2 r2 => ?_)
   obtain ⟨p, us, rfl, hq, rr⟩ := bz.Fo r2 hd
   have e := rr.ints
   subst e
   refine ⟨_, _, rfl, hq, by rw [r1.sc rfl]; rfl, jh l, _, rfl, ?_⟩
   rw [aaE aaL, r1.sc rfl, vp]
   exact k H2 Z2 (z1.trans z2) (k1.trans k2) S2
 . intro H Z σ ts vs Q S k
   refine c9 (qu kJ eT eT hm) (h1 H Z σ ts vs _ S fun v1 H1 Z1 z1 k1 S1 r1 => h2 H1 Z1 σ ts vs _ S1 fun v2 H2 Z2 z2 k2 S2 r2 => ?_)
   obtain ⟨p, us, rfl, hq, rr⟩ := bz.Fo r2 hd
   have e := rr.ints
   subst e
   refine ⟨_, _, rfl, hq, by rw [r1.sc rfl]; rfl, jh l, ?_⟩
   rw [aaE aaL, r1.sc rfl, vp]
   exact k _ H2 Z2 (z1.trans z2) (k1.trans k2) (S2.push (.bl _))
end
section
variable {X : Cx} {CL : Str -> Addr} {b : Bx} {δ δ1 δ2 : List (Option T)} {e : Expr} {es : List Expr} {d : L3.D} {ds : List L3.D} {t : T} {i : Nat} {x : Str} {pos pp : Pos} {DD : cM} {fY : List Stmt}
theorem bS : A0 X CL b [] δ (([] : List L3.D).map T.sh) δ := eK
theorem aE (h1 : cj X CL b e δ (.sh d) δ1) (h2 : A0 X CL b es δ1 (ds.map T.sh) δ2) (hs : starEach (e :: es) X.env = (false, eval e X.env) :: starEach es X.env := by exact cz rfl) : A0 X CL b (e :: es) δ ((d :: ds).map T.sh) δ2 := gk h1 h2 hs
theorem gZ (h : A0 X CL b es δ (ds.map T.sh) δ1) (hl : ds.length <= sizeLine) : cj X CL b (.List es pos) δ (.lst (ds.map T.sh)) δ1 := eL h (by simpa using hl)
theorem jW (l : List Str) : D.bM (l.map L3.D.str) = true := iQ (fun _ => rfl) _
theorem vq (h : cj X CL b e δ (.lst (ds.map T.sh)) δ1) : cj X CL b e δ (.sh (.lst ds)) δ1 := by
 have := A1 h
 rwa [T.cW, gj] at this
theorem Nb {d2 : L3.D} (h : cD X CL b e δ d δ1) (q : d = d2) : cD X CL b e δ d2 δ1 := q ▸ h
theorem bw {t2 : T} (h : cj X CL b e δ t δ1) (q : t = t2) : cj X CL b e δ t2 δ1 := q ▸ h
end
structure Jt (Z H Z' H' : Hp) : Prop where
 z : aA Z Z'
 h : aA H H'
 zh : aA Z' H'
 new : ∀ a o, Z' a = some o -> Z a = none -> H a = none
 tp : ∀ a o, H' a = some o -> gi o = true -> Z' a = some o
theorem Jt.refl {Z H : Hp} (zh : aA Z H) (tp : ∀ a o, H a = some o -> gi o = true -> Z a = some o) : Jt Z H Z H := ⟨.refl _, .refl _, zh, fun a o q z => (by rw [q] at z; cases z), tp⟩
section
variable {K : PySem.W.Frag} {CL : Str -> Addr} {b : Bx} {H H' Z Z' : Hp} {δ : List (Option T)} {σ : L2.St} {ts : List T} {vs : List V}
def SG (δ : List (Option T)) : List Nat -> List D -> List (Option T)
 | i :: is, d :: ds => SG (δ.set i (some (.sh d))) is ds
 | _, _ => δ
def zl (σ : L2.St) : List Nat -> List V -> L2.St
 | i :: is, v :: vs => zl (σ.set i (some v)) is vs
 | _, _ => σ
end
section
variable {X : Cx} {CL : Str -> Addr} {b : Bx} {δ δ1 : List (Option T)} {ds : List D} {iter tg : Expr} {pos : Pos}
structure vt (X : Cx) (CL : Str -> Addr) (b : Bx) (δ1 : List (Option T)) (σ : L2.St) (ts : List T) (vs : List V) (Z H : Hp) (ds : List D) (J : It) (H1 : Hp) : Prop where
 ex : ∃ Z1, aA Z Z1 /\ aA H H1 /\ bT X.K CL b H1 Z1 δ1 σ ts vs /\ (∀ i H2, aA Z1 H2 -> i < ds.length -> J.go i H2) ∧
   (∀ i Z2 H2 x H', aA Z1 Z2 -> aA Z2 H2 -> (∀ a o, H2 a = some o -> gi o = true -> Z2 a = some o) -> i < ds.length -> J.MK i H2 x H' -> ∃ Z3 d, ds[i]? = some d /\ Jt Z2 H2 Z3 H' /\ bz X.K CL Z3 d x) /\ (∀ H2, aA Z1 H2 -> J.stop ds.length H2)
def U7 (X : Cx) (CL : Str -> Addr) (b : Bx) (tg e : Expr) (δ : List (Option T)) (ds : List D) (δ1 : List (Option T)) : Prop :=
 ∃ wi, PI X tg e wi /\ ∀ (H Z : Hp) (σ : L2.St) (ts : List T) (vs : List V) (R : It -> Hp -> Prop), bT X.K CL b H Z δ σ ts vs -> (∀ J H1, vt X CL b δ1 σ ts vs Z H ds J H1 -> R J H1) -> wi σ H R
theorem Nf (h : M7 X CL b tg iter δ ds δ1) : U7 X CL b tg iter δ ds δ1 := by
 obtain ⟨wi, pi, hw⟩ := h
 refine ⟨wi, pi, fun H Z σ ts vs R S k => hw H Z σ ts vs R S fun J H1 ⟨Z1, us, z1, k1, S1, rr, go, yl, st⟩ => k J H1 ⟨Z1, z1, k1, S1, go, fun i Z2 H2 x H' s1 s2 tp hi hy => ?_, st⟩⟩
 obtain ⟨e, hu⟩ := yl i H2 x H' (s1.trans s2) hi hy
 subst e
 obtain ⟨d, hd, rd⟩ := rr.IZ hu
 exact ⟨Z2, d, hd, .refl s2 tp, rd.mono s1⟩
def XG (X : Cx) (CL : Str -> Addr) (tg : Expr) (is : List Nat) (parts : D -> Option (List D)) : Prop :=
 ∃ t : TG, PG X tg t /\ ∀ (Z H : Hp) (d : D) (ps : List D) (x : V) (σ : L2.St) (Q : L2.St -> Hp -> Prop), aA Z H -> bz X.K CL Z d x -> parts d = some ps -> (∀ ys, aD X.K CL Z ps ys -> Q (zl σ is ys) H) -> t x σ H Q
def part1 (d : D) : Option (List D) := some [d]
theorem Fp {i : Nat} {x : Str} {px : Pos} (hN : X.N.Nodup) (n : Ln X i x) : XG X CL (.Name x px) [i] part1 :=
 ⟨BR i, uR hN n.hi n.loc n.hf, fun Z H d ps x σ Q zh r e k => by
   cases e
   exact k [x] (.cons r .nil)⟩
end
structure jX (X : Cx) (scope : Scope) (xs : List Str) (Nc : List Str) (ix : List Nat) : Prop where
 kind : scope.kind = .function
 oB : ∀ y ∈ scope.names, y.2 ≠ .cell
 nd : Nc.Nodup
 names : ∀ y ∈ scope.names, y.2 = .local -> scope.names.lookup y.1 = some .local
 own : ∀ x ∈ xs, scope.names.lookup x = some .local
 frees : ∀ y ∈ scope.names, y.2 = .free -> scope.names.lookup y.1 = some .free /\ (X.env.kindOf y.1 = some .cell \/ X.env.kindOf y.1 = some .free)
 hd : Nc = xs ++ ix.filterMap (X.N[·]?)
 M6 : ∀ i ∈ ix, ∃ y, X.N[i]? = some y /\ scope.names.lookup y = some .free
def Ds (σ : L2.St) (ix : List Nat) (os : List (Option V)) : L2.St := os ++ ix.map fun i => (σ[i]?).getD none
section
variable {X : Cx} {scope : Scope} {xs : List Str} {Nc : List Str} {ix : List Nat} {pins : List (Addr × Obj)} {σ : L2.St} {H : Hp} {s : Shared}
theorem zm {fp : List Addr} (sc : jX X scope xs Nc ix) (I : Inv X pins σ H s) (qy : ∀ b ∈ fp, gb X pins H b /\ b < s.heap.objs.size) {h' : Heap} {m : Str -> Option Value} {tk : Nat}
   (hn : h'.Ns s.heap.objs.size m) (hk : ∀ b o, s.heap.get? b = some o -> h'.get? b = some o) :
   Inv (cE X scope Nc s.heap.objs.size s H fp) [] (Ds σ ix (List.replicate xs.length none)) H { s with heap := h', toks := tk } := by
 have frees : ∀ y ∈ scope.names, y.2 = .free -> ∃ c, X.env.cells.lookup y.1 = some c := fun y hy e => I.ok.has y.1 (sc.frees y hy e).2
 have sub : ∀ {y : Str} {c : Addr}, (bR X.env scope.names []).lookup y = some c -> X.env.cells.lookup y = some c := fun {y c} e => je frees (fun _ _ z => by cases z) e
 have hlen : (Ds σ ix (List.replicate xs.length none)).length = Nc.length := by
   have all : ∀ l : List Nat, (∀ i ∈ l, ∃ y, X.N[i]? = some y /\ scope.names.lookup y = some .free) -> (l.filterMap (X.N[·]?)).length = l.length := by
     intro l
     induction l with
     | nil => intro _; rfl
     | cons i r ih =>
       intro h
       obtain ⟨y, e, _⟩ := h i aaP
       rw [abA, e]
       show _ + 1 = _ + 1
       rw [ih fun j hj => h j (aaM _ hj)]
   unfold Ds
   rw [sc.hd, aa1, aa1, aaK, abH, all ix sc.M6]
 have C0 : s.heap.get? s.heap.objs.size = none := Heap.get?_none_of_le (aaI _)
 refine ⟨⟨I.ok.mod, sc.kind, I.ok.glob, I.ok.blt, aaI _, fun y z c h1 h2 => I.ok.inj y z c (sub h1) (sub h2), fun y hy => ?_, fun y c hf _ => (by cases (show false = true from hf)), I.ok.hd, I.ok.frames, .inl rfl, fun b hb => ⟨abh (qy b hb).2, fun y c e => (qy b hb).1.2.2.2.2.1 y c (sub e)⟩, I.bs, abo I.ok.Ii I.sz, fun b o e hb => ?_, fun b hb hf => ?_, I.stack, I.uQ⟩,
   rfl, I.bare, Un.kept hk, ⟨m, hn, fun i y v h1 h2 h3 => ?_⟩, fun y c e => ?_, I.c7.fresh (aaI _), fun y c e => I.jP y c (sub e), fun p hp => absurd (show p ∈ ([] : List (Addr × Obj)) from hp) (by simp), I.c7.kept hk, hlen⟩
 . 
   have U8 : (relabel scope X.env).names.lookup y = some .cell \/ (relabel scope X.env).names.lookup y = some .free := hy
   cases e : scope.names.lookup y with
   | none => 
     have := f9 (env := X.env) e
     rcases U8 with q | q <;> (rw [show (relabel scope X.env).names.lookup y = none from this] at q; cases q)
   | some k =>
     have q := dI (env := X.env) e
     have hk : k = .free := by
       by_cases hk : k = .free
       . exact hk
       . have hb : (k == NameKind.free) = false := by simpa using hk
         rw [aaE (by rw [hb]; simp)] at q
         have nc : k ≠ .cell := fun z => by
           subst z
           exact sc.oB _ (aby e) rfl
         rcases U8 with z | z
         . rw [show (relabel scope X.env).names.lookup y = some k from q] at z
           exact absurd (aaY z) nc
         . rw [show (relabel scope X.env).names.lookup y = some k from q] at z
           exact absurd (aaY z) hk
     subst hk
     exact gO e
 . 
   rcases (qy b hb).1.2.2.2.1 with z | z
   . exact I.ok.Eu b o e z
   . exact absurd (aa5 (aaT e) (abo I.ok.Ii z)) (acd _)
 . rcases aaH.mp (I.uP b hf) with z | z
   . exact (qy b hb).1.2.1 z
   . exact (qy b hb).1.2.2.1 z
 . 
   unfold Ds at h2
   by_cases hi : i < xs.length
   . rw [acf (by rw [abH]; exact hi), List.getElem?_replicate, aaF hi] at h2
     cases h2
   . obtain ⟨n, rfl⟩ : ∃ n, i = xs.length + n := ⟨i - xs.length, by omega⟩
     rw [abG (by rw [abH]; omega), abH, Nat.add_sub_cancel_left, abn] at h2
     cases ei : ix[n]? with
     | none => rw [ei] at h2; cases h2
     | some j =>
       rw [ei] at h2
       have Fq : (σ[j]?).getD none = some v := aaY h2
       have hj : σ[j]? = some (some v) := by
         cases q : σ[j]? with
         | none => rw [q] at Fq; cases Fq
         | some o => rw [q] at Fq; exact congrArg some Fq
       obtain ⟨y', SJ, Pq⟩ := sc.M6 j (abu ei)
       have Wn : Nc[xs.length + n]? = some y' := by
         have all : ∀ (l : List Nat) (i : Nat), (∀ j ∈ l, ∃ y, X.N[j]? = some y /\ scope.names.lookup y = some .free) -> l[i]? = some j -> (l.filterMap (X.N[·]?))[i]? = some y' := by
           intro l
           induction l with
           | nil => intro i _ h; simp at h
           | cons a r ih =>
             intro i h hi
             obtain ⟨ya, ea, _⟩ := h a aaP
             rw [abA, ea]
             cases i with
             | zero =>
               simp at hi
               subst hi
               rw [SJ] at ea
               cases ea
               rfl
             | succ i => exact ih i (fun j hj => h j (List.mem_cons_of_mem _ hj)) (by simpa using hi)
         rw [sc.hd, abG (by omega), Nat.add_sub_cancel_left]
         exact all ix n sc.M6 ei
       have ey : y' = y := by
         have Ng : Nc[xs.length + n]? = some y := h1
         rw [Wn] at Ng
         exact aaY Ng
       subst ey
       have rB := (sc.frees (y', .free) (aby Pq) rfl).2
       have Pr : NC X.env.scope y' := rB.elim (fun z => .inr (.inl z)) (fun z => .inr (.inr z))
       obtain ⟨m0, Wo, U9⟩ := I.loc
       obtain ⟨u, ru, lk⟩ := U9 j y' v SJ hj Pr
       refine ⟨u, ru, ?_⟩
       rcases lk with ⟨kk, _⟩ | ⟨_, c, hc, pP⟩
       . rcases rB with z | z
         . rw [kk] at z; cases z
         . rw [kk] at z; cases z
       . obtain ⟨c', Ew⟩ := gO (env := X.env) (cs := []) Pq
         have : c' = c := by
           have := sub Ew
           rw [hc] at this
           exact (aaY this).symm
         subst this
         obtain ⟨o, ho, hd⟩ := pP
         refine .inr ⟨?_, c', Ew, o, hk _ _ ho, hd⟩
         have q := dI (env := X.env) Pq
         show (relabel scope X.env).names.lookup y' = some .cell \/ (relabel scope X.env).names.lookup y' = some .free
         rw [show (relabel scope X.env).names.lookup y' = _ from q]
         split
         . exact .inl rfl
         . exact .inr rfl
 . obtain ⟨v, o, ho, hd⟩ := I.cell y c (sub e)
   exact ⟨v, o, hk _ _ ho, hd⟩
def Ft (X : Cx) (tg elt : Expr) (ifs : List Expr) (n : Nat) (σ : L2.St) (ix : List Nat) (D : Addr) (N : Hp -> Prop) (xv : V) (os : List (Option V)) (H3 : Hp) : Prop :=
 ∃ t : TG, PG X tg t /\ t xv (Ds σ ix os) H3 fun σ8 H4 => ∃ Rc, Rc.length = n /\ σ8 = Ds σ ix Rc /\ O4 X ifs σ8 H4 fun ok H5 =>
   if ok = true then yS X elt σ8 H5 fun y H6 => ∃ acc, H6 D = some (.lst acc) /\ acc.length < sizeLine /\ N (upd H6 D (.lst (acc ++ [y]))) else N H5
theorem A5 {elt iter tg : Expr} {pos : Pos} {ifs : List Expr} {J : It} {fp : List Addr} {it : Addr} {tn : Nat -> Heap -> Prop} {G : Addr -> Hp -> Prop} {RR : Value -> Addr -> Result -> Shared -> Prop} {E : Value -> Shared -> Prop}
   (sc : jX X scope xs Nc ix) (hc : X.calm = true) (I : Inv X pins σ H s) (Tn : Turn X.prog X.w X.K tg J fp it tn) (st : tn 0 s.heap) (hf : ∀ b ∈ fp, gb X pins H b)
   (loop : ∀ D, H D = none -> ∃ W : Nat -> Nat -> Hp -> Prop, (∃ m, W 0 m (upd H D (.lst []))) /\ ∀ i m H2, W i m H2 -> (J.stop i H2 /\ G D H2) ∨
     (J.go i H2 /\ ∃ N : Hp -> Prop, (∀ H', N H' -> ∃ m', m' < m /\ W (i + 1) m' H') /\ ∀ xv H3, J.MK i H2 xv H3 -> ∀ C s0 H0 f0 os, os.length = xs.length -> Ft (cE X scope Nc C s0 H0 f0) tg elt ifs xs.length σ ix D N xv os H3))
   (Wq : ∀ D C s' H', (∃ m, s'.heap.Ns C m) -> (∃ o, s'.heap.get? C = some o /\ ∀ v, o.data ≠ .cell v) -> H' C = none -> (C ≠ X.env.locals /\ C ∉ X.fs /\ X.s₀.heap.objs.size <= C /\ (∀ y c, X.env.cells.lookup y = some c -> c ≠ C) /\ ∀ q ∈ X.pn ++ pins, q.1 ≠ C) -> (∀ h', Heap.SameBut C s'.heap h' -> Inv X pins σ H' { s' with heap := h' }) -> G D H' -> RR (.ref D) C (.ok .next) s') :
   wpAny (model X.prog X.w) X.A (newList []) (fun acc s₃ => wpAny (model X.prog X.w) X.A (newFunctionEnv scope X.env.globals (bR X.env scope.names []) [] X.env.qual none .none (some X.env)) (fun Fv s₄ =>
     codeAny (model X.prog X.w) X.A (.compStart (.ListComp elt [⟨tg, iter, ifs, 0⟩] scope pos) 0 (.ref it) acc { Fv with scope := relabel scope X.env }) (RR acc Fv.locals) s₄) E s₃) E s := by
 refine wpAny_newObj_type ?_
 have I3 : Inv X pins σ (upd H s.heap.objs.size (.lst [])) { s with heap := s.heap.push { cls := .type "list", dict := none, data := .seq ([] : List Value).toArray } } :=
   I.laid (t' := s.toks) (fun b u e => aaN _ e) (aaI _) ⟨by show 0 <= sizeLine; exact abf _, [], 0, .nil, aa9 _ rfl⟩
 have hD : H s.heap.objs.size = none := I.c7.fresh (aaI _)
 obtain ⟨W, ⟨m0, w0⟩, turn⟩ := loop _ hD
 have Fw : ∀ b ∈ fp, gb X pins (upd H s.heap.objs.size (.lst [])) b /\ b < (s.heap.push { cls := .type "list", dict := none, data := .seq ([] : List Value).toArray }).objs.size := fun b hb => by
   obtain ⟨f0, f1⟩ := hf b hb
   obtain ⟨o, ho, _⟩ := Tn.obj 0 _ st b hb
   have t6 := aaT ho
   refine ⟨⟨by rw [av (abh t6)]; exact f0, f1⟩, ?_⟩
   rw [Heap.size_push]; exact Nat.lt_succ_of_lt t6
 have RN : tn 0 (s.heap.push { cls := .type "list", dict := none, data := .seq ([] : List Value).toArray }) := Tn.keep 0 _ _ st fun b _ o e => aaN _ e
 generalize Zc : ({ s with heap := s.heap.push { cls := .type "list", dict := none, data := .seq ([] : List Value).toArray } } : Shared) = s3 at I3 ⊢
 have Pu : s3.heap = s.heap.push { cls := .type "list", dict := none, data := .seq ([] : List Value).toArray } := by rw [← Zc]
 rw [← Pu] at Fw RN
 refine wpAny_newFunctionEnv sc.oB (by intro y hy; simp at hy) (fun h₁ Pw Px => ?_) sc.kind
 have old : ∀ b o, s3.heap.get? b = some o -> h₁.get? b = some o := fun b o e => (Px.2 b (abh (aaT e))).trans (aaN _ e)
 have J0 := zm (tk := s3.toks + ([] : List (Str × Value)).length) sc I3 Fw Pw old
 have XH : tn 0 h₁ := Tn.keep 0 _ _ RN fun b _ o e => old b o e
 have Nh : ∀ s4 : Shared, s4 = { s3 with heap := h₁, toks := s3.toks + ([] : List (Str × Value)).length } -> codeAny (model X.prog X.w) X.A (.compLoop (.ListComp elt [⟨tg, iter, ifs, 0⟩] scope pos) 0 (.ref it) (.ref s.heap.objs.size) (compEnvC scope (bR X.env scope.names []) s3.heap.objs.size X.env)) (RR (.ref s.heap.objs.size) s3.heap.objs.size) s4 := by
   rintro s4 rfl
   have stat : ∀ {H' : Hp}, (∀ b ∈ fp, H' b = none) -> ∀ b ∈ fp, gb (cE X scope Nc s3.heap.objs.size s3 (upd H s.heap.objs.size (.lst [])) fp) [] H' b := fun {H'} hn b hb => by
     obtain ⟨⟨f0, f1, f2, f3, f4, f5⟩, t6⟩ := Fw b hb
     refine ⟨hn b hb, abh t6, fun z => ?_, .inl hb, fun y c e => f4 y c (je (fun y hy e => I.ok.has y.1 (sc.frees y hy e).2) (fun _ _ z => by cases z) e), fun p hp => absurd (show p ∈ ([] : List (Addr × Obj)) from hp) (by simp)⟩
     rcases aaH.mp (I3.uP b z) with q | q
     . exact f1 q
     . exact f2 q
   refine ve (fun n s' => ∃ i o H', o.length = xs.length /\ Inv (cE X scope Nc s3.heap.objs.size s3 (upd H s.heap.objs.size (.lst [])) fp) [] (Ds σ ix o) H' s' /\ tn i s'.heap /\ (∀ b ∈ fp, H' b = none) /\ W i n H') ?_ m0 ⟨0, _, _, abH, J0, XH, fun b hb => (Fw b hb).1.1, w0⟩
   rintro n s5 ⟨i, o5, H5, Zd, I5, Rb, U0, w5⟩
   rcases turn i n H5 w5 with ⟨stop, g⟩ | ⟨go, N, hN, step⟩
   . refine dG (Tn.done (cE X scope Nc s3.heap.objs.size s3 (upd H s.heap.objs.size (.lst [])) fp) rfl rfl rfl hc i [] s5 _ H5 _ I5 (stat U0) Rb stop) fun r s6 ⟨hr, I6⟩ => ?_
     subst hr
     obtain ⟨m6, XI, _⟩ := I6.loc
     obtain ⟨oc, esc, epc, Ra, Wr, _⟩ := id XI
     have Va := I3.EB (aaI s3.heap.objs.size) (H' := fun _ => none) rfl
     refine Wq _ _ s6 H5 ⟨m6, XI⟩ ⟨oc, Ra, fun v z => by rw [Wr] at z; cases z⟩ I6.free ⟨Va.2.1, Va.2.2.1, ?_, Va.2.2.2.2.1, Va.2.2.2.2.2⟩ (fun h' SK => Dl I3 (fun b hb => (Fw b hb).1) I6 SK) g
     exact I3.sz
   . refine dG (Tn.item (cE X scope Nc s3.heap.objs.size s3 (upd H s.heap.objs.size (.lst [])) fp) rfl rfl rfl hc i [] s5 _ H5 _ I5 (stat U0) Rb go) fun r s6 ⟨u, hr, h6⟩ => ?_
     subst hr
     refine dG h6 fun _ s7 ⟨xv, H7, I7, r7, y7, Ws, Ze⟩ => ?_
     have Zf := I7.pinned (stat Ze) (Tn.obj _ _ Ws)
     obtain ⟨t, hg, ht⟩ := step xv _ y7 s3.heap.objs.size s3 (upd H s.heap.objs.size (.lst [])) fp o5 Zd
     refine dG (hg _ s7 _ H7 xv u _ Zf r7 ht) fun _ s8 ⟨σ8, H8, I8, XJ, Zg, e8, h8⟩ => ?_
     subst e8
     refine dG (E8 I8 h8 rfl) fun ok s9 ⟨H9, I9, q9⟩ => ?_
     have again : ∀ {Ha : Hp} {sa : Shared}, Inv (cE X scope Nc s3.heap.objs.size s3 (upd H s.heap.objs.size (.lst [])) fp) ([] ++ rj fp s7.heap) (Ds σ ix XJ) Ha sa -> N Ha -> ∃ m, m < n /\ ∃ i o H', o.length = xs.length /\ Inv (cE X scope Nc s3.heap.objs.size s3 (upd H s.heap.objs.size (.lst [])) fp) [] (Ds σ ix o) H' sa /\ tn i sa.heap /\ (∀ b ∈ fp, H' b = none) /\ W i m H' := fun {Ha sa} Ia na => by
       obtain ⟨m', hm, wa⟩ := hN Ha na
       refine ⟨m', hm, i + 1, XJ, Ha, Zg, Ia.jR, Tn.keep _ _ _ Ws fun b hb o e => (Ia.pin (b, o) (aaD _ (aaD _ (fE hb e)))).1, fun b hb => ?_, wa⟩
       obtain ⟨o, e, d⟩ := Tn.obj _ _ Ws b hb
       exact (Ia.pin (b, o) (aaD _ (aaD _ (fE hb e)))).2.1
     cases ok with
     | false =>
       rw [aaE aaL] at q9 ⊢
       exact again I9 q9
     | true =>
       rw [aaF rfl] at q9 ⊢
       refine dG (q9 _ s9 I9) fun v sa ⟨y, Ha, Ia, ra, acc, Wt, hlen, na⟩ => ?_
       refine dG (ur (X := cE X scope Nc s3.heap.objs.size s3 (upd H s.heap.objs.size (.lst [])) fp) _ sa _ Ha (.ref s.heap.objs.size) [y] (.ref s.heap.objs.size) [v] (fun _ Hb => Hb = upd Ha s.heap.objs.size (.lst (acc ++ [y]))) Ia rfl (.cons ra .nil) ⟨_, acc, y, rfl, rfl, Wt, hlen, rfl⟩) fun _ sb ⟨_, Hb, Ib, _, eb⟩ => ?_
       subst eb
       exact again Ib na
 exact codeAny_compStart_list (Nh _ rfl) (Tn.self _ 0 _ _ _ XH (Nh _ rfl))
end
def Fx (ps : List D) : List (Option T) := ps.map fun p => some (.sh p)
theorem uw : ∀ {ys : List V} {os : List (Option V)} {pre r : L2.St}, os.length = ys.length -> zl (pre ++ (os ++ r)) (List.range' pre.length ys.length) ys = pre ++ (ys.map some ++ r)
 | [], os, pre, r, h => by
   have : os = [] := List.length_eq_zero_iff.mp h
   subst this
   rfl
 | y :: ys, os, pre, r, h => by
   match os, h with
   | o :: os, h =>
     show zl ((pre ++ (o :: (os ++ r))).set pre.length (some y)) (List.range' (pre.length + 1) ys.length) ys = _
     rw [List.set_append_right _ _ (aaI _), Nat.sub_self, List.set_cons_zero]
     have := uw (ys := ys) (os := os) (pre := pre ++ [some y]) (r := r) (by simpa using h)
     simp only [aa1, aaZ, abI, aaG, List.singleton_append] at this
     rw [this]
     simp
theorem Cg {K : PySem.W.Frag} {CL : Str -> Addr} {H Z : Hp} : ∀ {ps : List D} {ys : List V} {δc : List (Option T)} {σc : L2.St}, aD K CL Z ps ys -> ef K CL H Z δc σc [] -> ef K CL H Z (Fx ps ++ δc) (ys.map some ++ σc) []
 | _, _, _, _, .nil, e => e
 | _, _, _, _, .cons r rr, e => .cons (fp := []) (gp := []) (.sh r) (Cg rr e)
section
variable {X : Cx} {CL : Str -> Addr} {b : Bx} {H Z W1 : Hp} {δ δc : List (Option T)} {σ : L2.St} {ts : List T} {vs : List V} {ds : List D} {scope : Scope} {Nc : List Str} {n : Nat} {ix : List Nat} {elt tg : Expr} {ifs : List Expr} {p : D -> Bool} {g : D -> T} {J : It} {parts : D -> Option (List D)}
def oH (X : Cx) (CL : Str -> Addr) (scope : Scope) (Nc : List Str) (n : Nat) (tg : Expr) (parts : D -> Option (List D)) (ifs : List Expr) (elt : Expr) (δc : List (Option T)) (ds : List D) (p : D -> Bool) (g : D -> T) : Prop :=
 ∀ C s0 H0 f0 b', XG (cE X scope Nc C s0 H0 f0) CL tg (List.range' 0 n) parts /\ ∀ d, d ∈ ds -> ∃ ps, parts d = some ps /\ ps.length = n /\ U6 (cE X scope Nc C s0 H0 f0) CL b' ifs (Fx ps ++ δc) (p d) /\ (p d = true -> cj (cE X scope Nc C s0 H0 f0) CL b' elt (Fx ps ++ δc) (g d) (Fx ps ++ δc))
theorem rM (S : bT X.K CL b H Z δ σ ts vs) (zw : aA Z W1) (wh : aA W1 H) (tp : ∀ a o, H a = some o -> gi o = true -> W1 a = some o)
   (cap : ∀ H', ef X.K CL H' W1 δc (ix.map fun i => (σ[i]?).getD none) []) (inner : oH X CL scope Nc n tg parts ifs elt δc ds p g)
   (Zh : ∀ i H2, aA W1 H2 -> i < ds.length -> J.go i H2)
   (hy : ∀ i Z2 H2 x H', aA W1 Z2 -> aA Z2 H2 -> (∀ a o, H2 a = some o -> gi o = true -> Z2 a = some o) -> i < ds.length -> J.MK i H2 x H' -> ∃ Z3 d, ds[i]? = some d /\ Jt Z2 H2 Z3 H' /\ bz X.K CL Z3 d x)
   (O7 : ∀ H2, aA W1 H2 -> J.stop ds.length H2) (hlen : ds.length <= sizeLine) (c : W1 = Z \/ ∀ d ∈ ds, (g d).clean = true) :
   ∀ D, H D = none -> ∃ W : Nat -> Nat -> Hp -> Prop, (∃ m, W 0 m (upd H D (.lst []))) /\ ∀ i m H2, W i m H2 -> (J.stop i H2 /\ ∃ Z2, aA Z Z2 /\ aA H H2 /\ bT X.K CL b H2 Z2 δ σ (.lst ((ds.filter p).map g) :: ts) (.ref D :: vs)) ∨
     (J.go i H2 /\ ∃ N : Hp -> Prop, (∀ H', N H' -> ∃ m', m' < m /\ W (i + 1) m' H') /\ ∀ xv H3, J.MK i H2 xv H3 -> ∀ C s0 H0 f0 os, os.length = n -> Ft (cE X scope Nc C s0 H0 f0) tg elt ifs n σ ix D N xv os H3) := by
 intro D hD
 have wD : W1 D = none := wh.free hD
 refine ⟨fun i m H2 => m = ds.length - i /\ i <= ds.length /\ ∃ Z2 Az fp, aA H H2 /\ aA W1 Z2 /\ aA Z2 H2 /\ Z2 D = none /\ (∀ a o, Z2 a = some o -> W1 a = none -> H a = none) /\ (∀ a o, H2 a = some o -> gi o = true -> Z2 a = some o) ∧
   H2 D = some (.lst Az) /\ aL X.K CL H2 Z2 (((ds.take i).filter p).map g) Az fp /\ fp.Nodup /\ D ∉ fp /\ (∀ a ∈ fp, Z2 a = none /\ H a = none) /\ Az.length <= i, ⟨ds.length, rfl, abf _, W1, [], [], aA.upd hD, .refl _, wh.trans (aA.upd hD), wD, fun a o q z => ?_, fun a o q i => ?_, aN, .nil, abM, by simp, by simp, by simp⟩, ?_⟩
 . rw [q] at z; cases z
 . by_cases ha : a = D
   . subst ha; rw [aN] at q; cases q; cases i
   . rw [av ha] at q; exact tp a o q i
 . rintro i m H2 ⟨rfl, hi, Z2, Az, fp, hh, wz, zh, zD, nw, Wu, Vb, ra, nd, nD, own, hav⟩
   by_cases t6 : i < ds.length
   . refine .inr ⟨Zh i H2 (wz.trans zh) t6, fun H' => ∃ Z2 Az fp, aA H H' /\ aA W1 Z2 /\ aA Z2 H' /\ Z2 D = none /\ (∀ a o, Z2 a = some o -> W1 a = none -> H a = none) /\ (∀ a o, H' a = some o -> gi o = true -> Z2 a = some o) ∧
       H' D = some (.lst Az) /\ aL X.K CL H' Z2 (((ds.take (i + 1)).filter p).map g) Az fp /\ fp.Nodup /\ D ∉ fp /\ (∀ a ∈ fp, Z2 a = none /\ H a = none) /\ Az.length <= i + 1, fun H' h => ⟨ds.length - (i + 1), by omega, rfl, t6, h⟩, fun xv H3 y C s0 H0 f0 os Zi => ?_⟩
     obtain ⟨Z3, d, hd, gr, rd⟩ := hy i Z2 H2 xv H3 wz zh Wu t6 y
     have Py : ∀ a, Z2 a = none -> (∃ o, H2 a = some o) -> Z3 a = none := fun a e ⟨o, e2⟩ => by
       cases q : Z3 a with
       | none => rfl
       | some u => rw [gr.new a u q e] at e2; cases e2
     have XM : ∀ a o, Z3 a = some o -> W1 a = none -> H a = none := fun a o q z => by
       cases e : Z2 a with
       | none => exact hh.free (gr.new a o q e)
       | some u =>
         have := gr.z a u e
         rw [q] at this; cases this
         exact nw a o e z
     have Pz : aL X.K CL H3 Z3 (((ds.take i).filter p).map g) Az fp := ra.mono gr.z fun a ha => by
       obtain ⟨o, e⟩ := ra.there a ha
       rw [e]; exact gr.h a o e
     have Vc : ∀ a ∈ fp, Z3 a = none /\ H a = none := fun a ha => ⟨Py a (own a ha).1 (ra.there a ha), (own a ha).2⟩
     have Wv : Z3 D = none := Py D zD ⟨_, Vb⟩
     have Ni : H3 D = some (.lst Az) := gr.h D _ Vb
     have Pu := hh.trans gr.h
     have Vd := wz.trans gr.z
     have XO := gr.zh
     have Zj := gr.tp
     clear own nw ra zD Vb hh wz zh Wu gr Py
     have Ww : d ∈ ds := abu hd
     have Rk : ds.take (i + 1) = ds.take i ++ [d] := by rw [abY, hd]; rfl
     obtain ⟨tgt, Zk⟩ := inner C s0 H0 f0 ⟨H3, Z3⟩
     obtain ⟨ps, Zm, tW, it, ie⟩ := Zk d Ww
     obtain ⟨t, pg, ht⟩ := tgt
     refine ⟨t, pg, ht Z3 H3 d ps xv _ _ XO rd Zm fun ys XQ => ?_⟩
     have Wx : ys.length = n := by rw [← XQ.length]; exact tW
     have es : zl (Ds σ ix os) (List.range' 0 n) ys = Ds σ ix (ys.map some) := by
       have := uw (ys := ys) (os := os) (pre := []) (r := ix.map fun i => (σ[i]?).getD none) (by rw [Zi, Wx])
       rw [Wx] at this
       exact this
     refine ⟨ys.map some, by rw [aaK]; exact Wx, es, ?_⟩
     rw [es]
     have S0 : bT X.K CL ⟨H3, Z3⟩ H3 Z3 (Fx ps ++ δc) (Ds σ ix (ys.map some)) [] [] :=
       ⟨⟨[], [], Cg XQ ((cap H3).mono Vd fun a ha => by cases ha), .nil, abM, fun a ha => by cases ha⟩, .refl _, .refl _, XO, fun a o q z => (by have z' : Z3 a = none := z; rw [show Z3 a = some o from q] at z'; cases z'), Zj, (S.Sg.mono zw).mono Vd⟩
     refine it.YT S0 fun H4 Z4 z4 k4 S4 => ?_
     have Wy : ∀ a ∈ fp, H4 a = H3 a := fun a ha => by
       obtain ⟨o, e⟩ := Pz.there a ha
       rw [e]; exact k4 a o e
     have Fy : ∀ a, Z3 a = none -> (∃ o, H3 a = some o) -> Z4 a = none := fun a e ⟨o, e2⟩ => by
       cases q : Z4 a with
       | none => rfl
       | some u =>
         have := S4.new a u q e
         rw [show H3 a = none from this] at e2; cases e2
     cases hp : p d with
     | false =>
       refine EY ⟨Z4, Az, fp, Pu.trans k4, Vd.trans z4, S4.zh, Fy D Wv ⟨_, Ni⟩, fun a o q z => ?_, S4.tp, k4 D _ Ni, ?_, nd, nD, fun a ha => ⟨Fy a (Vc a ha).1 (Pz.there a ha), (Vc a ha).2⟩, by omega⟩
       . cases e : Z3 a with
         | none => exact Pu.free (S4.new a o q e)
         | some u => 
           have := z4 a u e
           rw [q] at this; cases this
           exact XM a o e z
       . rw [Rk, List.filter_append, List.filter_cons_of_neg (by simp [hp]), List.filter_nil, abq]
         exact Pz.mono z4 Wy
     | true =>
       refine EZ ((ie hp) H4 Z4 (Ds σ ix (ys.map some)) [] [] _ S4 fun yv H5 Z5 z5 k5 S5 => ⟨Az, k5 D _ (k4 D _ Ni), by omega, ?_⟩)
       obtain ⟨f1, g1, e1, r1, Sh, SM⟩ := S5.rep
       cases r1 with
       | @cons _ _ _ _ fy fn ry rn =>
         cases rn
         rw [abq] at Sh SM
         have Zn : fy.Nodup := (abm.mp Sh).2.1
         have Ju : ∀ a ∈ fy, Z5 a = none /\ H3 a = none := fun a ha => SM a (aaD _ ha)
         have A6 : ∀ a, Z3 a = none -> (∃ o, H3 a = some o) -> Z5 a = none := fun a e ⟨o, e2⟩ => by
           cases q : Z5 a with
           | none => rfl
           | some u =>
             have := S5.new a u q e
             rw [show H3 a = none from this] at e2; cases e2
         have yD : ∀ a ∈ fy, a ≠ D := fun a ha e => by
           subst e
           rw [(Ju a ha).2] at Ni; cases Ni
         have h5D : H5 D = some (.lst Az) := k5 D _ (k4 D _ Ni)
         have sD : aA H (upd H5 D (.lst (Az ++ [yv]))) := fun a o q => by
           rw [av (aC q hD)]
           exact k5 a o (k4 a o (Pu a o q))
         refine ⟨Z5, Az ++ [yv], fp ++ fy, sD, Vd.trans (z4.trans z5), fun a o q => ?_, A6 D Wv ⟨_, Ni⟩, fun a o q z => ?_, fun a o q im => ?_, aN, ?_, ?_, ?_, fun a ha => ?_, ?_⟩
         . rw [av (aC q (A6 D Wv ⟨_, Ni⟩))]; exact S5.zh a o q
         . cases e : Z3 a with
           | none => exact Pu.free (S5.new a o q e)
           | some u =>
             have := z5 a u (z4 a u e)
             rw [q] at this; cases this
             exact XM a o e z
         . by_cases ha : a = D
           . subst ha; rw [aN] at q; cases q; cases im
           . rw [av ha] at q; exact S5.tp a o q im
         . rw [Rk, List.filter_append, List.filter_cons_of_pos hp, List.filter_nil, List.map_append]
           refine aL.app (Pz.mono (z4.trans z5) fun a ha => ?_) (by
             have := aL.cons (fp := fy) (gp := []) (ry.mono (.refl _) fun a ha => av (yD a ha)) (aL.nil (H := upd H5 D (.lst (Az ++ [yv]))) (Z := Z5))
             rwa [abq] at this)
           have : a ≠ D := fun e => nD (e ▸ ha)
           rw [av this]
           obtain ⟨o, e⟩ := Pz.there a ha
           rw [e]; exact k5 a o (k4 a o e)
         . refine abm.mpr ⟨nd, Zn, fun a ha a' E3 e => ?_⟩
           subst e
           obtain ⟨o, e⟩ := Pz.there a ha
           rw [(Ju a E3).2] at e; cases e
         . intro h
           rcases aaS.mp h with h | h
           . exact nD h
           . exact yD D h rfl
         . rcases aaS.mp ha with h | h
           . exact ⟨A6 a (Vc a h).1 (Pz.there a h), (Vc a h).2⟩
           . exact ⟨(Ju a h).1, Pu.free (Ju a h).2⟩
         . rw [aa1, List.length_singleton]; omega
   . have e : i = ds.length := by omega
     subst e
     refine .inl ⟨O7 H2 (wz.trans zh), ?_⟩
     rw [List.take_length] at ra
     obtain ⟨Z', z', S'⟩ := S.back (H' := H2) (W := W1) (W' := Z2) (t := .lst ((ds.filter p).map g)) (v := .ref D) (fp := D :: fp) hh zw wz zh nw Wu (.lst Vb ra) (abT.mpr ⟨nD, nd⟩) (fun a ha => by
       rcases aaH.mp ha with h | h
       . subst h; exact ⟨zD, hD⟩
       . exact own a h) (c.imp id fun c => by
         rw [gF]
         exact rG fun d hd => c d (abR.mp hd).1)
     exact ⟨Z', z', hh, S'⟩
end
section
variable {X : Cx} {CL : Str -> Addr} {b : Bx} {δ δ1 : List (Option T)} {scope : Scope} {xs : List Str} {Nc : List Str} {ix : List Nat} {elt iter tg : Expr} {ifs : List Expr} {pos : Pos} {ds : List D} {p : D -> Bool} {g : D -> T} {δc : List (Option T)} {parts : D -> Option (List D)}
theorem ux {J : It} {fp : List Addr} {it : Addr} {tn : Nat -> Heap -> Prop} {pins : List (Addr × Obj)} {σ : L2.St} {H H1 Z : Hp} {s : Shared} {ts : List T} {vs : List V} {RR : Value -> Addr -> Result -> Shared -> Prop} {E : Value -> Shared -> Prop}
   (sc : jX X scope xs Nc ix) (hc : X.calm = true) (C : vt X CL b δ1 σ ts vs Z H ds J H1) (I : L2.Inv X pins σ H1 s) (Tn : Turn X.prog X.w X.K tg J fp it tn) (st : tn 0 s.heap) (hf : ∀ b ∈ fp, gb X pins H1 b)
   (hb : (δc = tZ δ1 ix /\ ∀ d ∈ ds, (g d).clean = true) \/ δc = yW δ1 ix) (inner : oH X CL scope Nc xs.length tg parts ifs elt δc ds p g) (hlen : ds.length <= sizeLine)
   (Wq : ∀ D C s' H' Z', (∃ m, s'.heap.Ns C m) -> (∃ o, s'.heap.get? C = some o /\ ∀ v, o.data ≠ .cell v) -> H' C = none -> (C ≠ X.env.locals /\ C ∉ X.fs /\ X.s₀.heap.objs.size <= C /\ (∀ y c, X.env.cells.lookup y = some c -> c ≠ C) /\ ∀ q ∈ X.pn ++ pins, q.1 ≠ C) -> (∀ h', Heap.SameBut C s'.heap h' -> L2.Inv X pins σ H' { s' with heap := h' }) -> aA Z Z' -> aA H H' -> bT X.K CL b H' Z' δ1 σ (.lst ((ds.filter p).map g) :: ts) (.ref D :: vs) -> RR (.ref D) C (.ok .next) s') :
   wpAny (model X.prog X.w) X.A (newList []) (fun acc s₃ => wpAny (model X.prog X.w) X.A (newFunctionEnv scope X.env.globals (bR X.env scope.names []) [] X.env.qual none .none (some X.env)) (fun Fv s₄ =>
     codeAny (model X.prog X.w) X.A (.compStart (.ListComp elt [⟨tg, iter, ifs, 0⟩] scope pos) 0 (.ref it) acc { Fv with scope := relabel scope X.env }) (RR acc Fv.locals) s₄) E s₃) E s := by
 obtain ⟨Z1, z1, k1, S1, go, yl, XR⟩ := C.ex
 have lp : ∀ D, H1 D = none -> ∃ W : Nat -> Nat -> Hp -> Prop, (∃ m, W 0 m (upd H1 D (.lst []))) /\ ∀ i m H2, W i m H2 -> (J.stop i H2 /\ ∃ Z2, aA Z1 Z2 /\ aA H1 H2 /\ bT X.K CL b H2 Z2 δ1 σ (.lst ((ds.filter p).map g) :: ts) (.ref D :: vs)) ∨
     (J.go i H2 /\ ∃ N : Hp -> Prop, (∀ H', N H' -> ∃ m', m' < m /\ W (i + 1) m' H') /\ ∀ xv H3, J.MK i H2 xv H3 -> ∀ C s0 H0 f0 os, os.length = xs.length -> Ft (cE X scope Nc C s0 H0 f0) tg elt ifs xs.length σ ix D N xv os H3) := by
   rcases hb with ⟨e, cl⟩ | e
   . subst e
     exact rM (W1 := H1) S1 S1.zh (.refl _) (fun _ _ q _ => q) (rJ S1 ix) inner (fun i H2 s => go i H2 (S1.zh.trans s)) (fun i Z2 H2 y H' s => yl i Z2 H2 y H' (S1.zh.trans s)) (fun H2 s => XR H2 (S1.zh.trans s)) hlen (.inr cl)
   . subst e
     exact rM (W1 := Z1) S1 (.refl _) S1.zh S1.tp (yX S1 ix) inner go yl XR hlen (.inl rfl)
 exact A5 sc hc I Tn st hf lp fun D C s' H' m io nC ch ci ⟨Z', z', k', S'⟩ => Wq D C s' H' Z' m io nC ch ci (z1.trans z') (k1.trans k') S'
theorem pY (sc : jX X scope xs Nc ix) {pins : List (Addr × Obj)} {σ : L2.St} {H : Hp} {s : Shared} (I : L2.Inv X pins σ H s) : closureFor scope X.env = pure (bR X.env scope.names []) :=
 iy fun y hy e => I.ok.has y.1 (sc.frees y hy e).2
theorem zo (sc : jX X scope xs Nc ix) (hc : X.calm = true) (h : U7 X CL b tg iter δ ds δ1) (hb : (δc = tZ δ1 ix /\ ∀ d ∈ ds, (g d).clean = true) \/ δc = yW δ1 ix) (inner : oH X CL scope Nc xs.length tg parts ifs elt δc ds p g) (hlen : ds.length <= sizeLine)
   (hs : ∀ x, foldedSetIterable iter X.env x = pure x := by intro _; rfl) : cj X CL b (.ListComp elt [⟨tg, iter, ifs, 0⟩] scope pos) δ (.lst ((ds.filter p).map g)) δ1 := fun H Z σ ts vs Q S k pins s I => by
 obtain ⟨wi, pi, hw⟩ := h
 rw [eval_ListComp]
 refine wpAny_comprehension_free (use := none) rfl hs (pY sc I) sc.kind sc.names ?_
 refine dG (pi pins s σ H _ I (hw H Z σ ts vs (fun J H1 => vt X CL b δ1 σ ts vs Z H ds J H1) S fun J H1 C => C)) fun v s1 h1 => dG h1 fun UY s2 ⟨it, fp, tn, J, H1, e, I1, Tn, st, hf, C⟩ => ?_
 subst e
 refine ux (RR := fun acc C => compPost (model X.prog X.w) X.A X.xe none (EP X pins σ Q) acc C) sc hc C I1 Tn st hf hb inner hlen fun D C' s' H' Z' m io nC ch ci z' k' S' => ?_
 obtain ⟨m, hn⟩ := m
 exact ⟨m, hn, fun h' SK => ⟨.ref D, H', ci h' SK, rfl, k _ H' Z' z' k' S'⟩⟩
theorem Jv {D : cM} {y : Str} {py SN : Pos} (i : Nat) (sc : jX X scope xs Nc ix) (hc : X.calm = true) (h : U7 X CL b tg iter δ ds δ1) (hb : (δc = tZ δ1 ix /\ ∀ d ∈ ds, (g d).clean = true) \/ δc = yW δ1 ix) (inner : oH X CL scope Nc xs.length tg parts ifs elt δc ds p g) (hlen : ds.length <= sizeLine)
   (k : D.nx (δ1.set i (some (.lst ((ds.filter p).map g))))) (hl : i < δ1.length) (hN : X.N.Nodup) (hi : X.N[i]? = some y) (hx : Loc X.env.scope y) (Zo : X.fn y = true \/ X.env.scope.names.lookup y = some .local)
   (vf : swapsWith (.ListComp elt [⟨tg, iter, ifs, 0⟩] scope pos) (some (.Name y py)) SN.line X.env = pure true)
   (hs : ∀ x, foldedSetIterable iter X.env x = pure x := by intro _; rfl) : OQ X CL b (.Assign [.Name y py] (.ListComp elt [⟨tg, iter, ifs, 0⟩] scope pos) SN) δ D := fun H Z σ ts vs E S M pins s I => by
 obtain ⟨wi, pi, hw⟩ := h
 rw [exec_Assign_Name_used _ _ _ _ vf]
 refine aaO (wpAny_standAt (aaO ?_))
 show wpAny _ X.A (do let _ ← comprehension (.ListComp elt [⟨tg, iter, ifs, 0⟩] scope pos) scope X.env _ (newList []) false (eval iter X.env) (some (assign (.Name y py) X.env))) _ _ s
 refine aaO (abF (wpAny_comprehension_free (use := some (assign (.Name y py) X.env)) (Q := fun _ s' => SP X pins E .next s') rfl hs (pY sc I) sc.kind sc.names ?_) (fun _ s' hq => abk (abk hq)) fun _ _ e => e)
 refine dG (pi pins s σ H _ I (hw H Z σ ts vs (fun J H1 => vt X CL b δ1 σ ts vs Z H ds J H1) S fun J H1 C => C)) fun v s1 h1 => dG h1 fun UY s2 ⟨it, fp, tn, J, H1, e, I1, Tn, st, hf, C⟩ => ?_
 subst e
 refine ux (RR := fun acc C => compPost (model X.prog X.w) X.A X.xe (some (assign (.Name y py) X.env)) (fun _ s' => SP X pins E .next s') acc C) sc hc C I1 Tn st hf hb inner hlen fun D' C' s' H' Z' m io nC ch ci z' k' S' => ?_
 obtain ⟨m, hn⟩ := m
 obtain ⟨o, ho, pP⟩ := io
 have I' : L2.Inv X pins σ H' s' := ci s'.heap (.refl ..)
 have I2 : L2.Inv X (pins ++ [(C', o)]) σ H' s' := I'.qp fun q hq => by
   rcases aaS.mp hq with z | z
   . exact I'.pin q (aaD _ z)
   . have e : q = (C', o) := by simpa using z
     subst e
     exact ⟨ho, nC, ch.1, ch.2.1, pP⟩
 show wpAny _ X.A (assign (.Name y py) X.env (.ref D')) _ _ s'
 have hg : PG X (.Name y py) (BR i) := uR hN hi hx Zo
 refine dG (hg _ s' σ H' (.ref D') (.ref D') (fun σ8 H8 => σ8 = σ.set i (some (.ref D')) /\ H8 = H') I2 rfl ⟨rfl, rfl⟩) fun _ s8 ⟨σ8, H8, I8, e8, Zq⟩ => ?_
 subst e8
 subst Zq
 obtain ⟨Zr, Zt, _⟩ := I8.pin (C', o) (aaD _ (aaD _ (by simp)))
 refine ⟨m, hn.at' fun o' e' => by rw [ho] at e'; cases e'; exact Zr, fun h' SK => ?_⟩
 have I9 : L2.Inv X pins (σ.set i (some (.ref D'))) _ s8 := I8.qp fun q hq => I8.pin q (aaD _ (aaX _ hq))
 have Zu := I9.turned (it := C') (h' := h') (t' := s8.toks) (fun b o hb e => (SK.2 b hb).trans e) Zt ch.1.symm.symm (.inr ch.2.2.1) ch.2.2.2.1 ch.2.2.2.2
 exact ⟨_, _, Zu, M.nx _ _ _ Z' z' (S'.set hl) k⟩
theorem PB {D : cM} {fY : List Stmt} {i : Nat} {x : Str} {pos' pc : Pos} (gx : Gx X) (n : Ln X i x) (sc : jX X scope xs Nc ix) (h : U7 X CL b tg iter δ ds δ1)
   (hb : (δc = tZ δ1 ix /\ ∀ d ∈ ds, (g d).clean = true) \/ δc = yW δ1 ix) (inner : oH X CL scope Nc xs.length tg parts ifs elt δc ds p g) (hlen : ds.length <= sizeLine) (k : fD X CL b fY (δ1.set i (some (.lst ((ds.filter p).map g)))) D) (hl : i < δ1.length)
   (vf : swapsWith (.ListComp elt [⟨tg, iter, ifs, 0⟩] scope pc) (some (.Name x pos')) pos.line X.env = pure true \/ swapsWith (.ListComp elt [⟨tg, iter, ifs, 0⟩] scope pc) (some (.Name x pos')) pos.line X.env = pure false) (hs : ∀ x, foldedSetIterable iter X.env x = pure x := by intro _; rfl) :
   fD X CL b (.Assign [.Name x pos'] (.ListComp elt [⟨tg, iter, ifs, 0⟩] scope pc) pos :: fY) δ D := by
 rcases vf with vf | vf
 . exact eu (Jv i sc gx.calm h hb inner hlen k hl gx.nd n.hi n.loc n.hf vf hs)
 . exact eu (E7 i (zo sc gx.calm h hb inner hlen hs) k hl gx.nd n.hi n.loc vf n.hf)
theorem PD {i : Nat} {x : Str} {C : Addr} {s : Shared} {H : Hp} {fp : List Addr} (h1 : Nc[i]? = some x) (h2 : scope.names.lookup x = some .local) (hd : (x == ("__debug__" : Str)) = false := by decide) (iL : (x == ("__classdict__" : Str)) = false := by decide) : Ln (cE X scope Nc C s H fp) i x :=
 ⟨fZ h1 h2 hd iL, .inl (lookup_relabel_local h2), .inr (lookup_relabel_local h2)⟩
end
section
variable {X : Cx} {elts : List Expr} {kk : Nat} {pt : Pos}
end
section
variable {X : Cx} {CL : Str -> Addr} {b : Bx} {δ δ1 : List (Option T)} {e : Expr} {ds : List D} {elts : List Expr} {kk : Nat} {pt pr pc : Pos}
end
section
variable {X : Cx}
theorem vv : bootBuiltins "sorted" = some (.builtin "sorted") := by decide +kernel
end
section
variable {X : Cx} {CL : Str -> Addr} {b : Bx} {δ δ1 : List (Option T)} {e : Expr} {pos pp : Pos}
end
section
variable {X : Cx}
end
section
variable {X : Cx} {CL : Str -> Addr} {b : Bx} {δ δ1 : List (Option T)} {e : Expr} {pos pp : Pos}
end
section
variable {prog : Program} {w : World} {A : Around} {s : Shared}
end
section
variable {prog : Program} {w : World} {A : Around} {s : Shared}
end
section
variable {X : Cx}
end
section
variable {X : Cx} {CL : Str -> Addr} {b : Bx} {δ δ1 : List (Option T)} {e : Expr} {ds : List D} {pos pp pq pr : Pos}
end
theorem A7 {α β : Type} {f : α -> β} {l : List α} {j : Nat} {d : β} (h : (l.map f)[j]? = some d) : ∃ x, d = f x /\ l[j]? = some x /\ x ∈ l /\ j < l.length /\ l.drop j = x :: l.drop (j + 1) /\ l.take (j + 1) = l.take j ++ [x] := by
 rw [abn] at h
 cases hx : l[j]? with
 | none => rw [hx] at h; cases h
 | some x =>
   rw [hx] at h
   cases h
   have hj : j < l.length := (aa4.mp hx).1
   have e : l[j] = x := (aa4.mp hx).2
   exact ⟨x, rfl, rfl, abu hx, hj, by rw [acg hj, e], by rw [abY, hx]; rfl⟩
theorem PF (n : Nat) {l : List Str} (h : ∀ x ∈ l, PyData.strOk x = true) : iz (n + 1) (.lst (l.map L3.D.str)) := .lst fun d hd => by
 obtain ⟨i, hi, rfl⟩ := abg.mp hd
 exact .str _ _ (h i hi)
def D.XS : L3.D -> L3.D
 | .tup (a :: _) => a
 | d => d
section
variable {X : Cx} {CL : Str -> Addr} {b : Bx} {δ δ1 : List (Option T)} {e : Expr} {elts : List Expr} {kk : Nat} {pt pr pc : Pos}
end
section
variable {K : PySem.W.Frag} {CL : Str -> Addr} {b : Bx} {H H' Z Z' : Hp} {δ δ' : List (Option T)} {σ σ' : L2.St} {ts tl : List T} {vs us : List V} {t : T} {v : V}
end
section
variable {X : Cx} {CL : Str -> Addr} {b : Bx} {δ δ1 δ2 : List (Option T)} {e e2 : Expr} {t : T} {tl Ji tt XA : List T} {D : cM} {pos pp pa pb : Pos}
end
section
variable {X : Cx} {CL : Str -> Addr} {b : Bx} {δ δ1 : List (Option T)} {e : Expr} {t : T} {i : Nat} {x : Str} {pos pp : Pos} {DD : cM} {fY : List Stmt}
end
section
variable {X : Cx}
end
section
variable {K : PySem.W.Frag} {CL : Str -> Addr} {b : Bx} {H Z : Hp} {δ : List (Option T)} {σ : L2.St} {ts tl : List T} {vs : List V} {t : T} {v : V}
end
section
variable {X : Cx} {CL : Str -> Addr} {b : Bx} {δ δ1 : List (Option T)} {e : Expr} {t : T} {tl Ji : List T} {D : cM} {pos pp pa pb pc : Pos} {kj i : Nat} {x : Str} {fY : List Stmt}
end
section
variable {X : Cx} {CL : Str -> Addr} {b : Bx} {δ δ1 : List (Option T)} {e : Expr} {pos pp : Pos}
end
section
variable {K : PySem.W.Frag} {CL : Str -> Addr} {b : Bx} {H Z : Hp} {δ : List (Option T)} {σ : L2.St} {ts tl XT : List T} {vs : List V} {v : V}
end
section
variable {X : Cx} {CL : Str -> Addr} {b : Bx} {δ δ1 : List (Option T)} {e : Expr} {tl Ji XT : List T} {D : cM} {pos pp pa pb : Pos} {i : Nat} {x : Str} {fY : List Stmt}
end
section
variable {X : Cx} {CL : Str -> Addr} {b : Bx} {e1 e2 : Expr} {δ δ1 δ2 : List (Option T)} {ds : List L3.D} {pos : Pos}
def SQ (K : PySem.W.Frag) : R2 := fun x y H Q => ∃ l k xs, x = .ref l /\ y = .int k /\ mQ K H l xs /\ -(2 ^ 63) <= k /\ k < 2 ^ 63 /\ xs.length * k.toNat <= sizeLine ∧
 ∀ p, H p = none -> Q (.ref p) (upd H p (.lst (List.replicate k.toNat xs).flatten))
theorem Jw : pQ X (binaryOp .Mult) (SQ X.K) := by
 intro pins s σ H x y v u Q I rx ry h
 obtain ⟨l, k, xs, rfl, rfl, hH, h1, h2, hz, q⟩ := h
 cases rx
 obtain ⟨t, rfl⟩ := ry
 obtain ⟨its, r, pl, _⟩ := I.list hH
 have hl := r.length
 obtain ⟨⟨c1, dd, Y7, sl⟩, e, hc, n, hd⟩ := pl.isList
 cases hc; cases hd
 have hlen : its.toArray.size * k.toNat <= sizeLine := by rw [aa0, ← hl]; exact hz
 have Wz : ¬ its.toArray.size * k.toNat > (2 ^ 63 - 1) / 8 := by
   have : (sizeLine : Nat) <= (2 ^ 63 - 1) / 8 := by decide
   omega
 have WB : ¬ (!Builtin.List.listFitsIndex k) = true := by
   rw [fitsIndex_both h1 h2]
   exact aaL
 have SR : ¬ Builtin.List.listTooLong (its.toArray.size * k.toNat) = true := by
   rw [EX hlen]
   exact aaL
 have WC : List.foldl (fun x1 x2 => x1 ++ x2) #[] (List.replicate (if its.toArray.isEmpty = true then 0 else k.toNat) its.toArray) = (List.replicate k.toNat its).flatten.toArray := by
   have f0 : ∀ m : Nat, List.foldl (fun x1 x2 => x1 ++ x2) #[] (List.replicate m its.toArray) = (List.replicate m its).flatten.toArray := fun m => by
     have := foldl_rep its m []
     rw [ach] at this
     exact this
   rw [f0]
   cases its with
   | nil => simp
   | cons a r' => rw [aaE (by simp)]
 refine wpAny_binaryOp_repeat_ref (T := "list") (U := "int") (by decide) ⟨_, e, rfl⟩ (fun s' => typeIs_int s' k t) noFill_list_mul F.fills_int_mul F.slot_int_rmul repeat_list F.slot_int_index.lookup
   (call_meets F.slot_int_rmul (typeIs_int s k t) F.entry_int_rmul (F.args_int_rmul_2 _ _) (lm_int_rmul_list_any k t l its.toArray n dd sl)
     ⟨e, rfl, ⟨_, e, rfl⟩, call_meets F.slot_list_mul ⟨_, e, rfl⟩ F.entry_list_mul (F.args_list_mul_2 _ _) (lm_list_mul_any l its.toArray n dd sl k t WB Wz SR) ⟨e, ?_⟩⟩)
 rw [WC]
 exact ⟨.ref _, _, I.Sb (t' := s.toks) (r.rep k.toNat) (by rw [len_rep, Nat.mul_comm]; exact hz), rfl, q _ I.fresh⟩
theorem aD.rep {K : PySem.W.Frag} {Z : Hp} {ds : List L3.D} {vs : List V} (r : aD K CL Z ds vs) : ∀ k : Nat, aD K CL Z (List.replicate k ds).flatten (List.replicate k vs).flatten
 | 0 => .nil
 | k + 1 => by
   rw [abD, abD, abV, abV]
   exact aD.app r (aD.rep r k)
theorem Ci {k : Int} (h1 : cD X CL b e1 δ (.lst ds) δ1) (h2 : cD X CL b e2 δ1 (.int k) δ2) (i1 : D.bM ds = true) (k1 : -(2 ^ 63) <= k) (k2 : k < 2 ^ 63) (hz : ds.length * k.toNat <= sizeLine) :
   cj X CL b (.BinOp e1 .Mult e2 pos) δ (.lst ((List.replicate k.toNat ds).flatten.map T.sh)) δ2 := fun H Z σ ts vs Q S kk =>
 c9 (EC Jw eT eT) (h1 H Z σ ts vs _ S fun v1 H1 Z1 z1 q1 S1 r1 => h2 H1 Z1 σ ts vs _ S1 fun v2 H2 Z2 z2 q2 S2 r2 => by
   have OZ := r1.mono q2
   cases OZ with
   | lst Wk Rj =>
     cases r2 with
     | int =>
       refine ⟨_, _, _, rfl, rfl, Wk, k1, k2, by rw [← Rj.length]; exact hz, fun p hp => ?_⟩
       have rc := aD.rep (aD.jd S2.tp i1 Rj) k.toNat
       obtain ⟨c, S4⟩ := (bT.rE rc S2).oz (g0 := []) (by rw [aaK, rc.length]) hp
       exact kk _ _ _ (z1.trans z2) (q1.trans (q2.trans c)) S4)
end
section
variable {X : Cx} {CL : Str -> Addr} {b : Bx} {δ : List (Option T)} {x : Str} {pos : Pos}
end
section
variable {X : Cx} {CL : Str -> Addr} {b : Bx} {e1 e2 e iter : Expr} {δ δ1 δ2 : List (Option T)} {pos : Pos}
end
section
variable {X : Cx} {CL : Str -> Addr} {b : Bx} {e : Expr} {δ δ1 δ2 δ3 : List (Option T)} {pos p2 : Pos}
def WD : V -> Option Int -> Option Int -> Hp -> VK -> Prop := fun x lo hi H Q => ∃ z, x = .str z /\ z.length <= sizeLine /\ Q (.str (Txt.slice z lo hi)) H
theorem PJ : V1 X WD := by
 intro pins s σ H x v vl vu lo hi sl Q I rx hs pl pu h
 obtain ⟨z, rfl, hz, q⟩ := h
 obtain ⟨t, rfl⟩ := rx
 obtain ⟨o, ho, hc, hd⟩ := hs
 have fin : ∀ t' k, EP X pins σ Q (.str (Txt.slice z lo hi) t') { s with toks := k } := fun t' k => ⟨.str _, H, I.tok k, ⟨t', rfl⟩, q⟩
 refine ⟨"str", _, F.slot_str_getitem.lookup, typeIs_str _ _ _, ?_⟩
 cases pl with
 | none =>
   cases pu with
   | none => exact ab1 (l := none) (u := none) (st := none) ⟨o, ho, hc, hd⟩ rfl (post_val_or_str ⟨abo (Txt.slice_le z _ _) hz, fin⟩)
   | int j uj => exact ab1 (l := none) (u := some (j, uj)) (st := none) ⟨o, ho, hc, hd⟩ rfl (post_val_or_str ⟨abo (Txt.slice_le z _ _) hz, fin⟩)
 | int i ui =>
   cases pu with
   | none => exact ab1 (l := some (i, ui)) (u := none) (st := none) ⟨o, ho, hc, hd⟩ rfl (post_val_or_str ⟨abo (Txt.slice_le z _ _) hz, fin⟩)
   | int j uj => exact ab1 (l := some (i, ui)) (u := some (j, uj)) (st := none) ⟨o, ho, hc, hd⟩ rfl (post_val_or_str ⟨abo (Txt.slice_le z _ _) hz, fin⟩)
theorem Dt {lo hi : Option Expr} {l h : Option Int} {z : Str} (h1 : cD X CL b e δ (.str z) δ1) (hz : z.length <= sizeLine) (h2 : Ri X CL b lo δ1 l δ2) (h3 : Ri X CL b hi δ2 h δ3) : cj X CL b (.Subscript e (.Slice lo hi none p2) pos) δ (.sh (.str (Txt.slice z l h))) δ3 := fun H Z σ ts vs Q S k => by
 obtain ⟨t2, Wi, w2⟩ := h2
 obtain ⟨t3, Wj, w3⟩ := h3
 refine c9 (yN PJ eT Wi Wj) (h1 H Z σ ts vs _ S fun v H1 Z1 z1 k1 S1 r => w2 H1 Z1 σ ts vs _ S1 fun H2 Z2 z2 k2 S2 => w3 H2 Z2 σ ts vs _ S2 fun H3 Z3 z3 k3 S3 => ?_)
 exact ⟨z, r.sc rfl, hz, k _ H3 Z3 (z1.trans (z2.trans z3)) (k1.trans (k2.trans k3)) (S3.push (.str _))⟩
end
end L3
namespace L3
open PySem PySem.Spec PyProof.Rows L2 PySem.Builtin PySem.Builtin.Str
section
variable {X : Cx} {CL : Str -> Addr} {b : Bx} {e o : Expr} {δ δ1 δ2 : List (Option T)} {pos apos : Pos}
end
end L3
namespace L3
open PySem PySem.Spec PyProof.Rows L2
section
variable {X : Cx} {CL : Str -> Addr} {b : Bx} {δ : List (Option T)} {pos pp : Pos} {x : Str}
theorem c0 {k n : Nat} {A : Type} {arg : A -> List L3.D} {Pre : A -> Prop} {res : A -> T} (a : A) (F : Fc X CL x k n arg Pre res) (hg : Gl X x) (ha : arg a = []) (hp : Pre a) (hc : (res a).clean = true) (hn : (arg a).length = n := by rfl)
   (tV : (x == ("__debug__" : Str)) = false := by decide) : cj X CL b (.Call (.Name x pp) [] [] pos) δ (res a) δ := by
 obtain ⟨f, fd, ps, F1, m, kk, bb⟩ := F.ex
 intro H Z σ ts vs Q S k
 refine c9 (EL F1 F.room hg m kk bb .nil B6 tV) ?_
 refine ⟨H, a, .refl _, fun _ _ q _ => q, by rw [ha]; exact .nil, hn, hp, S.Dk, fun v H' W' fp hh ww wh nw tp rt nd own => ?_⟩
 obtain ⟨Z', z', S'⟩ := S.back hh S.zh ww wh nw tp rt nd own (.inr hc)
 exact k v H' Z' z' hh S'
end
section
variable {K : PySem.W.Frag} {CL : Str -> Addr} {b : Bx} {H Z : Hp} {δ : List (Option T)} {σ : L2.St} {ts tl : List T} {vs : List V} {t : T} {v : V} {d : D} {kH : List (Key × D)} {gs : List (Key × V)}
end
section
variable {X : Cx} {CL : Str -> Addr} {b : Bx} {δ δ1 δ2 : List (Option T)} {e e1 e2 : Expr} {t : T} {d : L3.D} {D : cM} {pos pp ps : Pos} {i : Nat} {x : Str} {fY : List Stmt} {kH : List (Key × L3.D)} {k : Key}
end
section
variable {K : PySem.W.Frag} {CL : Str -> Addr} {b : Bx} {H Z : Hp} {δ : List (Option T)} {σ : L2.St} {ts : List T} {vs : List V} {t : T} {v w : V} {f c : Str} {Eo : List (Str × T)}
theorem bQ.Jx {ft : List Addr} (rt : cy K CL H Z t v ft) : ∀ {zq : List (Str × T)} {gs : List (Str × V)} {fp : List Addr}, bQ K CL H Z (zq ++ (f, .sh (.val v)) :: Eo) gs fp -> ∃ Ca, bQ K CL H Z (zq ++ (f, t) :: Eo) gs Ca /\ Ca.Perm (fp ++ ft)
 | [], _, _, r => by
   cases r with
   | @cons _ _ v' _ _ f1 gp h r =>
     cases h with
     | sh h =>
       cases h
       exact ⟨ft ++ gp, .cons rt r, abl⟩
 | (y, u) :: zq, _, _, r => by
   cases r with
   | @cons _ _ v' _ _ f1 gp h r =>
     obtain ⟨Ca, r', p⟩ := bQ.Jx rt (zq := zq) r
     refine ⟨f1 ++ Ca, .cons h r', ?_⟩
     rw [aaG]
     exact p.append_left f1
theorem bT.Jx {zq : List (Str × T)} (S : bT K CL b H Z δ σ (.ins c (zq ++ (f, .sh (.val v)) :: Eo) :: t :: ts) (w :: v :: vs)) : bT K CL b H Z δ σ (.ins c (zq ++ (f, t) :: Eo) :: ts) (w :: vs) := by
 obtain ⟨fp, gp, e, r, nd, k⟩ := S.rep
 cases r with
 | @cons _ _ _ _ g1 g2 r1 r2 =>
   cases r2 with
   | @cons _ _ _ _ g3 g4 r3 r4 =>
     cases r1 with
     | @ins a dx _ gs _ Zv ha rf =>
       obtain ⟨Ca, Zw, p⟩ := bQ.Jx r3 rf
       have pm : (fp ++ ((a :: Ca) ++ g4)).Perm (fp ++ ((a :: Zv) ++ (g3 ++ g4))) := by
         refine abr fp ?_
         rw [← aaG]
         refine List.Perm.append_right g4 ?_
         rw [aa6]
         exact List.Perm.cons a p
       exact ⟨⟨fp, (a :: Ca) ++ g4, e, .cons (.ins ha Zw) r4, pm.nodup_iff.mpr nd, fun c hc => k c (pm.mem_iff.mp hc)⟩, S.bh, S.zz, S.zh, S.new, S.tp, S.tab⟩
end
def Ve (X : Cx) (CL : Str -> Addr) (b : Bx) (es : List Expr) (δ : List (Option T)) (dv : V -> List D) (t : T) (δ' : List (Option T)) : Prop :=
 ∀ (H Z : Hp) (σ : L2.St) (ts : List T) (vs : List V) (Q : List V -> Hp -> Prop), bT X.K CL b H Z δ σ ts vs →
   (∀ us H' Z' v, aA Z Z' -> aA H H' -> bT X.K CL b H' Z' δ' σ (t :: ts) (v :: vs) -> aD X.K CL H' (dv v) us -> Q us H') -> E1 X es σ H Q
theorem T.rN {f : Str} {v : V} {Eo : List (Str × T)} (h2 : T.aW Eo = true) : ∀ {zq : List (Str × T)}, T.aW zq = true -> T.aW (zq ++ (f, .sh (.val v)) :: Eo) = true
 | [], _ => by rw [ach, T.aW, h2]; rfl
 | (x, t) :: zq, h => by
   rw [T.aW, abt] at h
   rw [aa6, T.aW, h.1, T.rN h2 h.2]; rfl
section
variable {X : Cx} {CL : Str -> Addr} {b : Bx} {δ δ1 δ2 : List (Option T)} {e o : Expr} {es : List Expr} {pos pp apos : Pos} {t : T} {ds : List D} {d : D} {dv : V -> List D}
theorem Fz (h : cj X CL b e δ t δ1) (r : MX X CL b es δ1 ds δ2) (hs : notStar e = true := by rfl) : Ve X CL b (e :: es) δ (fun v => .val v :: ds) t δ2 := fun H Z σ ts vs Q S k =>
 Di (cO eT Ja (cz hs)) (h H Z σ ts vs _ S fun v H1 Z1 z1 k1 S1 => r H1 Z1 σ _ _ _ S1 fun us H2 Z2 z2 k2 S2 r2 => k (v :: us) H2 Z2 v (z1.trans z2) (k1.trans k2) S2 (.cons (.val v) r2))
theorem zu (h : cD X CL b e δ d δ1) (r : Ve X CL b es δ1 dv t δ2) (hs : notStar e = true := by rfl) : Ve X CL b (e :: es) δ (fun v => d :: dv v) t δ2 := fun H Z σ ts vs Q S k =>
 Di (cO eT Ja (cz hs)) (h H Z σ ts vs _ S fun v H1 Z1 z1 k1 S1 r1 => r H1 Z1 σ ts vs _ S1 fun us H2 Z2 v2 z2 k2 S2 r2 => k (v :: us) H2 Z2 v2 (z1.trans z2) (k1.trans k2) S2 (.cons (r1.mono k2) r2))
variable {A : Type} {k n : Nat} {arg : A -> List D} {Pre : A -> Prop} {x c m f : Str}
theorem Zx {res : A -> List (Str × T)} (a : V -> A) {zq Eo : List (Str × T)} (F : Fm X CL x k n arg Pre res) (hg : Gl X x) (h : Ve X CL b (e :: es) δ dv t δ1) (ha : ∀ v, arg (a v) = dv v) (hp : ∀ v, Pre (a v)) (hr : ∀ v, res (a v) = zq ++ (f, .sh (.val v)) :: Eo) (hc : T.aW zq = true) (Pp : T.aW Eo = true) (hn : ∀ v, (arg (a v)).length + 1 = n := by exact fun _ => rfl)
   (tV : (x == ("__debug__" : Str)) = false := by decide) (he : starEach (e :: es) X.env = (false, eval e X.env) :: starEach es X.env := by exact cz rfl) (tW : (backTo pos (starEach es X.env)).any (·.1) = false := by rfl) :
   cj X CL b (.Call (.Name x pp) (e :: es) [] pos) δ (.ins x (zq ++ (f, t) :: Eo)) δ1 := fun H Z σ ts vs Q S kk => by
 obtain ⟨f', fd, ps, M, F1, hm, hb⟩ := F.ex
 exact c9 (B3 M F1 F.room hg hm hb .nil B6 Ja tV he tW) (h H Z σ ts vs _ S fun us H1 Z1 v z1 k1 S1 r y dx hx Sz ne => by
   rw [abq]
   refine ⟨H1, H1, a v, y, dx, us, rfl, hx, Sz, ne, rfl, .refl _, fun _ _ q _ => q, by rw [ha]; exact r, hn v, hp v, S1.Dk, fun H' W' fp hh ww wh nw tp rt nd own => ⟨rfl, ?_⟩⟩
   obtain ⟨Z', z', S'⟩ := S1.back hh S1.zh ww wh nw tp rt nd own (.inr (by rw [T.clean, hr]; exact T.rN Pp hc))
   rw [hr] at S'
   exact kk _ H' Z' (z1.trans z') (k1.trans hh) S'.Jx)
end
section
variable {X : Cx}
end
section
variable {X : Cx} {CL : Str -> Addr} {b : Bx} {δ δ1 : List (Option T)} {e : Expr} {pos pp : Pos} {l : List Bool}
end
namespace Rv
theorem Du : PySem.Slot "reversed" "__init__" "object.__init__" :=
 .of (owner := "object") (n := "__init__") (by rw [typeLookup_type, builtinLookup_eq_fast]; kernel_rfl) (by decide +kernel) (by decide +kernel) (by decide +kernel)
   (by first | exact .inl (by decide +kernel) | exact .inr (by decide +kernel)) (by rw [isSubtype_type]; kernel_rfl)
theorem called : TypeCalled "reversed" "reversed.__new__" "object.__init__" :=
 ⟨by decide +kernel, by decide +kernel, ⟨_, _, PySem.F.mro_reversed⟩, PySem.F.made_reversed, by decide +kernel, PySem.F.sub_reversed_self, Du⟩
def obj (t : Addr) (i : Int) : Obj := { cls := .type "reversed", data := .fields #[.ref t, rawInt i] }
section
variable {prog : Program} {w : World} {A : Around} {E : Value -> Shared -> Prop} {s : Shared}
end
end Rv
namespace Rv
section
variable {prog : Program} {w : World} {A : Around} {E : Value -> Shared -> Prop} {s : Shared}
end
end Rv
section
variable {X : Cx} {tg : Expr}
end
section
variable {X : Cx} {CL : Str -> Addr} {b : Bx} {δ δ1 : List (Option T)} {e : Expr} {ds : List D} {tg : Expr} {pr pc : Pos}
end
section
variable {X : Cx} {CL : Str -> Addr} {b : Bx} {δ δ1 : List (Option T)} {e : Expr} {t : T} {tl Ji tt XA : List T} {D : cM} {pos pp pa pb : Pos}
variable {fY : List Stmt} {i i2 : Nat} {x y : Str} {DD : cM}
end
section
variable {X : Cx} {CL : Str -> Addr} {b : Bx} {δ δ1 : List (Option T)} {e : Expr} {ds : List D} {tg : Expr} {pr pc : Pos} {l : Bool}
end
section
variable {X : Cx} {CL : Str -> Addr} {b : Bx} {δ : List (Option T)}
end
section
variable {K : PySem.W.Frag} {CL : Str -> Addr} {b : Bx} {H Z : Hp} {δ : List (Option T)} {σ : L2.St} {ts tl : List T} {vs : List V} {ds : List D} {us : List V}
end
section
variable {X : Cx} {CL : Str -> Addr} {b : Bx} {δ δ1 : List (Option T)} {e : Expr} {tl Ji : List T} {ds : List L3.D} {D : cM} {pos pp pa pb : Pos} {i : Nat} {x : Str} {fY : List Stmt}
end
section
variable {X : Cx} {CL : Str -> Addr} {b : Bx} {δ δ1 δ2 δ3 : List (Option T)} {e e1 e2 : Expr} {ds Jq : List L3.D} {pos p2 : Pos}
end
section
variable {a₀ xs : Array Keyed} {ι : Nat -> Nat} {n : Nat}
structure Tag (a₀ xs : Array Keyed) (ι : Nat -> Nat) (n : Nat) : Prop where
 pl : ∀ k, k < a₀.size -> xs[k]? = a₀[ι k]?
 lo : ∀ k, k < n -> ι k < n
 hi : ∀ k, n <= k -> ι k = k
def jY (xs : Array Keyed) (ι : Nat -> Nat) (n : Nat) : Prop := ∀ i j, i < j -> j < n -> PyProof.Rows.K xs i < PyProof.Rows.K xs j \/ (PyProof.Rows.K xs i = PyProof.Rows.K xs j /\ ι i < ι j)
def t8 (xs : Array Keyed) (ι : Nat -> Nat) (n : Nat) : Prop := ∀ i j, i < j -> j < n -> PyProof.Rows.K xs j < PyProof.Rows.K xs i \/ (PyProof.Rows.K xs j = PyProof.Rows.K xs i /\ ι j < ι i)
theorem Tag.grow (h : Tag a₀ xs ι n) : Tag a₀ xs ι (n + 1) := ⟨h.pl, fun k hk => by
   by_cases e : k < n
   . have := h.lo k e
     omega
   . have := h.hi k (by omega)
     omega, fun k hk => h.hi k (by omega)⟩
theorem Tag.WG (h : Tag a₀ xs ι n) {m : Nat} (hm : n <= m) : Tag a₀ xs ι m := ⟨h.pl, fun k hk => by
   by_cases e : k < n
   . have := h.lo k e
     omega
   . have := h.hi k (by omega)
     omega, fun k hk => h.hi k (by omega)⟩
def turned (ι : Nat -> Nat) (i j : Nat) : Nat -> Nat := fun k => if i <= k /\ k < j then ι (i + j - 1 - k) else ι k
theorem Tag.turn (h : Tag a₀ xs ι n) {i j : Nat} (hj : j <= n) (hn : n <= a₀.size) (hs : xs.size = a₀.size) : Tag a₀ (mirror xs i j ((j - i) / 2)) (turned ι i j) n := by
 refine ⟨fun k hk => ?_, fun k hk => ?_, fun k hk => ?_⟩
 . rw [getElem?_mirror_all (by omega)]
   unfold turned
   split
   . exact h.pl _ (by omega)
   . exact h.pl _ hk
 . unfold turned
   split
   . exact h.lo _ (by omega)
   . exact h.lo _ hk
 . unfold turned
   rw [aaE (by omega)]
   exact h.hi k hk
def Dv (ι : Nat -> Nat) (k l : Nat) : Nat -> Nat := fun p => if p = l then ι k else if l < p /\ p <= k then ι (p - 1) else ι p
theorem Tag.sink (h : Tag a₀ xs ι n) {l : Nat} (hl : l <= n) (hn : n < a₀.size) (hs : xs.size = a₀.size) : Tag a₀ (bubble xs n (n - l)) (Dv ι n l) (n + 1) := by
 have hg := h.grow
 refine ⟨fun k hk => ?_, fun k hk => ?_, fun k hk => ?_⟩
 . rw [getElem?_bubble (by omega) (n - l) (by omega), show n - (n - l) = l by omega]
   unfold Dv
   split
   . exact h.pl _ (by omega)
   . split
     . exact h.pl _ (by omega)
     . exact h.pl _ hk
 . unfold Dv
   split
   . exact hg.lo _ (by omega)
   . split
     . exact hg.lo _ (by omega)
     . exact hg.lo _ hk
 . unfold Dv
   rw [aaE (by omega), aaE (by omega)]
   exact hg.hi k hk
theorem jY.le (h : jY xs ι n) {i j : Nat} (zv : i <= j) (hj : j < n) : PyProof.Rows.K xs i <= PyProof.Rows.K xs j := by
 by_cases e : i = j
 . subst e; exact Int.le_refl _
 . rcases h i j (by omega) hj with z | z <;> omega
end
section
variable {prog : Program} {w : World} {A : Around} {E : Value -> Shared -> Prop} {s : Shared} {a₀ : Array Keyed}
theorem zx {st : SortSt} {ι : Nat -> Nat} {a eF : Nat} {Q : AscSt -> SortSt -> Prop} (h0 : IntKeys a₀) (hn : eF <= a₀.size) (ha : 1 <= a) (Zy : a <= eF) (hB : SBase a₀ st)
   (ht : Tag a₀ (arrOf st) ι a) (hs : jY (arrOf st) ι a)
   (h : ∀ n, a <= n -> n <= eF -> Tag a₀ (arrOf st) ι n -> jY (arrOf st) ι n -> (n = eF \/ PyProof.Rows.K (arrOf st) n < PyProof.Rows.K (arrOf st) (n - 1)) -> Q (none, n) st) :
   wpS (model prog w) A E s (ascLoop a eF) Q st := by
 unfold ascLoop
 refine acj (I := fun x c z => z = st /\ c = (none, x) /\ Tag a₀ (arrOf st) ι x /\ jY (arrOf st) ι x) ?one ?all ⟨rfl, rfl, ht, hs⟩
 case all =>
   rintro c z ⟨rfl, rfl, t, o⟩
   have e : max a eF = eF := by omega
   rw [e] at t o ⊢
   exact h eF Zy (aaI _) t o (.inl rfl)
 case one =>
   rintro x c z WH Zz ⟨rfl, rfl, t, o⟩
   dsimp only
   refine abp (wpS_ltK hB h0 (by omega) (by omega) ?_)
   by_cases hl : PyProof.Rows.K (arrOf z) x < PyProof.Rows.K (arrOf z) (x - 1)
   . simp only [hl, decide_true, ab4]
     exact abB (h x WH (by omega) t o (.inr hl))
   . simp only [hl, decide_false, abv, abU]
     refine abB ⟨rfl, rfl, t.grow, fun i j zv hj => ?_⟩
     by_cases ZC : j < x
     . exact o i j zv ZC
     . have e : j = x := by omega
       subst e
       have q := o.le (i := i) (j := j - 1) (by omega) (by omega)
       have l1 := t.lo i zv
       have l2 := t.hi j (aaI _)
       omega
theorem zy {st : SortSt} {ι : Nat -> Nat} {n eF : Nat} {Q : Option Nat -> SortSt -> Prop} (h0 : IntKeys a₀) (hn : eF <= a₀.size) (h1 : 1 <= n) (Jy : n <= eF) (hB : SBase a₀ st)
   (ht : Tag a₀ (arrOf st) ι n) (hs : t8 (arrOf st) ι n)
   (h : ∀ m z κ, SBase a₀ z -> 1 <= m -> m <= eF -> Tag a₀ (arrOf z) κ m -> jY (arrOf z) κ m -> Q (some m) z) :
   wpS (model prog w) A E s (tail3 n eF) Q st := by
 unfold tail3
 have hz : n <= (arrOf st).size := by rw [hB.size]; omega
 have XU : SBase a₀ (setArr st (mirror (arrOf st) 0 n ((n - 0) / 2))) := hB.setArr (mirror_perm _ _ _ _)
 refine abp (wpS_reverse ?_)
 refine abp (zx (ι := turned ι 0 n) h0 hn h1 Jy XU (ht.turn (aaI _) (by omega) hB.size) ?_ fun m m1 m2 t o _ => abB (h m _ _ XU (by omega) m2 t o))
 intro i j zv hj
 show PyProof.Rows.K (mirror (arrOf st) 0 n ((n - 0) / 2)) i < PyProof.Rows.K (mirror (arrOf st) 0 n ((n - 0) / 2)) j \/ _
 rw [K_mirror hz, K_mirror hz, aaF (by omega), aaF (by omega)]
 unfold turned
 rw [aaF (by omega), aaF (by omega)]
 exact hs _ _ (by omega) (by omega)
structure ql (xs : Array Keyed) (ι : Nat -> Nat) (p x : Nat) : Prop where
 f : t8 xs ι p
 l : ∀ i j, i < p -> p <= j -> j < x -> PyProof.Rows.K xs j < PyProof.Rows.K xs i
 e : ∀ i j, p <= i -> i < j -> j < x -> PyProof.Rows.K xs i = PyProof.Rows.K xs j /\ ι i < ι j
theorem ql.one {xs : Array Keyed} {ι : Nat -> Nat} {p : Nat} (h : ql xs ι p (p + 1)) : t8 xs ι (p + 1) := fun i j zv hj => by
 by_cases e : j < p
 . exact h.f i j zv e
 . exact .inl (h.l i j (by omega) (by omega) hj)
theorem ql.turn {xs : Array Keyed} {ι : Nat -> Nat} {p x : Nat} (h : ql xs ι p x) (hx : x <= xs.size) : t8 (mirror xs p x ((x - p) / 2)) (turned ι p x) x := by
 intro i j zv hj
 rw [K_mirror hx, K_mirror hx]
 unfold turned
 by_cases hi : p <= i
 . rw [aaF (by omega), aaF (by omega), aaF (by omega), aaF (by omega)]
   have q := h.e (p + x - 1 - j) (p + x - 1 - i) (by omega) (by omega) (by omega)
   exact .inr ⟨q.1, q.2⟩
 . rw [aaE (show ¬ (p <= i /\ i < x) by omega), aaE (show ¬ (p <= i /\ i < x) by omega)]
   by_cases hjp : p <= j
   . rw [aaF (by omega), aaF (by omega)]
     exact .inl (h.l _ _ (by omega) (by omega) (by omega))
   . rw [aaE (by omega), aaE (by omega)]
     exact h.f i j zv (by omega)
theorem t8.le {xs : Array Keyed} {ι : Nat -> Nat} {n : Nat} (h : t8 xs ι n) {i j : Nat} (zv : i <= j) (hj : j < n) : PyProof.Rows.K xs j <= PyProof.Rows.K xs i := by
 by_cases e : i = j
 . subst e; exact Int.le_refl _
 . rcases h i j (by omega) hj with z | z <;> omega
theorem t8.half {xs : Array Keyed} {ι : Nat -> Nat} {x : Nat} (h : t8 xs ι x) (hx : 0 < x) (hl : PyProof.Rows.K xs x < PyProof.Rows.K xs (x - 1)) : ql xs ι x (x + 1) :=
 ⟨h, fun i j hi h1 h2 => by
   have e : j = x := by omega
   subst e
   have := h.le (i := i) (j := j - 1) (by omega) (by omega)
   omega, fun i j h1 h2 h3 => by omega⟩
theorem Dw {st : SortSt} {ι : Nat -> Nat} {n eF : Nat} {Q : DescSt -> SortSt -> Prop} (h0 : IntKeys a₀) (hn : eF <= a₀.size) (Jy : n + 1 <= eF) (hB : SBase a₀ st)
   (ht : Tag a₀ (arrOf st) ι (n + 1)) (hs : ql (arrOf st) ι n (n + 1))
   (h : ∀ m tT z κ, SBase a₀ z -> n + 1 <= m -> m <= eF -> tT + 1 <= m -> Tag a₀ (arrOf z) κ m -> ql (arrOf z) κ (m - (tT + 1)) m -> Q (none, m, tT) z) :
   wpS (model prog w) A E s (descLoop (n + 1) eF) Q st := by
 unfold descLoop
 refine acj (I := fun x c z => ∃ tT κ, c = (none, x, tT) /\ SBase a₀ z /\ tT + 1 <= x /\ Tag a₀ (arrOf z) κ x /\ ql (arrOf z) κ (x - (tT + 1)) x) ?one ?all ⟨0, ι, rfl, hB, by omega, ht, hs⟩
 case all =>
   rintro c z ⟨tT, κ, rfl, b2, q, t, o⟩
   have e : max (n + 1) eF = eF := by omega
   rw [e] at q t o ⊢
   exact h eF tT z κ b2 Jy (aaI _) q t o
 case one =>
   rintro x c z WH Zz ⟨tT, κ, rfl, b2, q, t, o⟩
   dsimp only
   have hz : x <= (arrOf z).size := by rw [b2.size]; omega
   refine abp (wpS_ltK b2 h0 (by omega) (by omega) ?_)
   by_cases hl : PyProof.Rows.K (arrOf z) x < PyProof.Rows.K (arrOf z) (x - 1)
   . simp only [hl, decide_true, ab4]
     by_cases hq : tT > 0
     . rw [aaF hq]
       have hm : ∀ k, PyProof.Rows.K (mirror (arrOf z) (x - (tT + 1)) x ((x - (x - (tT + 1))) / 2)) k = PyProof.Rows.K (arrOf z) k := K_mirror_equal hz fun k k1 k2 => by
         by_cases e : k = x - 1
         . rw [e]
         . exact (o.e k (x - 1) k1 (by omega) (by omega)).1
       refine abp (wpS_reverse (abB ⟨0, turned κ (x - (tT + 1)) x, rfl, b2.setArr (mirror_perm _ _ _ _), by omega, (t.turn (aaI _) (by omega) b2.size).grow, ?_⟩))
       have hf := o.turn hz
       refine hf.half (by omega) ?_
       rw [hm, hm]
       exact hl
     . rw [aaE hq]
       have e0 : tT = 0 := by omega
       subst e0
       obtain ⟨y, rfl⟩ : ∃ y, x = y + 1 := ⟨x - 1, by omega⟩
       have hf : t8 (arrOf z) κ (y + 1) := ql.one o
       exact abB ⟨0, κ, rfl, b2, by omega, t.grow, hf.half (by omega) hl⟩
   . simp only [hl, decide_false, abv, abU]
     refine abp (wpS_ltK b2 h0 (by omega) (by omega) ?_)
     by_cases hg : PyProof.Rows.K (arrOf z) (x - 1) < PyProof.Rows.K (arrOf z) x
     . simp only [hg, decide_true, ab4]
       exact abB (h x tT z κ b2 WH (by omega) q t o)
     . simp only [hg, decide_false, abv, abU]
       have he : PyProof.Rows.K (arrOf z) x = PyProof.Rows.K (arrOf z) (x - 1) := by omega
       refine abB ⟨tT + 1, κ, rfl, b2, by omega, t.grow, ?_⟩
       rw [show x + 1 - (tT + 1 + 1) = x - (tT + 1) by omega]
       refine ⟨o.f, fun i j hi h1 h2 => ?_, fun i j h1 h2 h3 => ?_⟩
       . by_cases e : j = x
         . rw [e, he]
           exact o.l i (x - 1) hi (by omega) (by omega)
         . exact o.l i j hi h1 (by omega)
       . by_cases e : j = x
         . subst e
           have l1 := t.lo i h2
           have l2 := t.hi j (aaI _)
           refine ⟨?_, by omega⟩
           rw [he]
           by_cases e2 : i = j - 1
           . rw [e2]
           . exact (o.e i (j - 1) h1 (by omega) (by omega)).1
         . exact o.e i j h1 h2 (by omega)
theorem uy {st : SortSt} {ι : Nat -> Nat} {n eF : Nat} {Q : Option Nat -> SortSt -> Prop} (h0 : IntKeys a₀) (hn : eF <= a₀.size) (Jy : n + 1 <= eF) (hB : SBase a₀ st)
   (ht : Tag a₀ (arrOf st) ι (n + 1)) (hs : ql (arrOf st) ι n (n + 1))
   (h : ∀ m z κ, SBase a₀ z -> 1 <= m -> m <= eF -> Tag a₀ (arrOf z) κ m -> jY (arrOf z) κ m -> Q (some m) z) :
   wpS (model prog w) A E s (descPart n eF) Q st := by
 unfold descPart
 refine abp (wpS_lift (wpAny_rule ⟨rfl, ?_⟩))
 refine abp (Dw h0 hn Jy hB ht hs fun m tT z κ b2 m1 m2 q t o => ?_)
 dsimp only
 have hz : m <= (arrOf z).size := by rw [b2.size]; omega
 by_cases hq : tT > 0
 . rw [aaF hq]
   exact abp (wpS_reverse (zy h0 hn (by omega) m2 (b2.setArr (mirror_perm _ _ _ _)) (t.turn (aaI _) (by omega) b2.size) (o.turn hz) h))
 . rw [aaE hq]
   have e0 : tT = 0 := by omega
   subst e0
   obtain ⟨y, rfl⟩ : ∃ y, m = y + 1 := ⟨m - 1, by omega⟩
   exact zy h0 hn (by omega) m2 b2 t (ql.one o) h
theorem FD {st : SortSt} {eF : Nat} {Q : Option Nat -> SortSt -> Prop} (h0 : IntKeys a₀) (hn : eF <= a₀.size) (h1 : 1 <= eF) (hB : SBase a₀ st) (ht : Tag a₀ (arrOf st) id 0)
   (h : ∀ m z κ, SBase a₀ z -> 1 <= m -> m <= eF -> Tag a₀ (arrOf z) κ m -> jY (arrOf z) κ m -> Q (some m) z) :
   wpS (model prog w) A E s (countRun' 0 eF) Q st := by
 rw [countRun0_eq]
 refine abp (zx (ι := id) h0 hn (aaI 1) h1 hB (ht.WG (by omega)) (fun i j zv hj => by omega) fun n n1 n2 t o ZD => ?_)
 dsimp only
 by_cases Jy : n = eF
 . rw [if_pos (by simpa using Jy)]
   exact abB (h n st id hB n1 n2 t o)
 . rw [if_neg (by simpa using Jy)]
   have t6 := ZD.resolve_left Jy
   have hz : n <= (arrOf st).size := by rw [hB.size]; omega
   by_cases XW : n > 1
   . rw [aaF XW]
     refine abp (wpS_ltK hB h0 (by omega) (by omega) ?_)
     by_cases hr : PyProof.Rows.K (arrOf st) 0 < PyProof.Rows.K (arrOf st) (n - 1)
     . simp only [hr, decide_true, ab4]
       exact abB (h n st id hB n1 n2 t o)
     . simp only [hr, decide_false, abv, abU]
       have WK : ∀ k, 0 <= k -> k < n -> PyProof.Rows.K (arrOf st) k = PyProof.Rows.K (arrOf st) (n - 1) := fun k _ hk => by
         have a1 := o.le (i := 0) (j := k) (by omega) hk
         have a2 := o.le (i := k) (j := n - 1) (by omega) (by omega)
         omega
       have hm := K_mirror_equal (i := 0) hz WK
       refine abp (wpS_reverse (uy (ι := turned id 0 n) h0 hn (by omega) (hB.setArr (mirror_perm _ _ _ _)) (t.turn (aaI _) (by omega) hB.size).grow ?_ h))
       have hh : ql (arrOf st) id 0 n := ⟨fun i j _ hj => by omega, fun i j hi => by omega, fun i j i1 i2 i3 => ⟨by rw [WK i (by omega) (by omega), WK j (by omega) i3], i2⟩⟩
       refine (hh.turn hz).half (by omega) ?_
       rw [hm, hm]
       exact t6
   . rw [aaE XW]
     have e1 : n = 1 := by omega
     subst e1
     exact uy h0 hn (by omega) hB t.grow ((show t8 (arrOf st) id 1 from fun i j zv hj => by omega).half (by omega) t6) h
theorem FE {st : SortSt} {ι : Nat -> Nat} {n ok : Nat} {Q : Bool -> SortSt -> Prop} (h0 : IntKeys a₀) (hn : n <= a₀.size) (c7 : ok <= n) (WL : 1 <= ok) (hB : SBase a₀ st) (ht : Tag a₀ (arrOf st) ι ok) (hs : jY (arrOf st) ι ok)
   (h : ∀ z κ, SBase a₀ z -> Tag a₀ (arrOf z) κ n -> jY (arrOf z) κ n -> Q true z) : wpS (model prog w) A E s (binarySort' 0 n ok) Q st := by
 rw [binarySort'_eq]
 simp only [Nat.zero_add]
 refine abp (wpS_mono (acj (I := fun k c z => c = (none, ()) /\ SBase a₀ z /\ ∃ κ, Tag a₀ (arrOf z) κ k /\ jY (arrOf z) κ k)
   (Q := fun c z => c = (none, ()) /\ SBase a₀ z /\ ∃ κ, Tag a₀ (arrOf z) κ n /\ jY (arrOf z) κ n) ?one ?all ?new) ?post)
 case post =>
   rintro c z ⟨rfl, b2, κ, t, o⟩
   exact abB (h z κ b2 t o)
 case new =>
   rw [show max ok 1 = ok by omega]
   exact ⟨rfl, hB, ι, ht, hs⟩
 case all =>
   rintro c z ⟨hc, b2, κ, t, o⟩
   rw [show max (max ok 1) n = n by omega] at t o
   exact ⟨hc, b2, κ, t, o⟩
 case one =>
   rintro k c z hak Vf ⟨rfl, b2, κ, t, o⟩
   have hk : k < a₀.size := by omega
   refine abp (wpS_mono (acj (I := fun x c y => y = z /\ ∃ l r, c = (none, l, r) /\ l <= r /\ r <= k /\ r - l <= k - x /\ (∀ i, i < l -> PyProof.Rows.K (arrOf z) i <= PyProof.Rows.K (arrOf z) k) /\ (∀ i, r <= i -> i < k -> PyProof.Rows.K (arrOf z) k < PyProof.Rows.K (arrOf z) i))
     (Q := fun c y => y = z /\ ∃ l r, c = (none, l, r) /\ l <= k /\ (∀ i, i < l -> PyProof.Rows.K (arrOf z) i <= PyProof.Rows.K (arrOf z) k) /\ (∀ i, l <= i -> i < k -> PyProof.Rows.K (arrOf z) k < PyProof.Rows.K (arrOf z) i)) ?two ?fin ?beg) ?WM)
   case beg => exact ⟨rfl, 0, k, rfl, by omega, by omega, by omega, fun i hi => by omega, fun i g1 g2 => by omega⟩
   case fin =>
     rintro c y ⟨rfl, l, r, rfl, g1, g2, g3, g4, g5⟩
     have e : l = r := by omega
     subst e
     exact ⟨rfl, l, l, rfl, g2, g4, g5⟩
   case two =>
     rintro x c y _ hxk ⟨rfl, l, r, rfl, g1, g2, g3, g4, g5⟩
     dsimp only
     by_cases SV : l ≥ r
     . rw [aaF SV]
       have e : l = r := by omega
       subst e
       exact abB ⟨rfl, l, l, rfl, g2, g4, g5⟩
     . rw [aaE SV]
       refine abp (wpS_ltK b2 h0 hk (by omega) ?_)
       by_cases hl : PyProof.Rows.K (arrOf y) k < PyProof.Rows.K (arrOf y) ((l + r) / 2)
       . simp only [hl, decide_true, ab4]
         refine abB ⟨rfl, l, (l + r) / 2, rfl, by omega, by omega, by omega, g4, fun i i1 i2 => ?_⟩
         have := o.le i1 i2
         omega
       . simp only [hl, decide_false, abv, abU]
         refine abB ⟨rfl, (l + r) / 2 + 1, r, rfl, by omega, by omega, by omega, fun i i1 => ?_, g5⟩
         have := o.le (i := i) (j := (l + r) / 2) (by omega) (by omega)
         omega
   case WM =>
     rintro c y ⟨rfl, l, r, rfl, g2, g4, g5⟩
     show wpS _ _ _ _ (do moveDown' k l; pure (ForInStep.yield (none, ()))) _ _
     rw [moveDown'_eq]
     have WN : k < (arrOf y).size := by rw [b2.size]; exact hk
     refine abp (wpS_modify (abB ⟨rfl, b2.setArr (bubble_perm _ _ _), Dv κ k l, t.sink g2 hk b2.size, ?_⟩))
     intro i j zv hj
     show PyProof.Rows.K (bubble (arrOf y) k (k - l)) i < PyProof.Rows.K (bubble (arrOf y) k (k - l)) j \/ (PyProof.Rows.K (bubble (arrOf y) k (k - l)) i = PyProof.Rows.K (bubble (arrOf y) k (k - l)) j /\ _)
     rw [K_bubble WN (by omega), K_bubble WN (by omega), show k - (k - l) = l by omega]
     unfold Dv
     have tk := t.hi k (aaI _)
     by_cases ei : i = l
     . rw [aaF ei, aaF ei, aaE (show ¬ j = l by omega), aaE (show ¬ j = l by omega), aaF (by omega), aaF (by omega)]
       exact .inl (g5 _ (by omega) (by omega))
     . rw [aaE ei, aaE ei]
       by_cases ej : j = l
       . rw [aaF ej, aaF ej, aaE (by omega), aaE (by omega)]
         have := g4 i (by omega)
         have := t.lo i (by omega)
         omega
       . rw [aaE ej, aaE ej]
         by_cases hi : l < i /\ i <= k
         . rw [aaF hi, aaF hi, aaF (by omega), aaF (by omega)]
           exact o _ _ (by omega) (by omega)
         . rw [aaE hi, aaE hi]
           by_cases Vg : l < j /\ j <= k
           . rw [aaF Vg, aaF Vg]
             exact o _ _ (by omega) (by omega)
           . rw [aaE Vg, aaE Vg]
             exact o _ _ (by omega) (by omega)
def FG (a₀ : Array Keyed) (st : SortSt) : Prop := failedOf st = none /\ pendingOf st = #[(0, a₀.size, 0)] /\ ∃ κ, Tag a₀ (arrOf st) κ a₀.size /\ jY (arrOf st) κ a₀.size /\ (arrOf st).size = a₀.size
theorem Nj {st : SortSt} {κ : Nat -> Nat} (hB : SBase a₀ st) (t : Tag a₀ (arrOf st) κ a₀.size) (o : jY (arrOf st) κ a₀.size) : FG a₀ (setPending st ((pendingOf st).push (0, a₀.size, 0))) :=
 ⟨hB.failed, by show (pendingOf st).push _ = _; rw [hB.pend]; rfl, κ, t, o, hB.size⟩
theorem Dy {st : SortSt} {Q : Unit -> SortSt -> Prop} (h0 : IntKeys a₀) (hB : SBase a₀ st) (ht : Tag a₀ (arrOf st) id 0) (h2 : 2 <= a₀.size) (Nk : a₀.size < 64)
   (h : ∀ z κ, failedOf z = none -> Tag a₀ (arrOf z) κ a₀.size -> jY (arrOf z) κ a₀.size -> (arrOf z).size = a₀.size -> Q () z) : wpS (model prog w) A E s sortRuns' Q st := by
 rw [sortRuns'_eq]
 refine abp (wpS_get ?_)
 dsimp only
 have ZE : minRun' a₀.size a₀.size 0 = a₀.size := by
   obtain ⟨f, hf⟩ : ∃ f, a₀.size = f + 1 := ⟨a₀.size - 1, by omega⟩
   have q : minRun' (f + 1) a₀.size 0 = a₀.size := by
     rw [minRun'_succ, aaF Nk]
     rfl
   rwa [← hf] at q
 simp only [hB.size, ZE]
 refine abp (wpS_mono (acj (I := fun x c z => (x = 0 /\ c = (none, 0) /\ SBase a₀ z /\ Tag a₀ (arrOf z) id 0) \/ (1 <= x /\ c = (none, a₀.size) /\ FG a₀ z))
   (Q := fun c z => c = (none, a₀.size) /\ FG a₀ z) ?one ?all (.inl ⟨rfl, rfl, hB, ht⟩)) ?WM)
 case all =>
   rintro c z (⟨hx, _⟩ | ⟨_, hc, hD⟩)
   . omega
   . exact ⟨hc, hD⟩
 case one =>
   rintro x c z _ hx (⟨rfl, rfl, b2, t0⟩ | ⟨hx1, rfl, hD⟩)
   . dsimp only
     rw [aaE (by omega)]
     simp only [Nat.sub_zero, Nat.min_self, Nat.zero_add]
     refine abp (FD h0 (aaI _) (by omega) b2 t0 fun m z2 κ b3 m1 m2 t o => ?_)
     dsimp only
     by_cases hl : m < a₀.size
     . rw [aaF hl]
       refine abp (wpS_lift (wpAny_rule ⟨rfl, ?_⟩))
       refine abp (FE h0 (aaI _) m2 m1 b3 t o fun z3 κ3 b4 t4 o4 => ?_)
       simp only [Bool.not_true, abv, abU]
       refine abp (wpS_get ?_)
       have hb : (pendingOf z3).back? = none := by rw [b4.pend]; rfl
       rw [hb]
       dsimp only
       exact abp (wpS_modify (abB (.inr ⟨by omega, rfl, Nj b4 t4 o4⟩)))
     . rw [aaE hl]
       have hm : m = a₀.size := by omega
       subst hm
       refine abp (wpS_get ?_)
       have hb : (pendingOf z2).back? = none := by rw [b3.pend]; rfl
       rw [hb]
       dsimp only
       exact abp (wpS_modify (abB (.inr ⟨by omega, rfl, Nj b3 t o⟩)))
   . dsimp only
     rw [aaF (aaI _)]
     exact abB ⟨rfl, hD⟩
 case WM =>
   rintro c z ⟨rfl, hD⟩
   dsimp only
   refine abp (wpS_mono (acj (I := fun _ c y => y = z /\ c = (none, ())) (Q := fun c y => y = z /\ c = (none, ())) ?_ (fun _ _ q => q) ⟨rfl, rfl⟩) ?_)
   . rintro x c y _ _ ⟨rfl, rfl⟩
     refine abp (wpS_get ?_)
     rw [aaF (by rw [hD.2.1]; exact aaI 1)]
     exact abB ⟨rfl, rfl⟩
   . rintro c y ⟨rfl, rfl⟩
     obtain ⟨κ, t, o, z1⟩ := hD.2.2
     exact abB (h _ κ hD.1 t o z1)
end
section
variable {X : Cx}
end
section
variable {X : Cx} {CL : Str -> Addr} {b : Bx} {δ δ1 : List (Option T)} {e : Expr} {pos pp p1 p2 : Pos} {kj : Nat}
end
section
variable {X : Cx} {i : Nat} {x : Str}
theorem ZF (hi : X.N[i]? = some x) (h : X.env.scope.names.lookup x = some .local) (hf : X.fn x = true) (hd : (x == ("__debug__" : Str)) = false := by decide) (hc : (x == ("__classdict__" : Str)) = false := by decide) : Ln X i x := ⟨⟨hi, .inl h, hd, hc⟩, .inl h, .inl hf⟩
theorem ZG (hi : X.N[i]? = some x) (h : X.env.scope.names.lookup x = some .cell) (hf : X.fn x = true) (hd : (x == ("__debug__" : Str)) = false := by decide) (hc : (x == ("__classdict__" : Str)) = false := by decide) : Ln X i x := ⟨⟨hi, .inr (.inl h), hd, hc⟩, .inr h, .inl hf⟩
end
theorem cH {P : Program} {w : World} {K : PySem.W.Frag} {mg : Str -> Option Value} {base : Heap} {k : Nat} {f : Addr} {fd : FuncData} {ps : List Str} {sp : Sp} {x : Str} (G : bL P w K mg base fL k f fd ps sp) (m : mg x = some (.ref f)) (q : PySem.W.keepIn K (.ref f) = true) (b : Binds K fd ps []) :
   ∃ f fd ps, bL P w K mg base fL k f fd ps sp /\ mg x = some (.ref f) /\ PySem.W.keepIn K (.ref f) = true /\ Binds K fd ps [] := ⟨_, _, _, G, m, q, b⟩
section
variable {X : Cx} {CL : Str -> Addr} {b : Bx} {δ δ1 δc : List (Option T)} {scope : Scope} {y : Str} {Nc : List Str} {ix : List Nat} {elt iter : Expr} {ifs : List Expr} {px pc pos : Pos} {p : L3.D -> Bool} {g : L3.D -> T} {ds : List L3.D}
theorem SW (sc : eU X scope y Nc ix) : jX X scope [y] Nc ix := ⟨sc.kind, sc.oB, sc.nd, sc.names, (fun x hx => by rw [abi] at hx; subst hx; exact sc.own), sc.frees, sc.hd, sc.M6⟩
theorem SX (sc : eU X scope y Nc ix) (h : Block X CL scope Nc ifs elt δc ds p g) (h1 : (y == ("__debug__" : Str)) = false) (h2 : (y == ("__classdict__" : Str)) = false) : oH X CL scope Nc [y].length (.Name y px) part1 ifs elt δc ds p g := fun C s0 H0 f0 b' =>
 ⟨Fp (i := 0) sc.nd (PD (by rw [sc.hd]; rfl) sc.own h1 h2), fun d hd => ⟨[d], rfl, rfl, (h C s0 H0 f0 b' d hd).1, (h C s0 H0 f0 b' d hd).2⟩⟩
theorem Jz (sc : eU X scope y Nc ix) (hc : X.calm = true) (h : M7 X CL b (.Name y px) iter δ ds δ1) (hb : (δc = tZ δ1 ix /\ ∀ d ∈ ds, (g d).clean = true) \/ δc = yW δ1 ix) (inner : Block X CL scope Nc ifs elt δc ds p g) (hlen : ds.length <= sizeLine)
   (hs : ∀ x, foldedSetIterable iter X.env x = pure x := by intro _; rfl) (h1 : (y == ("__debug__" : Str)) = false := by decide) (h2 : (y == ("__classdict__" : Str)) = false := by decide) : cj X CL b (.ListComp elt [⟨.Name y px, iter, ifs, 0⟩] scope pos) δ (.lst ((ds.filter p).map g)) δ1 :=
 zo (xs := [y]) (SW sc) hc (Nf h) hb (SX sc inner h1 h2) hlen hs
theorem oJ {D : cM} {fY : List Stmt} {i : Nat} {x : Str} {pos' : Pos} {gg : L3.D -> T} (g : Gx X) (n : Ln X i x) (sc : eU X scope y Nc ix) (h : M7 X CL b (.Name y px) iter δ ds δ1) (hb : (δc = tZ δ1 ix /\ ∀ d ∈ ds, (gg d).clean = true) \/ δc = yW δ1 ix) (inner : Block X CL scope Nc ifs elt δc ds p gg)
   (hlen : ds.length <= sizeLine) (k : fD X CL b fY (δ1.set i (some (.lst ((ds.filter p).map gg)))) D) (hl : i < δ1.length)
   (vf : swapsWith (.ListComp elt [⟨.Name y px, iter, ifs, 0⟩] scope pc) (some (.Name x pos')) pos.line X.env = pure true \/ swapsWith (.ListComp elt [⟨.Name y px, iter, ifs, 0⟩] scope pc) (some (.Name x pos')) pos.line X.env = pure false) (hs : ∀ x, foldedSetIterable iter X.env x = pure x := by intro _; rfl)
   (h1 : (y == ("__debug__" : Str)) = false := by decide) (h2 : (y == ("__classdict__" : Str)) = false := by decide) : fD X CL b (.Assign [.Name x pos'] (.ListComp elt [⟨.Name y px, iter, ifs, 0⟩] scope pc) pos :: fY) δ D :=
 PB (xs := [y]) g n (SW sc) (Nf h) hb (SX sc inner h1 h2) hlen k hl vf hs
end
section
variable {X : Cx} {CL : Str -> Addr} {b : Bx} {δ : List (Option T)} {i : Nat} {x : Str} {d : L3.D} {pos : Pos}
theorem aH (n : Ln X i x) (h : δ[i]? = some (some (.sh d)) := by rfl) : cD X CL b (.Name x pos) δ d δ := ah (v_ n.1 h)
end
structure ck (X : Cx) : Prop where
 g : Gx X
 u : X.A.units + 64 < cLine
abbrev ay (X : Cx) (CL : Str -> Addr) (b : Bx) (st : Stmt) (N : List Str) (l : List L3.D) (r : T) : Prop := fD X CL b (eH st) (entry N l) { nx := fun _ => r = .sh .non, rt := fun A8 _ => A8 = r }
abbrev aB : NameKind := .globalImplicit
abbrev au : NameKind := .local
theorem aU {N P : List Str} {sc : Scope} (h1 : sc.kind = .function := by rfl) (h2 : sc.isCoroutine = false := by rfl) (h3 : sc.isGenerator = false := by rfl) (h4 : N.Nodup := by decide +kernel) (h5 : N.take P.length = P := by rfl) (h6 : ∀ x ∈ P, sc.names.lookup x = some .local \/ sc.names.lookup x = some .cell := by decide +kernel) (h7 : ∀ y ∈ sc.names, y.2 ≠ .free := by decide +kernel) : aK N P sc := ⟨h1, h2, h3, h4, h5, h6, h7⟩
section
variable {X : Cx} {i : Nat} {x : Str} {tb : List (Str × NameKind)}
theorem bB (c : jN X.env.scope tb = true) (j : Nat) (hj : tb[j]? = some (x, .local) := by rfl) (hi : X.N[i]? = some x := by rfl) (hf : X.fn x = true := by rfl) (hd : (x == ("__debug__" : Str)) = false := by decide) (hc : (x == ("__classdict__" : Str)) = false := by decide) : Ln X i x := ZF hi (dD c j hj) hf hd hc
theorem FH (c : jN X.env.scope tb = true) (j : Nat) (hj : tb[j]? = some (x, .cell) := by rfl) (hi : X.N[i]? = some x := by rfl) (hf : X.fn x = true := by rfl) (hd : (x == ("__debug__" : Str)) = false := by decide) (hc : (x == ("__classdict__" : Str)) = false := by decide) : Ln X i x := ZG hi (dD c j hj) hf hd hc
theorem dS (c : jN X.env.scope tb = true) (j : Nat) (hj : tb[j]? = some (x, .globalImplicit) := by rfl) : Gl X x := dD c j hj
theorem cN {CL : Str -> Addr} {k n m : Nat} {A : Type} {arg : A -> List D} {Pre : A -> Prop} {res : A -> T} (F : ∃ f fd ps, bL X.prog X.w X.K X.mg X.base fL k f fd ps (jO X.K CL n arg Pre res) /\ X.mg x = some (.ref f) /\ PySem.W.keepIn X.K (.ref f) = true /\ Binds X.K fd ps []) (r : dR m X.A) (h : k <= m := by decide) : Fc X CL x k n arg Pre res := ⟨F, r.mono h⟩
end
section
variable {K : PySem.W.Frag} {CL : Str -> Addr} {b : Bx} {H H' Z Z' : Hp} {δ δ' : List (Option T)} {σ σ' : L2.St} {ts tl : List T} {vs us : List V} {t : T} {v : V} {y : Addr} {i : Nat}
def JA (H : Hp) (gp : List Addr) : Hp := fun c => if c ∈ gp then none else H c
def FI (K : PySem.W.Frag) (CL : Str -> Addr) {A : Type} (n : Nat) (arg : A -> List T) (Pre : A -> Prop) (res : A -> T) (out : A -> List T) : Sp := fun vs H Q _ =>
 ∃ (W : Hp) (a : A) (gp : List Addr), aA W (JA H gp) /\ (∀ c o, H c = some o -> gi o = true -> W c = some o) /\ aL K CL H W (arg a) vs gp /\ gp.Nodup /\ (arg a).length = n /\ Pre a /\ jc CL W ∧
   ∀ v H' W' fp, aA (JA H gp) H' -> aA W W' -> aA W' H' -> (∀ c o, W' c = some o -> W c = none -> JA H gp c = none) -> (∀ c o, H' c = some o -> gi o = true -> W' c = some o) →
     aL K CL H' W' (res a :: out a) (v :: vs) fp -> fp.Nodup -> (∀ c ∈ fp, W' c = none /\ JA H gp c = none) -> Q v H'
end
section
variable {K : PySem.W.Frag} {CL : Str -> Addr} {b : Bx} {H Z : Hp} {σ : L2.St} {ts : List T} {vs : List V}
end
section
variable {X : Cx} {CL : Str -> Addr} {b : Bx} {δ δ1 δ2 : List (Option T)} {e : Expr} {es : List Expr} {t : T} {d : L3.D} {pos pp : Pos} {D : cM} {i : Nat} {x : Str} {is : List Nat} {fx : List Addr -> Prop} {al : List Addr -> List T} {y : Addr}
variable {fY : List Stmt}
end
section
variable {X : Cx} {CL : Str -> Addr} {b : Bx} {δ δ1 δ2 : List (Option T)} {e e2 : Expr} {t : T} {tl Ji XT : List T} {D : cM} {pos pp pa pb : Pos} {y : Addr} {fY : List Stmt}
section
variable {i : Nat} {x : Str}
end
end
def mZ {α : Type} (g : α -> Int) (x : α) : List α -> List α
 | [] => [x]
 | y :: l => if g x <= g y then x :: y :: l else y :: mZ g x l
def eY {α : Type} (g : α -> Int) : List α -> List α
 | [] => []
 | x :: l => mZ g x (eY g l)
section
variable {α β : Type} {g : α -> Int}
theorem oK (x : α) : ∀ l, (mZ g x l).Perm (x :: l)
 | [] => .refl _
 | y :: l => by
   rw [mZ]
   split
   . exact .refl _
   . exact ((oK x l).cons y).trans (.swap x y l)
theorem mF : ∀ l : List α, (eY g l).Perm l
 | [] => .refl _
 | x :: l => (oK x (eY g l)).trans ((mF l).cons x)
theorem oM {l : List α} {x : α} : x ∈ eY g l ↔ x ∈ l := (mF l).mem_iff
theorem kL (l : List α) : (eY g l).length = l.length := (mF l).length_eq
theorem zA (f : β -> α) (x : β) : ∀ l, mZ g (f x) (l.map f) = (mZ (fun y => g (f y)) x l).map f
 | [] => rfl
 | y :: l => by
   rw [aa8, mZ, mZ]
   split
   . rfl
   . rw [aa8, zA f x l]
theorem oN (f : β -> α) : ∀ l : List β, eY g (l.map f) = (eY (fun y => g (f y)) l).map f
 | [] => rfl
 | x :: l => by rw [aa8, eY, eY, oN f l, zA]
def A9 (g : Nat -> Int) (i j : Nat) : Prop := g i < g j \/ (g i = g j /\ i < j)
theorem A9.trans {g : Nat -> Int} {i j k : Nat} (a : A9 g i j) (b : A9 g j k) : A9 g i k := by
 unfold A9 at *; omega
theorem A9.XY {g : Nat -> Int} {i : Nat} (a : A9 g i i) : False := by unfold A9 at a; omega
theorem zB {g : Nat -> Int} {x : Nat} : ∀ {l : List Nat}, l.Pairwise (A9 g) -> (∀ y ∈ l, x < y) -> (mZ g x l).Pairwise (A9 g)
 | [], _, _ => List.pairwise_singleton _ _
 | y :: l, h, hx => by
   obtain ⟨h1, h2⟩ := abQ.mp h
   rw [mZ]
   split
   . rename_i e
     refine abQ.mpr ⟨fun z hz => ?_, h⟩
     have a1 : A9 g x y := by have := hx y aaP; unfold A9; omega
     rcases aaH.mp hz with rfl | hz
     . exact a1
     . exact a1.trans (h1 z hz)
   . rename_i e
     refine abQ.mpr ⟨fun z hz => ?_, zB h2 fun z hz => hx z (aaM _ hz)⟩
     rcases aaH.mp ((oK x l).mem_iff.mp hz) with rfl | hz
     . left; omega
     . exact h1 z hz
theorem uz {g : Nat -> Int} : ∀ {l : List Nat}, l.Pairwise (· < ·) -> (eY g l).Pairwise (A9 g)
 | [], _ => .nil
 | x :: l, h => by
   obtain ⟨h1, h2⟩ := abQ.mp h
   exact zB (uz h2) fun y hy => h1 y (oM.mp hy)
theorem vz {g : Nat -> Int} : ∀ {S A : List Nat}, S.Pairwise (A9 g) -> A.Pairwise (A9 g) -> (∀ a ∈ A, a ∈ S) -> A.length <= S.length /\ (A.length = S.length -> A = S)
 | [], A, _, _, h => by
   cases A with
   | nil => exact ⟨aaI _, fun _ => rfl⟩
   | cons a A => exact absurd (h a aaP) (by simp)
 | s :: S, [], _, _, _ => ⟨abf _, fun e => by simp at e⟩
 | s :: S, a :: A, hS, hA, h => by
   obtain ⟨s1, s2⟩ := abQ.mp hS
   obtain ⟨a1, a2⟩ := abQ.mp hA
   by_cases e : a = s
   . subst e
     have q := vz s2 a2 fun z hz => (aaH.mp (h z (aaM _ hz))).resolve_left fun e => by subst e; exact (a1 _ hz).XY
     refine ⟨by simpa using q.1, fun e => by rw [q.2 (by simpa using e)]⟩
   . have ha : a ∈ S := (aaH.mp (h a aaP)).resolve_left e
     have q := vz (A := a :: A) s2 hA fun z hz => by
       rcases aaH.mp hz with rfl | hz
       . exact ha
       . refine (aaH.mp (h z (aaM _ hz))).resolve_left fun e2 => ?_
         subst e2
         exact ((s1 a ha).trans (a1 _ hz)).XY
     exact ⟨by have := q.1; simp at this ⊢; omega, fun e3 => by have := q.1; simp at this e3; omega⟩
theorem FJ {l r : List α} {κ : Nat -> Nat} (hn : r.length = l.length) (pl : ∀ k, k < l.length -> r[k]? = l[κ k]?) (lo : ∀ k, k < l.length -> κ k < l.length)
   (st : ∀ i j x y, i < j -> r[i]? = some x -> r[j]? = some y -> g x < g y \/ (g x = g y /\ κ i < κ j)) : r = eY g l := by
 cases l with
 | nil => cases r with
   | nil => rfl
   | cons a r => simp at hn
 | cons d l0 =>
   generalize hl : d :: l0 = l at *
   let f : Nat -> α := fun i => (l[i]?).getD d
   have hf : ∀ i, i < l.length -> l[i]? = some (f i) := fun i hi => by
     show _ = some ((l[i]?).getD d)
     rw [aa3 hi]; rfl
   have el : l = (List.range l.length).map f := ab3 fun i => by
     rw [abn]
     by_cases hi : i < l.length
     . rw [hf i hi, ab0 hi]; rfl
     . rw [List.getElem?_eq_none (by omega), List.getElem?_eq_none (by simpa using hi)]; rfl
   have er : r = ((List.range l.length).map κ).map f := ab3 fun i => by
     rw [abn, abn]
     by_cases hi : i < l.length
     . rw [pl i hi, hf _ (lo i hi), ab0 hi]; rfl
     . rw [List.getElem?_eq_none (by omega), List.getElem?_eq_none (by simpa using hi)]; rfl
   have gr : ∀ k, k < l.length -> r[k]? = some (f (κ k)) := fun k hk => (pl k hk).trans (hf _ (lo k hk))
   have eA : (List.range l.length).map κ = eY (fun i => g (f i)) (List.range l.length) := by
     refine (vz (uz (List.pairwise_lt_range)) (List.pairwise_map.mpr ?_) fun a ha => ?_).2 ?_
     . refine List.Pairwise.imp_of_mem (R := (· < ·)) (fun {i j} hi hj zv => ?_) List.pairwise_lt_range
       exact st i j _ _ zv (gr i (abL.mp hi)) (gr j (abL.mp hj))
     . obtain ⟨k, hk, rfl⟩ := abg.mp ha
       exact oM.mpr (abL.mpr (lo k (abL.mp hk)))
     . rw [aaK, kL]
   rw [er, eA, ← oN, ← el]
end
theorem Ba {pos pos' : Pos} {c cv : Value} (l : List Value) (h : TriplesOk l) (e : codeAmong pos (l ++ [rawInt pos'.line, rawInt pos'.col, c]) = some cv) : codeAmong pos l = some cv \/ cv = c := by
 fun_induction TriplesOk l with
 | case1 =>
   simp only [ach, codeAmong, rawInt] at e
   split at e
   . exact .inr (aaY e).symm
   . cases e
 | case2 a t b u x rest ih =>
   simp only [aa6, codeAmong] at e ⊢
   split at e
   . rename_i hc; rw [aaF hc]; exact .inl e
   . rename_i hc; rw [aaE hc]; exact ih h e
 | case3 l h1 h2 => exact h.elim
def FL (f : Addr) (q : Str) (ps : Arguments) (body : Expr) (sc : Scope) (cl : List (Str × Addr)) (c : Addr) : Heap -> Prop := fun h =>
 ∃ pm Rl, h.get? f = some (PySem.W.kla_obj "<lambda>" q ps body sc cl pm c Rl)
structure JB (X : Cx) (CL : Str -> Addr) (x q : Str) : Prop where
 code : ∃ c, X.env.code = .ref c /\ PySem.W.CodeHd X.base c (CL x)
 blt : ∃ bm o, X.mg "__builtins__" = some (.ref bm) /\ bm ≠ builtinsNs /\ bm ≠ mainGlobals /\ X.base.get? bm = some o /\ o.cls = .type "module" /\ o.dict = some builtinsNs /\ o.data = .plain
 qual : X.env.qual ++ "<lambda>" = q
 tab : yU x = true /\ CL x ≠ 0 /\ Dj x = q
section
variable {X : Cx} {CL : Str -> Addr} {pins : List (Addr × Obj)} {σ : L2.St} {H : Hp} {s : Shared} {x q : Str} {params : Arguments} {body : Expr} {scope : Scope} {pos : Pos}
theorem PL {Q : Value -> Shared -> Prop} (L : JB X CL x q) (I : L2.Inv X pins σ H s) (ht : H (CL x) = some (.tabs q)) (yG : ∀ y ∈ scope.names, y.2 = .free -> ∃ c, X.env.cells.lookup y.1 = some c)
   (PN : defaultsOf params X.env = ([], []))
   (k : ∀ f c H' s', L2.Inv X pins σ H' s' -> aA H H' -> H' f = some (.ext (FL f q params body scope (bR X.env scope.names []) c)) -> H' c = some (.CY q) -> (∀ b o, H' b = some o -> gi o = true -> H b = some o) -> Q (.ref f) s') :
   wpAny (model X.prog X.w) X.A (eval (.Lambda params body scope pos) X.env) Q X.xe s := by
 obtain ⟨c, hc, hd⟩ := L.code
 obtain ⟨bm, ob, b1, b2, b3, b4, b5, b6, b7⟩ := L.blt
 obtain ⟨ps, hP, tr, cs⟩ := I.c7 _ _ ht
 have rO : ∀ {b : Addr} {o : Obj}, X.base.get? b = some o -> b ≠ CL x := fun {b o} e z => by
   have := (I.bs _ _ e).2
   rw [z, ht] at this; cases this
 have hg : s.heap.Ns mainGlobals X.mg := by
   obtain ⟨o, es, ep, e, r⟩ := I.mod.glob
   exact ⟨o, es, ep, I.bk _ _ e, r⟩
 have ZH : mainGlobals ≠ CL x := by
   obtain ⟨o, _, _, e, _⟩ := I.mod.glob
   exact rO e
 have hb : s.heap.BuiltinsAt X.mg (CL x) := ⟨bm, ob, b1, b2, b3, rO b4, I.bk _ _ b4, b5, b6, b7⟩
 refine PySem.W.kla_eval PN ?_
 rw [L.qual]
 cases hf : codeAmong pos ps.toList with
 | none =>
   refine PySem.W.kla_makeFunction (iy yG) I.ok.glob hg hc (hd.keeps I.bk) hP tr hf ZH hb fun c' Rl h' tk hx SV t6 WO XZ => ?_
   obtain ⟨c₂, oc, vs, t, e2, Ra, Wr, hv⟩ := WO
   cases e2
   have hn : H c' = none := I.c7.fresh SV
   have X3 : ∀ {b : Addr}, H b = none -> b ≠ CL x := fun {b} e z => by rw [z, ht] at e; cases e
   have ne' : ∀ {b : Addr} {o : Obj}, s.heap.get? b = some o -> b ≠ c' := fun {b o} e => abh (aa5 (aaT e) SV)
   have cP : CL x ≠ c' := ne' hP
   have un : Un X.fs [] H (upd H c' (.CY q)) s.heap h' := by
     refine ⟨fun b o e n _ _ => hx b o (X3 n) e, fun b o e n _ _ => ⟨o.slots, hx b o (X3 n) e⟩, fun b o e n _ => by rw [av (ne' e)]; exact n, fun b o e _ => ?_, fun b xs e => by rw [av (aC e hn)]; exact e, fun b o u e => by rw [av (aC e hn)]; exact e, fun b ps e => ⟨#[], by rw [av (aC e hn), e]; simp⟩⟩
     by_cases z : b = CL x
     . exact ⟨_, z ▸ XZ⟩
     . exact ⟨o, hx b o z e⟩
   have c7 : qg X.prog X.w (upd H c' (.CY q)) h' := fun b u e => by
     by_cases z : b = c'
     . subst z
       rw [aN] at e
       cases e
       exact ⟨oc, vs, t, Ra, Wr, hv⟩
     . rw [av z] at e
       by_cases z2 : b = CL x
       . subst z2
         rw [ht] at e
         cases e
         refine ⟨_, XZ, ?_, fun pos' cv ec => ?_⟩
         . rw [Array.toList_append]
           exact TriplesOk_snoc _ _ _ _ tr
         . rw [Array.toList_append] at ec
           rcases Ba _ tr ec with q1 | q1
           . obtain ⟨c3, e3, e4⟩ := cs pos' cv q1
             exact ⟨c3, e3, by rw [av (aC e4 hn)]; exact e4⟩
           . exact ⟨c', q1, aN⟩
       . refine (I.c7 b u e).yE (fun d v NQ r => hx d v ?_ r) (fun d r => by rw [av (aC r hn)]; exact r) (fun d xs r => by rw [av (aC r hn)]; exact r) fun d z r => by rw [av (aC r hn)]; exact r
         rintro rfl
         rcases NQ with w | w
         . exact z2 w.symm
         . rw [ht] at w; cases w
   have I1 := I.un (t' := tk) un c7
   have f1 : (upd H c' (.CY q)) h'.objs.size = none := c7.fresh (aaI _)
   have I2 := I1.laid (t' := tk) (a := h'.objs.size) (o := .ext (FL h'.objs.size q params body scope (bR X.env scope.names []) c')) (h' := h'.push (PySem.W.kla_obj "<lambda>" q params body scope (bR X.env scope.names []) ((X.mg "__name__").getD .none) c' Rl))
     (fun b u e => aaN _ e) (aaI _) ⟨⟨_, _, aa9 _ rfl⟩, ⟨_, aa9 _ rfl⟩, fun h1 h2 ⟨pm, ct, e⟩ kk => ⟨pm, ct, kk _ e⟩⟩
   refine k _ c' _ _ I2 (fun b o e => ?_) aN ?_ fun b o e im => ?_
   . have z1 := aC e hn
     have z2 : b ≠ h'.objs.size := fun z => by
       rw [← z, av z1, e] at f1; cases f1
     rw [av z2, av z1]; exact e
   . rw [av (abh t6), aN]
   . by_cases z2 : b = h'.objs.size
     . subst z2; rw [aN] at e; cases e; cases im
     . rw [av z2] at e
       by_cases z1 : b = c'
       . subst z1; rw [aN] at e; cases e; cases im
       . rw [av z1] at e; exact e
 | some cv =>
   obtain ⟨c', rfl, Ew⟩ := cs pos cv hf
   refine PySem.W.kla_makeFunctionHit (iy yG) I.ok.glob hg hc (hd.keeps I.bk) hP tr hf hb fun Rl h' tk hk EF => ?_
   have I2 := I.laid (t' := tk) (a := h'.objs.size) (o := .ext (FL h'.objs.size q params body scope (bR X.env scope.names []) c')) (h' := h'.push (PySem.W.kla_obj "<lambda>" q params body scope (bR X.env scope.names []) ((X.mg "__name__").getD .none) c' Rl))
     (fun b u e => aaN _ (hk _ _ e)) EF ⟨⟨_, _, aa9 _ rfl⟩, ⟨_, aa9 _ rfl⟩, fun h1 h2 ⟨pm, ct, e⟩ kk => ⟨pm, ct, kk _ e⟩⟩
   have f1 : H h'.objs.size = none := I.c7.fresh EF
   refine k _ c' _ _ I2 (fun b o e => by rw [av (aC e f1)]; exact e) aN (by rw [av (aC Ew f1)]; exact Ew) fun b o e im => ?_
   by_cases z2 : b = h'.objs.size
   . subst z2; rw [aN] at e; cases e; cases im
   . rw [av z2] at e; exact e
end
def zC (X : Cx) (A : Around) (q : Str) (scope : Scope) (Nc : List Str) (f c : Addr) (s : Shared) (H : Hp) : Cx where
 prog := X.prog
 w := X.w
 K := X.K
 mg := X.mg
 base := X.base
 A := A.deeper (PySem.W.envX q scope s.heap.objs.size f (.ref c) (bR X.env scope.names []))
 N := Nc
 s₀ := s
 H₀ := H
 env := PySem.W.envX q scope s.heap.objs.size f (.ref c) (bR X.env scope.names [])
 outer := X.stack
 stack := PySem.W.envX q scope s.heap.objs.size f (.ref c) (bR X.env scope.names []) :: X.stack
 ex := []
 fn := fun _ => false
 calm := true
 pn := []
 xe := fun _ _ => False
section
variable {X : Cx} {scope : Scope} {x q : Str} {Nc : List Str} {ix : List Nat} {pins : List (Addr × Obj)} {σ : L2.St} {H : Hp} {s : Shared} {A : Around} {f c : Addr}
theorem Dz (sc : eU X scope x Nc ix) (I : L2.Inv X pins σ H s) (hA : A.frames = some X.stack) (hh : A.handled = none) {h' : Heap} {tk : Nat} {u : Value} {v : V} (r : RelV v u)
   (hn : h'.Ns s.heap.objs.size (fun y => ([(x, u)] : List (Str × Value)).reverse.lookup y)) (hk : ∀ b o, s.heap.get? b = some o -> h'.get? b = some o) :
   L2.Inv (zC X A q scope Nc f c s H) [] (oE σ ix (some v)) H { s with heap := h', toks := tk } := by
 have frees : ∀ y ∈ scope.names, y.2 = .free -> ∃ c, X.env.cells.lookup y.1 = some c := fun y hy e => I.ok.has y.1 (sc.frees y hy e).2
 have sub : ∀ {y : Str} {c : Addr}, (bR X.env scope.names []).lookup y = some c -> X.env.cells.lookup y = some c := fun {y c} e => je frees (fun _ _ z => by cases z) e
 have hlen : (oE σ ix (some v)).length = Nc.length := by
   have all : ∀ l : List Nat, (∀ i ∈ l, ∃ y, X.N[i]? = some y /\ scope.names.lookup y = some .free) -> (l.filterMap (X.N[·]?)).length = l.length := by
     intro l
     induction l with
     | nil => intro _; rfl
     | cons i r ih =>
       intro h
       obtain ⟨y, e, _⟩ := h i aaP
       rw [abA, e]
       show _ + 1 = _ + 1
       rw [ih fun j hj => h j (aaM _ hj)]
   unfold oE
   rw [sc.hd, aaZ, aaZ, aaK, all ix sc.M6]
 have nil : ∀ b : Addr, b ∉ (zC X A q scope Nc f c s H).ex := fun b z => absurd (show b ∈ ([] : List Addr) from z) (by simp)
 refine ⟨⟨I.ok.mod, sc.kind, rfl, rfl, aaI _, fun y z c h1 h2 => I.ok.inj y z c (sub h1) (sub h2), fun y hy => ?_, fun y c hf _ => (by cases (show false = true from hf)), fun _ => hh, Around.frames_deeper hA, .inr ⟨rfl, rfl⟩, fun b hb => absurd hb (nil b), I.bs, abo I.ok.Ii I.sz, fun b o _ => nil b, fun b hb => absurd hb (nil b), I.stack, I.uQ⟩,
   rfl, I.bare, Un.kept hk, ⟨_, hn, fun i y w h1 h2 h3 => ?_⟩, fun y c e => ?_, I.c7.fresh (aaI _), fun y c e => I.jP y c (sub e), fun p hp => absurd (show p ∈ ([] : List (Addr × Obj)) from hp) (by simp), I.c7.kept hk, hlen⟩
 . have U8 : scope.names.lookup y = some .cell \/ scope.names.lookup y = some .free := hy
   rcases U8 with z | z
   . exact absurd rfl (sc.oB _ (aby z))
   . exact gO z
 . unfold oE at h2
   cases i with
   | zero =>
     have Fq : some (some v) = some (some w) := h2
     cases Fq
     have e : y = x := by
       have Ng : Nc[0]? = some y := h1
       rw [sc.hd] at Ng
       exact (aaY Ng).symm
     subst e
     refine ⟨u, r, .inl ⟨sc.own, ?_⟩⟩
     simp
   | succ i =>
     rw [List.getElem?_cons_succ, abn] at h2
     cases ei : ix[i]? with
     | none => rw [ei] at h2; cases h2
     | some j =>
       rw [ei] at h2
       have Fq : (σ[j]?).getD none = some w := aaY h2
       have hj : σ[j]? = some (some w) := by
         cases q : σ[j]? with
         | none => rw [q] at Fq; cases Fq
         | some o => rw [q] at Fq; exact congrArg some Fq
       obtain ⟨y', SJ, Pq⟩ := sc.M6 j (abu ei)
       have Wn : Nc[i + 1]? = some y' := by
         have all : ∀ (l : List Nat) (i : Nat), (∀ j ∈ l, ∃ y, X.N[j]? = some y /\ scope.names.lookup y = some .free) -> l[i]? = some j -> (l.filterMap (X.N[·]?))[i]? = some y' := by
           intro l
           induction l with
           | nil => intro i _ h; simp at h
           | cons a r ih =>
             intro i h hi
             obtain ⟨ya, ea, _⟩ := h a aaP
             rw [abA, ea]
             cases i with
             | zero =>
               simp at hi
               subst hi
               rw [SJ] at ea
               cases ea
               rfl
             | succ i => exact ih i (fun j hj => h j (List.mem_cons_of_mem _ hj)) (by simpa using hi)
         rw [sc.hd, List.getElem?_cons_succ]
         exact all ix i sc.M6 ei
       have ey : y' = y := by
         have Ng : Nc[i + 1]? = some y := h1
         rw [Wn] at Ng
         exact aaY Ng
       subst ey
       have rB := (sc.frees (y', .free) (aby Pq) rfl).2
       have Pr : NC X.env.scope y' := rB.elim (fun z => .inr (.inl z)) (fun z => .inr (.inr z))
       obtain ⟨m0, Wo, U9⟩ := I.loc
       obtain ⟨u', ru, lk⟩ := U9 j y' w SJ hj Pr
       refine ⟨u', ru, ?_⟩
       rcases lk with ⟨kk, _⟩ | ⟨_, c', hc, pP⟩
       . rcases rB with z | z
         . rw [kk] at z; cases z
         . rw [kk] at z; cases z
       . obtain ⟨c2, Ew⟩ := gO (env := X.env) (cs := []) Pq
         have : c2 = c' := by
           have := sub Ew
           rw [hc] at this
           exact (aaY this).symm
         subst this
         obtain ⟨o, ho, hd⟩ := pP
         exact .inr ⟨.inr Pq, c2, Ew, o, hk _ _ ho, hd⟩
 . obtain ⟨v, o, ho, hd⟩ := I.cell y c (sub e)
   exact ⟨v, o, hk _ _ ho, hd⟩
theorem FN {params : Arguments} {body : Expr} {u : Value} {v : V} {Q : VK} (sc : eU X scope x Nc ix) (I : L2.Inv X pins σ H s) (hA : A.frames = some X.stack) (hh : A.handled = none) (SY : A.depth < recursionLimit)
   (hf : H f = some (.ext (FL f q params body scope (bR X.env scope.names []) c))) (hc : H c = some (.CY q)) (r : RelV v u)
   (zE : ∀ cl pm cd ct u, bindArgs (PySem.W.kla_fn "<lambda>" q params body scope cl pm cd ct) ⟨[u], []⟩ = pure [(x, u)]) (WQ : scope.isCoroutine = false) (PR : scope.isGenerator = false)
   (h : yS (zC X A q scope Nc f c s H) body (oE σ ix (some v)) H Q) : wpAny (model X.prog X.w) A (call (.ref f) [u]) (EP X pins σ Q) (fun _ _ => False) s := by
 obtain ⟨⟨pm, Rl, ho⟩, _⟩ := I.c7 _ _ hf
 obtain ⟨oc, vs, t, e1, e2, e3⟩ := I.c7 _ _ hc
 refine wpAny_call (PySem.W.kla_callFunE SY ho rfl WQ PR rfl ⟨c, oc, vs, t, rfl, e1, e2, e3⟩ ?_)
 rw [zE]
 refine abk (wpAny_newFunctionEnv sc.oB (fun y hy => ?_) (fun h₁ Vh ZI => ?_) sc.kind)
 . rw [abi.mp hy]
   exact sc.own
 . have hk : ∀ b o, s.heap.get? b = some o -> h₁.get? b = some o := fun b o e => (ZI.2 b (abh (aaT e))).trans (aaN _ e)
   refine ⟨I.nolimit.keeps hk, ?_⟩
   show codeAny _ _ (.expr body (PySem.W.envX q scope s.heap.objs.size f (.ref c) (bR X.env scope.names []))) _ _
   have J := Dz (q := q) (f := f) (c := c) (tk := s.toks + ([(x, u)] : List (Str × Value)).length) sc I hA hh r Vh hk
   refine PySem.W.kla_codeExpr (abF (h [] _ J) (fun w s' hl => ?_) fun e s' hx => False.elim hx)
   obtain ⟨v', H', J', rv, hq⟩ := hl
   exact I.after ⟨v', H', J'.os, J'.bare, J'.base, J'.c7, rv, hq⟩
end
section
variable {X : Cx} {pins : List (Addr × Obj)} {σ : L2.St} {H : Hp} {s : Shared}
theorem DB {a : Addr} {o : HO} (I : L2.Inv X pins σ H s) (fp : gb X pins H a) (new : fP X.prog X.w (upd H a o) s.heap a o) : L2.Inv X pins σ (upd H a o) s := by
 have hn := fp.1
 refine I.step (H' := upd H a o) (h' := s.heap) (g' := s.gens) (d' := s.drawn) (t' := s.toks) (ch := [a]) (fun b hb => ?_) (fun b o _ _ _ e _ => e) (fun b o _ _ _ e _ => ⟨o.slots, e⟩) (fun b o hc _ n => by rw [av fun z => hc (by simp [z])]; exact n)
   (fun b o _ e => ⟨o, e⟩) (fun b xs e => by rw [av (aC e hn)]; exact e) (fun b o u e => by rw [av (aC e hn)]; exact e) (fun b ps e => ⟨#[], by rw [av (aC e hn), e]; simp⟩) (fun m hm => hm) (fun b u e => ?_) I.bare
 . have e : b = a := by simpa using hb
   subst e
   exact ⟨fp.2.2.2.1, fp.2.1, fp.2.2.2.2.1, fp.2.2.2.2.2⟩
 . by_cases z : b = a
   . subst z; rw [aN] at e; cases e; exact new
   . rw [av z] at e
     exact (I.c7 b u e).yE (fun _ _ _ q => q) (fun c q => by rw [av (aC q hn)]; exact q) (fun c xs q => by rw [av (aC q hn)]; exact q) fun c z q => by rw [av (aC q hn)]; exact q
end
def lW (kz : List Int) (xs : List V) : List V := (eY Prod.fst (kz.zip xs)).map Prod.snd
section
variable {α β : Type} {F : α -> β -> Prop} {g1 : α -> Int} {g2 : β -> Int}
theorem pZ (hg : ∀ p q, F p q -> g1 p = g2 q) {x : α} {y : β} (hx : F x y) : ∀ {l1 : List α} {l2 : List β}, Paired F l1 l2 -> Paired F (mZ g1 x l1) (mZ g2 y l2)
 | _, _, .nil => .cons hx .nil
 | p :: l1, q :: l2, .cons r t => by
   rw [mZ, mZ, hg x y hx, hg p q r]
   split
   . exact .cons hx (.cons r t)
   . exact .cons r (pZ hg hx t)
theorem jk (hg : ∀ p q, F p q -> g1 p = g2 q) : ∀ {l1 : List α} {l2 : List β}, Paired F l1 l2 -> Paired F (eY g1 l1) (eY g2 l2)
 | _, _, .nil => .nil
 | _, _, .cons r t => pZ hg r (jk hg t)
end
theorem rP : ∀ {ks us : List Value} {kz : List Int} {xs : List V}, IntsAre ks kz -> Vals xs us -> Paired (fun (p : Int × V) (q : Value × Value) => p.1 = numOf q.1 /\ RelV p.2 q.2) (kz.zip xs) (ks.zip us)
 | _, _, _, _, .nil, _ => by simp only [List.zip_nil_left]; exact .nil
 | _, _, _, _, .cons n t h, .nil => by simp only [List.zip_nil_right]; exact .nil
 | _, _, _, _, .cons n t h, .cons r rr => .cons ⟨rfl, r⟩ (rP h rr)
theorem zF : ∀ {ps : List (Int × V)} {qs : List (Value × Value)}, Paired (fun (p : Int × V) (q : Value × Value) => p.1 = numOf q.1 /\ RelV p.2 q.2) ps qs -> Vals (ps.map Prod.snd) (qs.map Prod.snd)
 | _, _, .nil => .nil
 | _, _, .cons r t => .cons r.2 (zF t)
theorem zG {keys : Array Value} {us : List Value} {xs : List V} {kz : List Int} (hk : IntsAre keys.toList kz) (r : Vals xs us) {arr : Array Keyed} {κ : Nat -> Nat}
   (t : Tag (keys.zip us.toArray) arr κ (keys.zip us.toArray).size) (o : jY arr κ (keys.zip us.toArray).size) (hz : arr.size = (keys.zip us.toArray).size) : Vals (lW kz xs) (arr.map (·.2)).toList := by
 have ez := ksk_zip keys us
 have el : (keys.toList.zip us).length = (keys.zip us.toArray).size := by rw [← ez, abK]
 have e : arr.toList = eY (fun p : Keyed => numOf p.1) (keys.toList.zip us) := by
   refine FJ (κ := κ) (by rw [el, abK, hz]) (fun k hk => ?_) (fun k hk => ?_) fun i j x y zv hx hy => ?_
   . rw [el] at hk
     rw [ab7, t.pl k hk, ← ez, ab7]
   . rw [el] at hk ⊢
     exact t.lo k hk
   . rw [ab7] at hx hy
     have hj : j < arr.size := (Array.getElem?_eq_some_iff.mp hy).1
     have q := o i j zv (by rw [← hz]; exact hj)
     unfold PyProof.Rows.K at q
     rw [hx, hy] at q
     exact q
 rw [Array.toList_map, e]
 exact zF (jk (fun p q h => h.1) (rP hk r))
section
variable {X : Cx} {pins : List (Addr × Obj)} {σ : L2.St} {H : Hp} {s : Shared} {a kS f l : Addr} {us : List Value} {xs : List V} {kz : List Int} {J : Hp -> Prop} {e1 : Nat} {A : Around} {E : Value -> Shared -> Prop} {P : PySem.Fin -> Shared -> Prop}
theorem qA {it : Addr} (I : L2.Inv X pins σ H s) (fp : gb X pins H it) (g : Obj -> Obj) : L2.Inv X pins σ H { s with heap := s.heap.update it g } := by
 have s1 := Heap.SameBut.update s.heap it g
 exact I.turned (t' := s.toks) (fun b o n q => (s1.2 b n).trans q) fp.1 fp.2.1 fp.2.2.2.1 fp.2.2.2.2.1 fp.2.2.2.2.2
theorem Cj {st : SortSt} {keys : Array Value} {e : Nat} (I : L2.Inv X pins σ H s) (fk : gb X pins H kS) (fa : gb X pins H a) (PV : kS ≠ a) (ok : s.heap.get? kS = some (seqObj "list" keys e)) (oa : s.heap.get? a = some (seqObj "list" #[] e1))
   (WN : keys.size < 64) (EF : (arrOf st).size < 64) (ZJ : failedOf st = none)
   (h : ∀ s' c, L2.Inv X pins σ H s' -> s'.heap.get? a = some (seqObj "list" ((arrOf st).map (·.2)) c) -> P (.done (.ret .none)) s') :
   wpAny (model X.prog X.w) A (ksk_tail a false e1 (.ref kS) st) P E s := by
 have s1 := Heap.SameBut.update s.heap kS (Obj.mapSeq fun _ => (#[] : Array Value))
 have I1 := qA I fk (Obj.mapSeq fun _ => (#[] : Array Value))
 have WR : (s.heap.update kS (Obj.mapSeq fun _ => (#[] : Array Value))).get? a = some (seqObj "list" #[] e1) := (s1.2 a PV.symm).trans oa
 have I2 := qA I1 fa (Obj.mapSeq fun _ => (arrOf st).map (·.2))
 obtain ⟨c2, Pp⟩ : ∃ c2, ((s.heap.update kS (Obj.mapSeq fun _ => (#[] : Array Value))).update a (Obj.mapSeq fun _ => (arrOf st).map (·.2))).get? a = some (seqObj "list" ((arrOf st).map (·.2)) c2) :=
   ⟨_, get?_update_seq WR fun _ => (arrOf st).map (·.2)⟩
 unfold ksk_tail
 try dsimp only
 refine aaO (listUpdate_at ok rfl ?_ (by rw [abe]; omega) (abf _))
 refine aaO (wpAny_letGo ?_)
 refine aaO (seqEpoch_at WR rfl ?_)
 refine aaO (listUpdate_at WR rfl ?_ (abf _) (by simp only [abv, abU, Array.size_map]; rw [abe]; omega))
 rw [ZJ]
 simp only [bne_self_eq_false, abv, abU]
 exact abk (h _ c2 I2 Pp)
theorem PX {keys : Array Value} {e : Nat} (I : L2.Inv X pins σ H s) (fk : gb X pins H kS) (fa : gb X pins H a) (PV : kS ≠ a) (ok : s.heap.get? kS = some (seqObj "list" keys e)) (oa : s.heap.get? a = some (seqObj "list" #[] e1))
   (hk : IntsAre keys.toList kz) (hlen : kz.length = us.length) (Nk : us.length < 64) (r : Vals xs us)
   (h : ∀ s' out c, L2.Inv X pins σ H s' -> s'.heap.get? a = some (seqObj "list" out c) -> Vals (lW kz xs) out.toList -> P (.done (.ret .none)) s') :
   wpAny (model X.prog X.w) A (ksk_end a false us.toArray e1 (.ref kS) keys) P E s := by
 have EF : keys.size = us.length := by
   have h1 := hk.length
   rw [abK] at h1
   omega
 have X4 : (keys.zip us.toArray).size = us.length := by rw [Array.size_zip, EF, aa0, Nat.min_self]
 have t0 : ∀ n, Tag (keys.zip us.toArray) (keys.zip us.toArray) id n := fun n => ⟨fun _ _ => rfl, fun _ q => q, fun _ _ => rfl⟩
 unfold ksk_end
 try dsimp only
 simp only [abv, abU]
 by_cases h2 : us.toArray.size < 2
 . rw [aaF h2, aaF h2]
   refine aaO (abk ?_)
   rw [StateT.run_pure]
   refine aaO (abk ?_)
   try dsimp only
   rw [aa0] at h2
   refine Cj (st := SortSt.mk' general' (keys.zip us.toArray) #[] 7 none) I fk fa PV ok oa (by omega) (by show (keys.zip us.toArray).size < 64; omega) rfl fun s' c I' o' => h s' _ c I' o' ?_
   exact zG hk r (arr := keys.zip us.toArray) (κ := id) (t0 _) (fun i j zv hj => by omega) rfl
 . rw [aaE h2, aaE h2]
   rw [aa0] at h2
   rw [ksk_kind hk (by rw [EF]; omega)]
   refine aaO (abk ?_)
   refine aaO (abF (Dy (a₀ := keys.zip us.toArray) (st := SortSt.mk' oneType' (keys.zip us.toArray) #[] 7 none)
     (Q := fun _ Em => failedOf Em = none /\ ∃ κ, Tag (keys.zip us.toArray) (arrOf Em) κ (keys.zip us.toArray).size /\ jY (arrOf Em) κ (keys.zip us.toArray).size /\ (arrOf Em).size = (keys.zip us.toArray).size)
     (ksk_intKeys hk) ⟨Array.Perm.refl _, rfl, rfl, rfl⟩ (t0 _) (by rw [X4]; omega) (by rw [X4]; exact Nk) fun z κ a1 a2 a3 a4 => ⟨a1, κ, a2, a3, a4⟩) ?_ fun _ _ e => e)
   rintro ⟨⟨⟩, Em⟩ s' ⟨rfl, hf, κ, t, o, hz⟩
   try dsimp only
   have hz' : (arrOf Em).size = (keys.zip us.toArray).size := hz
   exact Cj I fk fa PV ok oa (by omega) (by omega) hf fun s' c I' o' => h s' _ c I' o' (zG hk r t o hz)
theorem S6 {b : Addr} {H' : Hp} (fp : gb X pins H b) (h : H' b = none) : gb X pins H' b := ⟨h, fp.2⟩
theorem JC (I : L2.Inv X pins σ H s) (fk : gb X pins H kS) (fa : gb X pins H a) (PV : kS ≠ a) (ok : s.heap.get? kS = some (seqObj "list" #[] 0)) (oa : s.heap.get? a = some (seqObj "list" #[] e1)) (j0 : J H)
   (hlen : kz.length = us.length) (Nk : us.length < 64) (r : Vals xs us)
   (turn : ∀ (i : Nat) (x : V) (k : Int), xs[i]? = some x -> kz[i]? = some k -> ∀ (gJ : List (Addr × Obj)) (s' : Shared) (u : Value) (H' : Hp), L2.Inv X gJ σ H' s' -> J H' -> RelV x u →
     wpAny (model X.prog X.w) A (call (.ref f) [u]) (EP X gJ σ fun v S7 => v = .int k /\ J S7) (fun _ _ => False) s')
   (h : ∀ s' H' out c, L2.Inv X pins σ H' s' -> J H' -> H' a = none -> s'.heap.get? a = some (seqObj "list" out c) -> Vals (lW kz xs) out.toList -> P (.done (.ret .none)) s') :
   wpAny (model X.prog X.w) A (ksk_rest a (.ref f) false us.toArray e1 (.ref kS)) P E s := by
 unfold ksk_rest
 refine aaO (wpAny_rule ?_)
 first
   | rw [List.forIn_toArray]
   | (rw [← Array.forIn_toList]; simp only [List.toList_toArray])
   | rw [← Array.forIn_toList]
 refine aaO (ksk_fold (fun i s' => ∃ H' kA e, L2.Inv X pins σ H' s' /\ J H' /\ H' kS = none /\ H' a = none /\ s'.heap.get? kS = some (seqObj "list" kA e) /\ s'.heap.get? a = some (seqObj "list" #[] e1) /\ IntsAre kA.toList (kz.take i)) us 0 s
   ⟨H, #[], 0, I, j0, fk.1, fa.1, ok, oa, by simpa using IntsAre.nil⟩ ?step ?done)
 case step =>
   rintro j u s' hx ⟨H', kA, e, I', jj, nk, na, S8, Vi, hk⟩
   simp only [Nat.zero_add] at hk ⊢
   have hj : j < us.length := (aa4.mp hx).1
   obtain ⟨k, X5⟩ : ∃ k, kz[j]? = some k := ⟨_, aa3 (by omega)⟩
   obtain ⟨x, X6⟩ : ∃ x, xs[j]? = some x := ⟨_, aa3 (by rw [r.length]; exact hj)⟩
   have rx : RelV x u := by
     obtain ⟨u', e1, e2⟩ := r.get X6
     rw [hx] at e1; cases e1; exact e2
   have hz : kA.size <= us.length := by
     have h1 := hk.length
     rw [abK, List.length_take] at h1
     omega
   have Ip := I'.pinned (fp := [kS, a]) (fun b hb => by
     rcases aaH.mp hb with rfl | hb
     . exact S6 fk nk
     . rw [abi.mp hb]; exact S6 fa na) (fun b hb => by
     rcases aaH.mp hb with rfl | hb
     . exact ⟨_, S8, fun v z => by cases z⟩
     . rw [abi.mp hb]; exact ⟨_, Vi, fun v z => by cases z⟩)
   refine aaO (wpAny_attempt (abF (turn j x k X6 X5 _ _ u H' Ip jj rx) (fun v Rf he => ?_) fun _ _ hF => hF.elim))
   obtain ⟨w, H2, I2, ZK, rfl, j2⟩ := he
   obtain ⟨t2, rfl⟩ := ZK
   try dsimp only
   have pk := I2.pin (kS, seqObj "list" kA e) (aaD _ (aaD _ (fE (by simp) S8)))
   have pa := I2.pin (a, seqObj "list" #[] e1) (aaD _ (aaD _ (fE (by simp) Vi)))
   have I3 := qA I2.jR (S6 fk pk.2.1) (Obj.mapSeq (·.push (.int k t2)))
   have s1 := Heap.SameBut.update Rf.heap kS (Obj.mapSeq (·.push (.int k t2)))
   obtain ⟨c2, Pp⟩ : ∃ c2, (Rf.heap.update kS (Obj.mapSeq (·.push (.int k t2)))).get? kS = some (seqObj "list" (kA.push (.int k t2)) c2) := ⟨_, get?_update_seq pk.1 (·.push (.int k t2))⟩
   have ek : kz.take (j + 1) = kz.take j ++ [k] := by rw [abY, X5]; simp
   have ea : (kA.push (Value.int k t2)).toList = kA.toList ++ [Value.int k t2] := by simp
   refine aaO (listUpdate_at pk.1 rfl ?_ (by rw [abe]; omega) (abo (Nat.le_of_eq (Array.size_push ..)) (by rw [abe]; omega)))
   exact abk ⟨rfl, H2, kA.push (.int k t2), c2, I3, j2, pk.2.1, pa.2.1, Pp, (s1.2 a PV.symm).trans pa.1, by rw [ea, ek]; exact ksk_snoc hk⟩
 case done =>
   rintro s' ⟨H', kA, e, I', jj, nk, na, S8, Vi, hk⟩
   have ZL : IntsAre kA.toList kz := by
     have e3 : kz.take (0 + us.length) = kz := List.take_of_length_le (by omega)
     rw [e3] at hk
     exact hk
   try dsimp only
   refine aaO (listItems_at S8 rfl ?_)
   exact PX I' (S6 fk nk) (S6 fa na) PV S8 Vi ZL hlen Nk r fun s2 out c I2 o2 v2 => h s2 H' out c I2 jj na o2 v2
theorem JD {n : Nat} (I : L2.Inv X pins σ H s) (fa : gb X pins H a) (oa : s.heap.get? a = some (seqObj "list" us.toArray n)) (j0 : J H)
   (hlen : kz.length = us.length) (Nk : us.length < 64) (r : Vals xs us)
   (turn : ∀ (i : Nat) (x : V) (k : Int), xs[i]? = some x -> kz[i]? = some k -> ∀ (gJ : List (Addr × Obj)) (s' : Shared) (u : Value) (H' : Hp), L2.Inv X gJ σ H' s' -> J H' -> RelV x u →
     wpAny (model X.prog X.w) A (call (.ref f) [u]) (EP X gJ σ fun v S7 => v = .int k /\ J S7) (fun _ _ => False) s')
   (h : ∀ s' H' out c, L2.Inv X pins σ H' s' -> J H' -> H' a = none -> s'.heap.get? a = some (seqObj "list" out c) -> Vals (lW kz xs) out.toList -> P (.done (.ret .none)) s') :
   wpAny (model X.prog X.w) A (ksk_tree a (.ref f) false) P E s := by
 have ha : a < s.heap.objs.size := aaT oa
 obtain ⟨e1, WL⟩ : ∃ e1, (s.heap.update a (Obj.mapSeq fun _ => (#[] : Array Value))).get? a = some (seqObj "list" #[] e1) := ⟨_, get?_update_seq oa fun _ => #[]⟩
 have I1 := qA I fa (Obj.mapSeq fun _ => (#[] : Array Value))
 have WT : ((s.heap.update a (Obj.mapSeq fun _ => (#[] : Array Value))).push (seqObj "tuple" us.toArray 0)).objs.size = s.heap.objs.size + 1 := by rw [size_push', Heap.size_update]
 have I2 : L2.Inv X pins σ H { s with heap := ((s.heap.update a (Obj.mapSeq fun _ => (#[] : Array Value))).push (seqObj "tuple" us.toArray 0)).push (seqObj "list" #[] 0) } :=
   I1.kept (t' := s.toks) fun b o e => aaN _ (aaN _ e)
 unfold ksk_tree
 refine aaO (listItems_at oa rfl ?_)
 refine aaO (listUpdate_at oa rfl ?_ (by rw [aa0, abe]; omega) (abf _))
 refine aaO (seqEpoch_at WL rfl ?_)
 refine aaO (wpAny_newTuple ?_ (by show us.length <= _; rw [abe]; omega))
 refine aaO (wpAny_newList ?_ (abf _))
 refine aco ?_
 refine JC (s := { s with heap := ((s.heap.update a (Obj.mapSeq fun _ => (#[] : Array Value))).push (seqObj "tuple" us.toArray 0)).push (seqObj "list" #[] 0) }) (kS := ((s.heap.update a (Obj.mapSeq fun _ => (#[] : Array Value))).push (seqObj "tuple" us.toArray 0)).objs.size)
   I2 (I.EB (by rw [WT]; exact Nat.le_succ _) (I.c7.fresh (by rw [WT]; exact Nat.le_succ _))) fa (by rw [WT]; exact Nat.ne_of_gt (Nat.lt_succ_of_lt ha)) (aa9 _ rfl) (aaN _ (aaN _ WL)) j0 hlen Nk r turn h
theorem DC {Q : VK} (I : L2.Inv X pins σ H s) (hq : mQ X.K H l xs) (hlen : kz.length = xs.length) (Nk : xs.length < 64) (j0 : J H)
   (turn : ∀ (i : Nat) (x : V) (k : Int), xs[i]? = some x -> kz[i]? = some k -> ∀ (gJ : List (Addr × Obj)) (s' : Shared) (u : Value) (H' : Hp), L2.Inv X gJ σ H' s' -> J H' -> RelV x u →
     wpAny (model X.prog X.w) X.A.in1.in1 (call (.ref f) [u]) (EP X gJ σ fun v S7 => v = .int k /\ J S7) (fun _ _ => False) s')
   (h : ∀ D H', J H' -> H' D = none -> Q (.ref D) (upd H' D (.lst (lW kz xs)))) :
   wpAny (model X.prog X.w) X.A (call (.builtin "sorted") [.ref l] [(Str.ofString "key", .ref f)]) (EP X pins σ Q) E s := by
 obtain ⟨us, r, pl, hz⟩ := I.list hq
 have el := r.length
 have hl : s.heap.IsList l us.toArray := pl.isList
 refine call_function_entry_kw kind_sorted plain_sorted entry_sorted (ksk_s1 _ _) ?_
 unfold Builtin.«sorted»
 refine aaO (m := checkCount "sorted" 1 1 _) (abk ?_)
 refine aaO (collect_list hl ?_ (by rw [abe]; omega))
 refine aaO (wpAny_newList ?_ (by rw [abe]; omega))
 have EF : ((s.heap.push (seqObj "list" #[] 0)).update s.heap.objs.size (Obj.mapSeq (· ++ us.toArray))).objs.size = s.heap.objs.size + 1 := by
   rw [Heap.size_update, size_push']
 have UW : (((s.heap.push (seqObj "list" #[] 0)).update s.heap.objs.size (Obj.mapSeq (· ++ us.toArray))).push (seqObj "list" us.toArray 0)).get? (s.heap.objs.size + 1) = some (seqObj "list" us.toArray 0) := by
   rw [← EF]; exact aa9 _ rfl
 have keep : ∀ b o, s.heap.get? b = some o -> (((s.heap.push (seqObj "list" #[] 0)).update s.heap.objs.size (Obj.mapSeq (· ++ us.toArray))).push (seqObj "list" us.toArray 0)).get? b = some o := fun b o q => by
   have t6 : b < s.heap.objs.size := aaT q
   rw [Heap.get?_push_ne _ _ _ (by rw [EF]; exact abh (Nat.lt_succ_of_lt t6)), Heap.get?_update_ne _ _ _ _ (abh t6), Heap.get?_push_ne _ _ _ (abh t6)]
   exact q
 show wpAny _ _ _ _ _ { s with heap := ((s.heap.push (seqObj "list" #[] 0)).update s.heap.objs.size (Obj.mapSeq (· ++ us.toArray))).push (seqObj "list" us.toArray 0) }
 rw [EF]
 have I2 : L2.Inv X pins σ H { s with heap := ((s.heap.push (seqObj "list" #[] 0)).update s.heap.objs.size (Obj.mapSeq (· ++ us.toArray))).push (seqObj "list" us.toArray 0) } := I.kept (t' := s.toks) keep
 have fa : ∀ {H' : Hp}, H' (s.heap.objs.size + 1) = none -> gb X pins H' (s.heap.objs.size + 1) := fun {H'} e => I.EB (Nat.le_succ _) e
 refine aaO (aco (wpAny_call_entry_kw slot_list_sort ⟨_, UW, rfl⟩ entry_list_sort ?body (ksk_l1 _ _)))
 case body =>
   have ZM := ksk_t1 f (s.heap.objs.size + 1)
   show wpAny (model X.prog X.w) X.A.in1.in1 (Builtin.«list.sort» ⟨[.ref (s.heap.objs.size + 1)], [(Str.ofString "key", .ref f)]⟩) _ _ _
   rw [ZM]
   refine JD I2 (fa (I.c7.fresh (Nat.le_succ _))) UW j0 (by omega) (by omega) r turn fun s' H' out c I' jj na o' v' => ⟨_, rfl, ?_⟩
   refine abk ⟨_, rfl, .ref (s.heap.objs.size + 1), _, DB I' (fa na) (o := .lst (lW kz xs)) ⟨?_, out.toList, c, v', ?_⟩, rfl, h _ H' jj na⟩
   . have : (lW kz xs).length = xs.length := by
       unfold lW
       rw [aaK, kL, List.length_zip, hlen, Nat.min_self]
     rw [this]; exact hz
   . simpa using o'
end
section
variable {K : PySem.W.Frag} {CL : Str -> Addr} {Z : Hp} {g : D -> Int}
theorem uA : ∀ {ds : List D} {us : List V}, aD K CL Z ds us -> Paired (fun (d : D) (p : Int × V) => g d = p.1 /\ bz K CL Z d p.2) ds ((ds.map g).zip us)
 | [], _, .nil => .nil
 | _ :: _, _, .cons r t => .cons ⟨rfl, r⟩ (uA t)
theorem uB : ∀ {ds : List D} {ps : List (Int × V)}, Paired (fun (d : D) (p : Int × V) => g d = p.1 /\ bz K CL Z d p.2) ds ps -> aD K CL Z ds (ps.map Prod.snd)
 | [], _, .nil => .nil
 | _ :: _, _, .cons r t => .cons r.2 (uB t)
theorem DE {ds : List D} {us : List V} (r : aD K CL Z ds us) : aD K CL Z (eY g ds) (lW (ds.map g) us) := uB (jk (fun p q h => h.1) (uA (g := g) r))
end
def S9 (X : Cx) (CL : Str -> Addr) (q : Str) (scope : Scope) (Nc : List Str) (body : Expr) (δc : List (Option T)) (ds : List D) (g : D -> Int) : Prop :=
 ∀ f c s0 H0 b' d, d ∈ ds -> cD (zC X X.A.in1.in1 q scope Nc f c s0 H0) CL b' body (some (.sh d) :: δc) (.int (g d)) (some (.sh d) :: δc)
section
variable {X : Cx} {CL : Str -> Addr} {b : Bx} {δ δ1 : List (Option T)} {e body : Expr} {ds : List L3.D} {g : L3.D -> Int} {scope : Scope} {y q tx : Str} {Nc : List Str} {ix : List Nat} {params : Arguments} {pos pp lp p2 : Pos}
theorem Bb (L : JB X CL tx q) (g0 : Gx X) (dp : X.A.depth < recursionLimit) (hm : X.mg "sorted" = none) (hg : Gl X "sorted") (sc : eU X scope y Nc ix) (h : cD X CL b e δ (.lst ds) δ1) (hi : D.bM ds = true) (hl : ds.length < 64)
   (inner : S9 X CL q scope Nc body (tZ δ1 ix) ds g) (PN : defaultsOf params X.env = ([], []) := by rfl)
   (zE : ∀ cl pm cd ct u, bindArgs (PySem.W.kla_fn "<lambda>" q params body scope cl pm cd ct) ⟨[u], []⟩ = pure [(y, u)] := by intros; rfl) (WQ : scope.isCoroutine = false := by rfl) (PR : scope.isGenerator = false := by rfl)
   (hs : starEach [e] X.env = (false, eval e X.env) :: starEach [] X.env := by exact cz rfl) :
   cj X CL b (.Call (.Name "sorted" pp) [e] [⟨some "key", .Lambda params body scope lp, p2⟩] pos) δ (.lst ((eY g ds).map T.sh)) δ1 := by
 intro H Z σ ts vs Q S k pins s I
 have ha : PA X [e] (BZ (yS X e) EI) := cO eT fX hs
 have hk : PK X [⟨some "key", .Lambda params body scope lp, p2⟩] (BZ (yS X (.Lambda params body scope lp)) EI) := IK eT Oo
 refine abP (oq I hg hm vv ?_)
 refine callWith_kw (dG (ha pos pins s σ H (fun V8 H1 => ∃ v Z1, V8 = [v] /\ aA Z Z1 /\ aA H H1 /\ bT X.K CL b H1 Z1 δ1 σ ts vs /\ bz X.K CL H1 (.lst ds) v) I (h H Z σ ts vs _ S fun v H1 Z1 z1 k1 S1 r => ⟨v, Z1, rfl, z1, k1, S1, r⟩)) fun us s1 ⟨vs1, H1, I1, r1, v1, Z1, e1, z1, k1, S1, rep1⟩ => ?_) (by rw [hs]; rfl) (by rw [hs]; rfl) rfl rfl
 subst e1
 have WU : H1 (CL tx) = some (.tabs q) := by
   have := S1.Dk tx L.tab.1 L.tab.2.1
   rw [L.tab.2.2] at this
   exact this
 refine dG (hk pos pins s1 σ H1 (fun zs H2 => ∃ f c, zs = [.ref f] /\ aA H1 H2 /\ H2 f = some (.ext (FL f q params body scope (bR X.env scope.names []) c)) /\ H2 c = some (.CY q)) I1
   (fun gJ s' I' => PL L I' WU (fun y hy e => I'.ok.has y.1 (sc.frees y hy e).2) PN fun f c H2 s2 I2 k2 hf hc _ => ⟨.ref f, H2, I2, rfl, f, c, rfl, k2, hf, hc⟩)) fun ws s2 ⟨zs, H2, I2, rz, f, c, e2, k2, hf, hc⟩ => ?_
 subst e2
 obtain ⟨u, rfl, ru⟩ := rz.one
 cases ru
 obtain ⟨v, rfl, rv⟩ := r1.one
 cases rep1 with
 | @lst p us' _ hq rr =>
   cases rv
   show wpAny _ _ (call (.builtin "sorted") [.ref p] [(Str.ofString "key", .ref f)]) _ _ s2
   have hlen := rr.length
   refine DC (J := fun H3 => ∃ Z3, aA H2 H3 /\ aA H2 Z3 /\ aA Z3 H3 /\ ∀ a o, H3 a = some o -> gi o = true -> Z3 a = some o) (kz := ds.map g) I2 (k2.seq hq) (by rw [aaK, hlen]) (by omega)
     ⟨H2, .refl _, .refl _, .refl _, fun _ _ q _ => q⟩ (fun i x kk hx X7 gJ s' u H3 I3 ⟨Z3, a1, a2, a3, a4⟩ rx => ?_) fun D H3 ⟨Z3, a1, a2, a3, a4⟩ hD => ?_
   . obtain ⟨d, hd, rd⟩ := rr.IZ hx
     have ek : kk = g d := by
       rw [abn, hd] at X7
       exact (aaY X7).symm
     subst ek
     refine FN sc I3 I3.ok.frames (I3.ok.hd g0.calm) dp (a1 _ _ hf) (a1 _ _ hc) rx zE WQ PR ?_
     have S0 : bT X.K CL ⟨H3, Z3⟩ H3 Z3 (some (.sh d) :: tZ δ1 ix) (oE σ ix (some x)) [] [] :=
       ⟨⟨[] ++ [], [], .cons (.sh (rd.mono (k2.trans a2))) ((rJ S1 ix H3).mono (k2.trans a2) fun a ha => by cases ha), .nil, abM, fun a ha => by cases ha⟩, .refl _, .refl _, a3, fun a o q z => (by have z' : Z3 a = none := z; rw [show Z3 a = some o from q] at z'; cases z'), a4, S1.Dk.mono (k2.trans a2)⟩
     refine inner f c s' H3 ⟨H3, Z3⟩ d (abu hd) H3 Z3 _ [] [] _ S0 fun v H5 Z5 z5 k5 S5 r5 => ⟨?_, Z5, a1.trans k5, a2.trans z5, S5.zh, S5.tp⟩
     cases r5
     rfl
   . obtain ⟨Z', z', S4⟩ := S1.back (t := .sh (.int 0)) (v := .int 0) (fp := []) (k2.trans a1) S1.zh (k2.trans a2) a3 (fun a o q z => z) a4 (.sh (.int 0)) abM (fun a ha => by cases ha) (.inr rfl)
     obtain ⟨c5, S5⟩ := (bT.rE (DE (g := g) ((aD.jd S1.tp hi rr).mono z')) S4.pop).oz (g0 := []) (by simp [lW, kL, hlen]) hD
     exact k _ _ _ (z1.trans z') ((k1.trans (k2.trans a1)).trans c5) S5
variable {A : Around} {f c : Addr} {s : Shared} {H : Hp} {i : Nat} {x : Str}
theorem PY (h1 : Nc[i]? = some x) (h2 : scope.names.lookup x = some .local) (hd : (x == ("__debug__" : Str)) = false := by decide) (iL : (x == ("__classdict__" : Str)) = false := by decide) : Vn (zC X A q scope Nc f c s H) i x := ⟨h1, .inl h2, hd, iL⟩
end
theorem JF {P : Program} {w : World} {K : PySem.W.Frag} {mg : Str -> Option Value} {base : Heap} {x qual : Str} {st : Stmt} {f : Addr} {fd : FuncData} {N ps : List Str} {k : Nat} {sp : Sp} (F : iM K x qual st f fd) (S : aK N ps (ao st)) (len : ∀ vs H Q E, sp vs H Q E -> vs.length = ps.length)
   (yL : ∀ (cS : Value) (A : Around) (outer : List Env) (s : Shared) (H : Hp) (vs : List V) (Q : VK) (E : XK), fd.code = cS -> dR k (A.deeper (envOfC qual (ao st) s.heap.objs.size f cS)) -> sp vs H Q E →
     ∃ t, AI (rA fL P w K mg base N qual (ao st) f cS A outer s H E).Ij (eH st) t /\ t { nx := fun _ H' => Q .non H', rt := Q } (L2.start N vs) H) : bL P w K mg base fL (k + 1) f fd ps sp := by
 obtain ⟨oc, od, kV, doc, pm, an, cS, ct, Ik, rfl, lk, iL⟩ := F.ex
 refine MQ lk iL S len fun A outer s H vs Q E hr AY => ?_
 obtain ⟨t, h, q⟩ := yL cS A outer s H vs Q E rfl hr AY
 exact ⟨t, h.Ij, q⟩
theorem FP {P : Program} {w : World} {K : PySem.W.Frag} {mg : Str -> Option Value} {base : Heap} {CL : Str -> Addr} {x qual : Str} {st : Stmt} {f : Addr} {fd : FuncData} {N ps : List Str} {k : Nat} {A : Type} {arg : A -> List D} {Pre : A -> Prop} {res : A -> T} (F : iM K x qual st f fd) (S : aK N ps (ao st))
   (hb : ∀ (cS : Value) (Ar : Around) (outer : List Env) (s : Shared) (H : Hp) (E : XK) (b : Bx) (a : A), fd.code = cS -> dR k (Ar.deeper (envOfC qual (ao st) s.heap.objs.size f cS)) -> Pre a →
     fD (rA fL P w K mg base N qual (ao st) f cS Ar outer s H E).Ij CL b (eH st) (entry N (arg a)) { nx := fun _ => res a = .sh .non, rt := fun t _ => t = res a }) :
   bL P w K mg base fL (k + 1) f fd ps (jO K CL ps.length arg Pre res) := by
 refine JF F S (fun vs H Q E h => ?_) (fun cS Ar outer s H vs Q E iL hr h => ?_)
 . obtain ⟨W, a, _, _, r, hl, _⟩ := h
   rw [← r.length]; exact hl
 . obtain ⟨W, a, wh, tp, r, hl, hp, tb, kk⟩ := h
   refine ⟨_, MT, hb cS Ar outer s H E ⟨H, W⟩ a iL hr hp H W _ [] [] _ ⟨⟨[], [], ?_, .nil, abM, fun a ha => by cases ha⟩, .refl _, .refl _, wh, fun a o q z => ?_, tp, tb⟩ ⟨fun δ' σ' H' Z' s' S' e => ?_, fun t v H' Z' δ' σ' s' S' e => ?_, fun _ _ _ _ _ _ e => e.elim, fun _ _ _ _ _ _ e => e.elim⟩⟩
   . unfold entry L2.start
     rw [← r.length]
     exact gM _ r
   . have q' : W a = some o := q
     have z' : W a = none := z
     rw [q'] at z'; cases z'
   . exact kk .non H' Z' [] S'.bh S'.zz S'.zh S'.new S'.tp (by rw [show res a = .sh .non from e]; exact .sh .non) abM fun a ha => by cases ha
   . have e' : t = res a := e
     subst e'
     obtain ⟨fp, gp, _, r', nd, own⟩ := S'.rep
     cases r' with
     | @cons _ _ _ _ f1 f2 r1 r2 =>
       have h1 := (abm.mp nd).2.1
       exact kk v H' Z' f1 S'.bh S'.zz S'.zh S'.new S'.tp r1 (abm.mp h1).1 fun a ha => own a (aaD _ (aaX _ ha))
def rQ (mg : Str -> Option Value) (base : Heap) : Prop := ∃ bm o, mg "__builtins__" = some (.ref bm) /\ bm ≠ builtinsNs /\ bm ≠ mainGlobals /\ base.get? bm = some o /\ o.cls = .type "module" /\ o.dict = some builtinsNs /\ o.data = .plain
theorem WV {CX : EJ} {P : Program} {w : World} {K : PySem.W.Frag} {mg : Str -> Option Value} {base : Heap} {N : List Str} {qual : Str} {scope : Scope} {f c : Addr} {cS : Value} {A : Around} {outer : List Env} {s : Shared} {H : Hp} {E : XK} {CL : Str -> Addr} {tx q : Str} {fd : FuncData}
   (bl : rQ mg base) (kb : K.In base) (hc : fd.code = cS) (hf : fd.code = .ref c) (hd : PySem.W.codeHdIn K c (CL tx) = true) (h0 : CL tx ≠ 0) (hq : Dj tx = q := by decide +kernel) (ht : yU tx = true := by decide +kernel) (hn : qual ++ ".<locals>." ++ "<lambda>" = q := by decide +kernel) :
   JB (rA CX P w K mg base N qual scope f cS A outer s H E).Ij CL tx q :=
 ⟨⟨c, hc.symm.trans hf, PySem.W.codeHd_of_K kb hd⟩, bl, hn, ht, h0, hq⟩
def spT (K : PySem.W.Frag) (ts : List (Addr × Str)) {A : Type} (n : Nat) (arg : A -> List D) (Pre : A -> Prop) (res : A -> T) : Sp := fun vs H Q _ =>
 ∃ (W : Hp) (a : A), aA W H /\ (∀ c o, H c = some o -> gi o = true -> W c = some o) /\ aD K (fun _ => 0) W (arg a) vs /\ (arg a).length = n /\ Pre a /\ (∀ p ∈ ts, W p.1 = some (.tabs p.2)) ∧
   ∀ v H' W' fp, aA H H' -> aA W W' -> aA W' H' -> (∀ c o, W' c = some o -> W c = none -> H c = none) -> (∀ c o, H' c = some o -> gi o = true -> W' c = some o) →
     cy K (fun _ => 0) H' W' (res a) v fp -> fp.Nodup -> (∀ c ∈ fp, W' c = none /\ H c = none) -> Q v H'
theorem JG {K : PySem.W.Frag} {CL : Str -> Addr} {ts : List (Addr × Str)} {arg : List Int -> List D} {pre : List Int -> Prop} {res : List Int -> T} (ha : ∀ a, arg a = [.lst (a.map .int)]) (hr : ∀ a, res a = .sh (.bl true)) (h0 : ∀ x, yU x = true -> CL x ≠ 0 -> (CL x, Dj x) ∈ ts) :
   ∀ (vs : List V) (H : Hp) (Q : VK) (E : XK), spT K ts 1 arg pre res vs H Q E -> jO K CL 1 arg pre res vs H Q E := by
 rintro vs H Q E ⟨W, a, h1, h2, h3, h4, h5, h6, k⟩
 have PZ : ∀ {l : List Int} {us : List V}, aD K (fun _ => 0) W (l.map .int) us -> aD K CL W (l.map .int) us := by
   intro l
   induction l with
   | nil => intro us r; cases r; exact .nil
   | cons i l ih =>
     intro us r
     cases r with
     | cons r t => cases r; exact .cons (.int i) (ih t)
 refine ⟨W, a, h1, h2, ?_, h4, h5, fun x hx e => h6 _ (h0 x hx e), fun v H' W' fp a1 a2 a3 a4 a5 r nd own => k v H' W' fp a1 a2 a3 a4 a5 ?_ nd own⟩
 . rw [ha] at h3 ⊢
   cases h3 with
   | cons r t =>
     cases t
     cases r with
     | lst q rr => exact .cons (.lst q (PZ rr)) .nil
 . rw [hr] at r ⊢
   cases r with
   | sh r => cases r; exact .sh (.bl _)
theorem JH {K : PySem.W.Frag} {H : Hp} {a : Addr} {ts : List (Addr × Str)} {arg : List Int -> List D} {pre : List Int -> Prop} {res : List Int -> T} {ns : List Int} (ha : arg ns = [.lst (ns.map D.int)]) (hp : pre ns) (hr : res ns = .sh (.bl true)) (hS : mQ K H a (ns.map V.int)) (ht : ∀ p ∈ ts, H p.1 = some (.tabs p.2)) :
   spT K ts 1 arg pre res [.ref a] H (fun v H' => v = .bl true /\ ∀ p ∈ ts, H' p.1 = some (.tabs p.2)) fun _ _ _ => False :=
 ⟨H, ns, .refl _, fun _ _ q _ => q, by rw [ha]; exact .cons (.lst hS (zf ns)) .nil, by rw [ha]; rfl, hp, ht, fun v H' W' fp hh _ _ _ _ r _ _ => by
   refine ⟨?_, fun p hp => hh _ _ (ht p hp)⟩
   rw [hr] at r
   cases r with
   | sh r => exact r.sc rfl⟩
theorem iR : ∀ {ts : List (Addr × Str)} {b : Addr} {q : Str}, ts.lookup b = some q -> (b, q) ∈ ts
 | [], _, _, e => by cases e
 | (c, x) :: r, b, q, e => by
   rw [aa7] at e
   cases hb : b == c with
   | true => rw [hb] at e; cases e; rw [eq_of_beq hb]; exact .head _
   | false => rw [hb] at e; exact .tail _ (iR e)
theorem DF {P : Program} {w : World} {K : PySem.W.Frag} {mg mb : Str -> Option Value} {k : Nat} {fa a : Addr} {fd : FuncData} {x : Str} {sp : Sp} {s₁ : Shared} {vs : List Value} {ns : List Int} {ts : List (Addr × Str)}
   (KX : K.In s₁.heap) (Vh : s₁.heap.Ns mainGlobals mg) (hb : s₁.heap.Ns builtinsNs mb) (WW : ∀ x : Str, x ≠ "__name__" -> mb x = bootBuiltins x) (WX : s₁.heap.NoLimit) (hg : s₁.gens = #[]) (Vj : rQ mg s₁.heap)
   (ha : s₁.heap.get? a = some { cls := .type "list", data := .seq vs.toArray }) (hi : IntsAre vs ns) (hl : ns.length <= sizeLine) (hr : dR k callerA)
   (hT : ∀ p ∈ ts, s₁.heap.get? p.1 = some (PySem.W.tabObj #[]) /\ ts.lookup p.1 = some p.2 /\ K.lookup p.1 = none /\ ∃ c, PySem.W.CodeHd s₁.heap c p.1)
   (F : ∀ base : Heap, K.In base -> base.Ns mainGlobals mg -> rQ mg base -> bL P w K mg base fL k fa fd [x] sp) (zE : ∀ (s : Shared) (u : Value), BindsTo s fd ⟨[u], []⟩ [(x, u)])
   (AY : ∀ H : Hp, mQ K H a (ns.map V.int) -> (∀ p ∈ ts, H p.1 = some (.tabs p.2)) -> sp [.ref a] H (fun v H' => v = .bl true /\ ∀ p ∈ ts, H' p.1 = some (.tabs p.2)) fun _ _ _ => False) :
   codeAny (model P w) callerA (.call (.ref fa) ⟨[.ref a], []⟩) (fun r s' => r = .ok (.ret (.bool true)) /\ OldK s₁.heap s'.heap /\ s'.os = s₁.os /\ AllBare s'.gens) s₁ := by
 have rv := uv hi
 have WY := hi.length
 have aT : ∀ p ∈ ts, p.1 ≠ a := fun p hp z => by
   have := (hT p hp).1
   rw [z, ha] at this; cases this
 have core : ∀ H : Hp, (∀ b, H b = none \/ (∃ o xs, b = a /\ H b = some (.cW o (.lst xs))) \/ ∃ p ∈ ts, b = p.1 /\ H b = some (.tabs p.2)) -> mQ K H a (ns.map V.int) -> (∀ p ∈ ts, H p.1 = some (.tabs p.2)) -> qg P w H s₁.heap -> (H a ≠ none -> K.lookup a = none) →
     codeAny (model P w) callerA (.call (.ref fa) ⟨[.ref a], []⟩) (fun r s' => r = .ok (.ret (.bool true)) /\ OldK s₁.heap s'.heap /\ s'.os = s₁.os /\ AllBare s'.gens) s₁ := by
   intro H hO hS hH c7 hK
   have Rg : ∀ {b : Addr} {o : Obj}, s₁.heap.get? b = some o -> o ≠ { cls := .type "list", data := .seq vs.toArray } -> o ≠ PySem.W.tabObj #[] -> H b = none := fun {b o} e d1 d2 => by
     rcases hO b with q | ⟨_, _, z, _⟩ | ⟨p, hp, z, _⟩
     . exact q
     . rw [z, ha] at e; exact absurd (aaY e).symm d1
     . rw [z, (hT p hp).1] at e; exact absurd (aaY e).symm d2
   have vA : ∀ {b : Addr} {o : Obj}, s₁.heap.get? b = some o -> H b = none -> (tU s₁.heap H).get? b = some o := fun e n => Et e n
   have Vk : ∀ {b : Addr} {m : Str -> Option Value}, s₁.heap.Ns b m -> (tU s₁.heap H).Ns b m := fun {b m} ⟨o, es, ep, e, d, r⟩ => ⟨o, es, ep, vA e (Rg e (fun z => by rw [z] at d; cases d) fun z => by rw [z] at d; cases d), d, r⟩
   have X8 : K.In (tU s₁.heap H) := fun b o e => vA (KX b o e) (by
     rcases hO b with q | ⟨_, _, z, q⟩ | ⟨p, hp, z, _⟩
     . exact q
     . subst z
       rw [hK (by rw [q]; simp)] at e; cases e
     . rw [z, (hT p hp).2.2.1] at e; cases e)
   have hM : Mod K mg (tU s₁.heap H) := ⟨X8, Vk Vh, ⟨mb, Vk hb, WW⟩, let ⟨mc, h1, h2⟩ := WX; ⟨mc, Vk h1, h2⟩⟩
   have ZN : rQ mg (tU s₁.heap H) := by
     obtain ⟨bm, o, b1, b2, b3, b4, b5, b6, b7⟩ := Vj
     exact ⟨bm, o, b1, b2, b3, vA b4 (Rg b4 (fun z => by rw [z] at b7; cases b7) fun z => by rw [z] at b7; cases b7), b5, b6, b7⟩
   have e0 : AX P w K mg (tU s₁.heap H) callerA [] s₁ H := ⟨rfl, hM, fun b o e => Io e, Nat.le_of_eq (CZ _ _), trivial, fun b hb => absurd (show b ∈ ([] : List Addr) from hb) (by simp), c7, .of_eq hg⟩
   refine codeAny_mono ((F _ X8 (Vk Vh) ZN).run callerA [] s₁ H ⟨[.ref a], []⟩ [.ref a] [.ref a] _ _ hr e0 (zE s₁ (.ref a)) (.cons rfl .nil) (AY H hS hH)) fun r s' h => ?_
   cases r with
   | error e => exact h.elim
   | ok fl =>
     cases fl with
     | next => exact False.elim h
     | brk => exact False.elim h
     | cont => exact False.elim h
     | ret u =>
       obtain ⟨v, H', os, bare, un, Tc, r', q, qt⟩ := h
       subst q
       obtain rfl : u = Value.bool true := r'
       have tabAt : ∀ p ∈ ts, ∃ ps : Array Value, s'.heap.get? p.1 = some (PySem.W.tabObj ps) := fun p hp => by
         obtain ⟨ps, e, _⟩ := Tc _ _ (qt p hp)
         exact ⟨ps, e⟩
       have keep : ∀ b o, s₁.heap.get? b = some o -> (∀ p ∈ ts, b ≠ p.1) -> s'.heap.get? b = some o := fun b o e nt => by
         rcases hO b with q | ⟨ob, xs, z, q⟩ | ⟨p, hp, z, _⟩
         . exact un.keep b o e q (by intro z; exact absurd (show b ∈ ([] : List Addr) from z) (by simp)) (by simp)
         . have z2 := un.fW b ob _ q
           obtain ⟨e1, _⟩ := c7 b _ q
           obtain ⟨e2, _⟩ := Tc b _ z2
           rw [e] at e1; cases e1
           exact e2
         . exact absurd z (nt p hp)
       refine ⟨rfl, ⟨fun b o e => ?_, fun b o e => ?_⟩, os, bare⟩
       . by_cases nt : ∀ p ∈ ts, b ≠ p.1
         . exact .inl (keep b o e nt)
         . obtain ⟨p, hp, rfl⟩ : ∃ p ∈ ts, b = p.1 := Classical.byContradiction fun q => nt fun p hp z => q ⟨p, hp, z⟩
           obtain ⟨h1, _, _, c, hc⟩ := hT p hp
           obtain ⟨ps, e2⟩ := tabAt p hp
           rw [h1] at e; cases e
           exact .inr (.inl ⟨(hc.tab h1).isCodeTable, rfl, #[], ps, rfl, by rw [Array.empty_append]; exact e2⟩)
       . by_cases nt : ∀ p ∈ ts, b ≠ p.1
         . exact ⟨o, keep b o e nt⟩
         . obtain ⟨p, hp, rfl⟩ : ∃ p ∈ ts, b = p.1 := Classical.byContradiction fun q => nt fun p hp z => q ⟨p, hp, z⟩
           obtain ⟨ps, e2⟩ := tabAt p hp
           exact ⟨_, e2⟩
 have tok : ∀ {H : Hp} {b : Addr} {q : Str}, ts.lookup b = some q -> fP P w H s₁.heap b (.tabs q) := fun {H b q} e => by
   obtain ⟨h1, _⟩ := hT (b, q) (iR e)
   exact ⟨#[], h1, trivial, fun pos cv z => by simp [codeAmong] at z⟩
 cases hk : K.lookup a with
 | some o =>
   have e := KX a o hk
   rw [ha] at e
   cases e
   refine core (fun b => (ts.lookup b).map HO.tabs) (fun b => ?_) (.inr ⟨_, vs.toArray, _, hk, rfl, rfl, rfl, by rw [List.size_toArray, WY]; exact hl, by simpa using rv⟩) (fun p hp => ?_) (fun b u z => ?_) fun z => ?_
   . cases q : List.lookup b ts with
     | none => left; rfl
     | some t => right; right; exact ⟨(b, t), iR q, rfl, rfl⟩
   . show (ts.lookup p.1).map HO.tabs = _
     rw [(hT p hp).2.1]; rfl
   . have z' : (ts.lookup b).map HO.tabs = some u := z
     cases q : List.lookup b ts with
     | none => rw [q] at z'; cases z'
     | some t => rw [q] at z'; cases z'; exact tok q
   . exfalso
     apply z
     show (ts.lookup a).map HO.tabs = none
     cases q : ts.lookup a with
     | none => rfl
     | some t => exact absurd rfl (aT (a, t) (iR q))
 | none =>
   refine core (fun b => if b = a then some (.cW { cls := .type "list", data := .seq vs.toArray } (.lst (ns.map V.int))) else (ts.lookup b).map HO.tabs) (fun b => ?_) (.inl (.inr ⟨{ cls := .type "list", data := .seq vs.toArray }, aaF rfl⟩)) (fun p hp => ?_) (fun b u z => ?_) fun _ => hk
   . by_cases hb : b = a
     . exact .inr (.inl ⟨_, _, hb, aaF hb⟩)
     . cases q : List.lookup b ts with
       | none => left; rw [aaE hb]; rfl
       | some t => right; right; exact ⟨(b, t), iR q, rfl, by rw [aaE hb]; rfl⟩
   . show (if p.1 = a then _ else (ts.lookup p.1).map HO.tabs) = _
     rw [aaE (aT p hp), (hT p hp).2.1]; rfl
   . by_cases hb : b = a
     . have z' := (aaF hb).symm.trans z
       cases z'
       subst hb
       exact ⟨ha, by rw [aaK]; exact hl, vs, _, rv, ha⟩
     . have z' : (ts.lookup b).map HO.tabs = some u := (aaE hb).symm.trans z
       cases q : List.lookup b ts with
       | none => rw [q] at z'; cases z'
       | some t => rw [q] at z'; cases z'; exact tok q
theorem FQ {l : PySem.W.OpenLaw} {n k : Nat} {q : Program} {loose : List Str} {XP : (Str -> Option Value) -> Heap -> Prop} {YP : World -> Heap -> Prop} {d : DefRec} {K : Params -> PySem.W.Frag} {sp : World -> List (Addr × Str) -> Sp} {x : Str} {T0 : List Addr}
   (hn : l.most = some n) (U4 : n <= sizeLine) (Sd : d.params.defaults = []) (hr : dR k callerA)
   (hY : ∀ (w : World) (h : Heap), YP w h -> (K w.params).In h) (hT : ∀ (w : World) (h : Heap), YP w h -> ∀ P ∈ T0, h.get? P = some (PySem.W.tabObj #[]))
   (F : ∀ (w : World) (mg : Str -> Option Value) (fa : Addr) (h : Heap), (K w.params).In h -> h.Ns mainGlobals mg -> mg d.name = some (.ref fa) →
     ∃ (fd : FuncData) (ts : List (Addr × Str)), (∀ p ∈ ts, p.1 ∈ T0 /\ ts.lookup p.1 = some p.2 /\ (K w.params).lookup p.1 = none /\ ∃ c, PySem.W.CodeHd h c p.1) /\ (∀ (s : Shared) (u : Value), BindsTo s fd ⟨[u], []⟩ [(x, u)]) ∧
       ∀ base : Heap, (K w.params).In base -> base.Ns mainGlobals mg -> rQ mg base -> bL l.prog w (K w.params) mg base fL k fa fd [x] (sp w ts))
   (AY : ∀ (w : World) (ts : List (Addr × Str)) (H : Hp) (a : Addr) (ns : List Int), ns.length <= n -> mQ (K w.params) H a (ns.map V.int) -> (∀ p ∈ ts, H p.1 = some (.tabs p.2)) -> sp w ts [.ref a] H (fun v H' => v = .bl true /\ ∀ p ∈ ts, H' p.1 = some (.tabs p.2)) fun _ _ _ => False) :
   PySem.W.WalkO q loose XP YP l.row.toRowW d [] (fun f vs => PySem.call f vs) := by
 refine Xx.yR hn Sd fun w s₀ s₁ mg mb fa o pm cd doc a vs ns G Y ho hd iL Se OD hints hlen hg => ?_
 have KX := hY w _ Y
 obtain ⟨fd, ts, X9, hb, hF⟩ := F w mg fa _ KX G.T.g Se
 obtain ⟨bm, ob, b1, b2, b3, b4, b5, b6⟩ := G.T.bmain
 have ZO : bm ≠ mainGlobals := fun q => by
   obtain ⟨o, es, ep, e, hd, _⟩ := G.T.g
   rw [q, e] at b3; cases b3; rw [hd] at b6; cases b6
 exact DF KX G.T.g G.T.b G.T.builtins G.T.nolimit hg ⟨bm, ob, b1, b2, ZO, b3, b4, b5, b6⟩ OD hints (abo hlen U4) hr (fun p hp => ⟨hT w _ Y _ (X9 p hp).1, (X9 p hp).2⟩) hF hb fun H hS ht => AY w ts H a ns hlen hS ht
section
variable {X : Cx}
end
section
variable {X : Cx} {CL : Str -> Addr} {b : Bx} {δ δ1 δ2 : List (Option T)} {o e : Expr} {apos pos : Pos}
end
section
variable {X : Cx} {CL : Str -> Addr} {b : Bx} {δ : List (Option T)} {e : Expr} {es : List Expr} {d : L3.D} {ds : List L3.D}
theorem m5 (h1 : cj X CL b e δ (.sh d) δ) (h2 : A0 X CL b es δ (ds.map T.sh) δ) (hs : starEach (e :: es) X.env = (false, eval e X.env) :: starEach es X.env := by exact cz rfl) : A0 X CL b (e :: es) δ ((d :: ds).map T.sh) δ := aE h1 h2 hs
end
theorem JK {k : Nat} {A : Around} (r : dR k A) : A.depth < recursionLimit := by
 have := r.dp
 omega
section
variable {X : Cx} {CL : Str -> Addr} {b : Bx} {δ δ1 : List (Option T)} {scope : Scope} {y : Str} {Nc : List Str} {ix : List Nat} {elt iter : Expr} {ifs : List Expr} {px pos : Pos} {p : L3.D -> Bool} {g : L3.D -> T} {ds : List L3.D}
end
section
variable {X : Cx}
end
section
variable {X : Cx} {CL : Str -> Addr} {b : Bx} {δ δ1 : List (Option T)} {e : Expr} {pos pp pq pr : Pos}
end
section
variable {X : Cx} {CL : Str -> Addr} {b : Bx} {δ δ1 : List (Option T)} {ds : List L3.D} {i q : Nat} {x y : Str} {pos pp pos' : Pos}
end
end L3
namespace Law
open PySem L2 L3
def top (i : Nat) : Stmt := PySem.Challenge.pw_moodtree_k34_ways_that_meet.main.body.getD i (.Pass ⟨0, 0, 0, 0⟩)
def om : Nat -> List Int -> Int -> List Int
 | 0, _, _ => []
 | n + 1, es, k => if k = -1 then [] else k :: om n es (es.getD k.toNat 0)
def bU (es : List Int) (m : Int) : List Int := om (es.length + 1) es (es.getD m.toNat 0)
def eW (es : List Int) : Prop := ∀ k : Nat, k < es.length -> -1 <= es.getD k 0 /\ es.getD k 0 < k
theorem eW.at {es : List Int} (h : eW es) {k : Int} (h0 : 0 <= k) (h1 : k < es.length) : -1 <= es.getD k.toNat 0 /\ es.getD k.toNat 0 < k := by
 have := h k.toNat (by omega)
 omega
def iS (ks : List Str) (es ss : List Int) : L3.D := .ins "Tree" [("kinds", .lst (ks.map .str)), ("elders", .lst (es.map .int)), ("starts", .lst (ss.map .int))]
theorem rR {ks : List Str} {es ss : List Int} : List.lookup ("kinds" : Str) [(("kinds" : Str), L3.D.lst (ks.map .str)), ("elders", .lst (es.map .int)), ("starts", .lst (ss.map .int))] = some (.lst (ks.map .str)) := mY
theorem jZ {ks : List Str} {es ss : List Int} : List.lookup ("elders" : Str) [(("kinds" : Str), L3.D.lst (ks.map .str)), ("elders", .lst (es.map .int)), ("starts", .lst (ss.map .int))] = some (.lst (es.map .int)) := by
 rw [fM (by decide +kernel), mY]
theorem zH {ks : List Str} {es ss : List Int} : List.lookup ("starts" : Str) [(("kinds" : Str), L3.D.lst (ks.map .str)), ("elders", .lst (es.map .int)), ("starts", .lst (ss.map .int))] = some (.lst (ss.map .int)) := by
 rw [fM (by decide +kernel), fM (by decide +kernel), mY]
theorem dF (ds : List L3.D) : T.cW (.lst (ds.map T.sh)) = .lst ds := by rw [T.cW, gj]
theorem bP (l : List Int) : (T.lst ((l.map L3.D.int).map T.sh)).clean = true := by rw [gF]; exact pX _
theorem rS (l : List Str) : (T.lst ((l.map L3.D.str).map T.sh)).clean = true := by
 rw [gF]
 induction l with
 | nil => rfl
 | cons x l ih => exact ih
def jM (ks : List Str) (es ss : List Int) : List (Str × T) := [("kinds", .lst ((ks.map .str).map T.sh)), ("elders", .lst ((es.map .int).map T.sh)), ("starts", .lst ((ss.map .int).map T.sh))]
theorem DG (ks : List Str) (es ss : List Int) : T.cW (.ins "Tree" (jM ks es ss)) = iS ks es ss := by
 unfold jM
 rw [T.cW, T.lS, T.lS, T.lS, T.lS, dF, dF, dF]
 rfl
theorem qa (ks : List Str) (es ss : List Int) : T.aW (jM ks es ss) = true := by
 unfold jM
 rw [T.aW, T.aW, T.aW, T.aW, rS, bP, bP]
 rfl
theorem vC {es : List Int} (h : eW es) : ∀ (n : Nat) {k x : Int}, -1 <= k -> k < es.length -> x ∈ om n es k -> 0 <= x /\ x <= k
 | 0, k, x, _, _, hx => by rw [om] at hx; cases hx
 | n + 1, k, x, h0, h1, hx => by
   rw [om] at hx
   split at hx
   . cases hx
   . rename_i hk
     have ha := h.at (k := k) (by omega) h1
     rcases aaH.mp hx with rfl | hx
     . omega
     . have := vC h n (by omega) (by omega) hx
       omega
theorem rT {es : List Int} (h : eW es) : ∀ (a b : Nat) {k : Int}, -1 <= k -> k < es.length -> k < a -> k < b -> om a es k = om b es k
 | 0, 0, _, _, _, _, _ => rfl
 | 0, b + 1, k, h0, _, ha, _ => by
   rw [om, om, aaF (by omega)]
 | a + 1, 0, k, h0, _, _, hb => by
   rw [om, om, aaF (by omega)]
 | a + 1, b + 1, k, h0, h1, ha, hb => by
   rw [om, om]
   split
   . rfl
   . have hk := h.at (k := k) (by omega) h1
     rw [rT h a b hk.1 (by omega) (by omega) (by omega)]
theorem FT {es : List Int} (h : eW es) {m : Int} (h0 : 0 <= m) (h1 : m < es.length) : bU es m = if es.getD m.toNat 0 = -1 then [] else es.getD m.toNat 0 :: bU es (es.getD m.toNat 0) := by
 have hm := h.at h0 h1
 unfold bU
 rw [om]
 split
 . rfl
 . rename_i hk
   have ZP := h.at (k := es.getD m.toNat 0) (by omega) (by omega)
   rw [rT h es.length (es.length + 1) ZP.1 (by omega) (by omega) (by omega)]
theorem qB {es : List Int} (h : eW es) {m x : Int} (h0 : 0 <= m) (h1 : m < es.length) (hx : x ∈ bU es m) : 0 <= x /\ x < m /\ x < es.length := by
 have hm := h.at h0 h1
 have := vC h _ hm.1 (by omega) hx
 omega
theorem oO {es : List Int} (h : eW es) : ∀ (n : Nat) {m x : Int}, 0 <= m -> m < es.length -> m < n -> x ∈ bU es m -> ∃ pre, bU es m = pre ++ x :: bU es x /\ ∀ y ∈ pre, y ∈ bU es m /\ x ∈ bU es y
 | 0, m, x, h0, _, hn, _ => by omega
 | n + 1, m, x, h0, h1, hn, hx => by
   have hm := h.at h0 h1
   have e := FT h h0 h1
   generalize hq : es.getD m.toNat 0 = k at hm e
   by_cases hk : k = -1
   . rw [e, aaF hk] at hx; cases hx
   . rw [aaE hk] at e
     rw [e] at hx
     rcases aaH.mp hx with rfl | hx
     . exact ⟨[], by rw [e]; rfl, fun y hy => by cases hy⟩
     . obtain ⟨pre, p1, p2⟩ := oO h n (m := k) (by omega) (by omega) (by omega) hx
       refine ⟨k :: pre, by rw [e, p1]; rfl, fun y hy => ?_⟩
       rcases aaH.mp hy with rfl | hy
       . exact ⟨by rw [e]; exact aaP, hx⟩
       . exact ⟨by rw [e]; exact aaM _ (p2 y hy).1, (p2 y hy).2⟩
theorem oQ {es : List Int} (h : eW es) {m x y : Int} (h0 : 0 <= m) (h1 : m < es.length) (hx : x ∈ bU es m) (hy : y ∈ bU es x) : y ∈ bU es m := by
 obtain ⟨pre, p1, _⟩ := oO h (m.toNat + 1) h0 h1 (by omega) hx
 rw [p1]
 exact aaD _ (aaM _ hy)
theorem JL {es : List Int} (h : eW es) {m x y : Int} (h0 : 0 <= m) (h1 : m < es.length) (hx : x ∈ bU es m) (hy : y ∈ bU es m) : x = y \/ x ∈ bU es y \/ y ∈ bU es x := by
 obtain ⟨pre, p1, p2⟩ := oO h (m.toNat + 1) h0 h1 (by omega) hx
 rw [p1] at hy
 rcases aaS.mp hy with hy | hy
 . exact .inr (.inl (p2 y hy).2)
 . rcases aaH.mp hy with e | hy
   . exact .inl e.symm
   . exact .inr (.inr hy)
def qb (es : List Int) : Prop := eW es /\ ∀ k : Nat, k + 1 < es.length -> es.getD (k + 1) 0 = k \/ es.getD (k + 1) 0 ∈ bU es k
theorem qb.down {es : List Int} (h : qb es) {k : Nat} {x : Int} (hk : k + 1 < es.length) (hx : x ∈ bU es ((k + 1 : Nat) : Int)) : x = k \/ x ∈ bU es k := by
 have e := FT h.1 (m := ((k + 1 : Nat) : Int)) (by omega) (by omega)
 rw [abw] at e
 have hp := h.2 k hk
 rw [e] at hx
 split at hx
 . cases hx
 . rename_i rO
   rcases aaH.mp hx with hx | hx
   . rcases hp with hp | hp
     . exact .inl (hx.trans hp)
     . rw [hx]; exact .inr hp
   . rcases hp with hp | hp
     . rw [hp] at hx; exact .inr hx
     . exact .inr (oQ h.1 (by omega) (by omega) hp hx)
def m7 (uC : Int -> Bool) (es : List Int) (a b : Int) : Int := ((bU es a).find? (fun x => uC x && decide (x ∈ bU es b))).getD (-1)
theorem Ck {es : List Int} {x : Int} (h : eW es) : ∀ (n : Nat) {k : Int}, -1 <= k -> k < es.length -> om n (es ++ [x]) k = om n es k
 | 0, _, _, _ => rfl
 | n + 1, k, h0, h1 => by
   rw [om, om]
   split
   . rfl
   . have hk := h.at (k := k) (by omega) h1
     have e : (es ++ [x]).getD k.toNat 0 = es.getD k.toNat 0 := by
       rw [aaW, acf (by omega), ← aaW]
     rw [e, Ck h n hk.1 (by omega)]
theorem rV {es : List Int} {x : Int} {k : Nat} (h : k < es.length) : (es ++ [x]).getD k 0 = es.getD k 0 := by
 rw [aaW, acf h, ← aaW]
theorem JM {es : List Int} {x : Int} (h : eW es) {m : Int} (h0 : 0 <= m) (h1 : m < es.length) : bU (es ++ [x]) m = bU es m := by
 have hm := h.at h0 h1
 unfold bU
 rw [rV (by omega), Ck h _ hm.1 (by omega), rT h _ (es.length + 1) hm.1 (by omega) (by rw [aa1]; omega) (by omega)]
theorem eW.snoc {es : List Int} (h : eW es) {x : Int} (h0 : -1 <= x) (h1 : x < es.length) : eW (es ++ [x]) := fun k hk => by
 rw [aa1] at hk
 simp only [aaZ, abI] at hk
 by_cases e : k < es.length
 . rw [rV e]
   exact h k e
 . have : k = es.length := by omega
   subst this
   rw [aaW, abG (aaI _)]
   simp
   omega
theorem qb.snoc {es : List Int} (h : qb es) {x : Int} {k : Nat} (hk : k + 1 = es.length) (hx : x = k \/ x ∈ bU es k) : qb (es ++ [x]) := by
 have Yb : -1 <= x /\ x < es.length := by
   rcases hx with e | e
   . omega
   . have := qB h.1 (m := (k : Int)) (by omega) (by omega) e
     omega
 refine ⟨h.1.snoc Yb.1 Yb.2, fun j hj => ?_⟩
 rw [aa1] at hj
 simp only [aaZ, abI] at hj
 rw [JM h.1 (by omega) (by omega)]
 by_cases e : j + 1 < es.length
 . rw [rV e]
   exact h.2 j e
 . have : j = k := by omega
   subst this
   have e2 : (es ++ [x]).getD (j + 1) 0 = x := by
     rw [aaW, abG (by omega), hk, Nat.sub_self]
     rfl
   rw [e2]
   exact hx
def Ep (es : List Int) (m : Int) : List Int := ((List.range es.length).filter (fun (i : Nat) => decide (m = -1) || decide (m ∈ bU es i))).map (fun (i : Nat) => (i : Int))
theorem vD : ∀ (n : Nat) (es : List Int) (k : Int), (om n es k).length <= n
 | 0, _, _ => aaI _
 | n + 1, es, k => by
   rw [om]
   split
   . exact abf _
   . exact Nat.succ_le_succ (vD n es _)
def eZ (ks : List Str) (x : Int) : Bool := decide (ks.getD x.toNat Str.empty = "one")
def uD (es : List Int) (m : Int) : List Int := ((List.range es.length).filter (fun (i : Nat) => decide (es.getD i 0 = m))).map (fun (i : Nat) => (i : Int))
theorem JN (es : List Int) (m : Int) : (uD es m).length <= es.length := by
 unfold uD
 rw [aaK]
 exact abo (List.length_filter_le _ _) (by simp)
def oR (bs nm : List L3.D) (tr : L3.D) (is os ws : List L3.D) : L3.D := .ins "Chart" [("boxes", .lst bs), ("names", .lst nm), ("tree", tr), ("ins", .lst is), ("outs", .lst os), ("ways", .lst ws)]
section
variable {bs nm is os ws : List L3.D} {tr : L3.D}
theorem mG : List.lookup ("tree" : Str) [(("boxes" : Str), L3.D.lst bs), ("names", .lst nm), ("tree", tr), ("ins", .lst is), ("outs", .lst os), ("ways", .lst ws)] = some tr := by
 rw [fM (by decide +kernel), fM (by decide +kernel), mY]
theorem mH : List.lookup ("ways" : Str) [(("boxes" : Str), L3.D.lst bs), ("names", .lst nm), ("tree", tr), ("ins", .lst is), ("outs", .lst os), ("ways", .lst ws)] = some (.lst ws) := by
 rw [fM (by decide +kernel), fM (by decide +kernel), fM (by decide +kernel), fM (by decide +kernel), fM (by decide +kernel), mY]
end
def oS (bs nm : List L3.D) : List (Str × T) := [("boxes", .lst (bs.map T.sh)), ("names", .lst (nm.map T.sh))]
def oU (is os ws : List L3.D) : List (Str × T) := [("ins", .lst (is.map T.sh)), ("outs", .lst (os.map T.sh)), ("ways", .lst (ws.map T.sh))]
def f7 (bs nm : List L3.D) (t : T) (is os ws : List L3.D) : List (Str × T) := oS bs nm ++ (("tree" : Str), t) :: oU is os ws
theorem Bc (bs nm : List L3.D) (t : T) (is os ws : List L3.D) : T.cW (.ins "Chart" (f7 bs nm t is os ws)) = oR bs nm t.cW is os ws := by
 unfold f7 oS oU
 rw [aa6, aa6, ach, T.cW, T.lS, T.lS, T.lS, T.lS, T.lS, T.lS, T.lS, dF, dF, dF, dF, dF]
 rfl
theorem bE {ds : List L3.D} (h : D.bM ds = true) : (T.lst (ds.map T.sh)).clean = true := by
 rw [gF]
 induction ds with
 | nil => rfl
 | cons d ds ih =>
   rw [D.bM, abt] at h
   rw [aa8, T.dH, ih h.2, T.clean, h.1]; rfl
theorem vG {bs nm : List L3.D} (h1 : D.bM bs = true) (h2 : D.bM nm = true) : T.aW (oS bs nm) = true := by
 unfold oS
 rw [T.aW, T.aW, T.aW, bE h1, bE h2]; rfl
theorem vH {is os ws : List L3.D} (h1 : D.bM is = true) (h2 : D.bM os = true) (h3 : D.bM ws = true) : T.aW (oU is os ws) = true := by
 unfold oU
 rw [T.aW, T.aW, T.aW, T.aW, bE h1, bE h2, bE h3]; rfl
structure fH where
 src : Int
 sign : Str
 asks : List L3.D
 m8 : List L3.D
 tgt : Int
 mode : Str
def d9 (w : fH) : L3.D := .tup [.int w.src, .str w.sign, .tup w.asks, .tup w.m8, .int w.tgt, .str w.mode]
def bI (ns : List Int) (k : Int) : Int := if k < ns.length then ns.getD k.toNat 0 else 0
def e7 (c : Int) : Int := if c % 2 = 0 then c / 2 % 9 - 4 else if c % 4 = 1 then c / 4 * 48271 % 10 ^ 60 else -(c / 4 * 48271 % 10 ^ 60)
def DH : List Nat := (List.range 26).map (· + 97) ++ (List.range 10).map (· + 48)
theorem FU : ("abcdefghijklmnopqrstuvwxyz0123456789" : Str).cps.toList = DH := by decide +kernel
def qm (k : Int) : Str := ⟨#[DH.getD k.toNat 0]⟩
theorem P0 : ∀ n ∈ DH, n < 1114112 := by decide +kernel
theorem FW (k : Int) : PyData.strOk (qm k) = true := by
 unfold PyData.strOk qm
 have : DH.getD k.toNat 0 < 1114112 := by
   rw [aaW]
   cases e : DH[k.toNat]? with
   | none => decide
   | some n => exact P0 n (abu e)
 simpa [List.getD_eq_getElem?_getD] using this
def JQ (m : Int) : Int := (m * 48271 + 11) % 2147483647
def gR (p : Int × Str) : Nat -> Int × Str
 | 0 => p
 | n + 1 => (JQ (gR p n).1, (gR p n).2 ++ qm (JQ (gR p n).1 % 36))
def Yc (c : Int) : Int × Str := (c / 12 % 10 ^ (9 : Int).toNat, qm (c / 12 % 10 ^ (9 : Int).toNat % 26))
theorem FY (p : Int × Str) (n : Nat) : (gR p n).2.length = p.2.length + n := by
 induction n with
 | zero => rfl
 | succ n ih =>
   show ((gR p n).2 ++ qm _).length = _
   rw [str_len, ih]
   show _ + 1 = _
   omega
theorem Td (p : Int × Str) (h : PyData.strOk p.2 = true) (n : Nat) : PyData.strOk (gR p n).2 = true := by
 induction n with
 | zero => exact h
 | succ n ih => exact oG _ _ ih (FW _)
def Il (c : Int) : Str := (gR (Yc c) (c % 12).toNat).2
theorem Cm (c : Int) : (Il c).length <= 12 := by
 unfold Il
 rw [FY]
 have h1 := aaU c (show (12 : Int) ≠ 0 by decide)
 have h2 := aaQ c (show (0 : Int) < 12 by decide)
 show 1 + (c % 12).toNat <= 12
 omega
def w13 : List Str := ["all", "and", "box", "call", "do", "far", "if", "in", "leaf", "near", "on", "one", "open"]
def w6 : List Str := ["out", "put", "say", "shut", "then", "to"]
def gS (c : Int) : Str := if Il c ∈ w13 then Il c ++ "0" else if Il c ∈ w6 then Il c ++ "0" else Il c
theorem vI (c : Int) : PyData.strOk (gS c) = true := by
 have hb : PyData.strOk (Il c) = true := Td _ (FW _) _
 have h0 : PyData.strOk ("0" : Str) = true := by decide +kernel
 unfold gS
 split
 . exact oG _ _ hb h0
 . split
   . exact oG _ _ hb h0
   . exact hb
theorem fU (l : List Int) : iz 60 (.lst (l.map .int)) := .lst fun d hd => by
 obtain ⟨i, _, rfl⟩ := abg.mp hd
 exact .int _ _
def j3 (mk : Str) (i j : Int) : Bool := if mk = "<" then decide (i < j) else if mk = "<=" then decide (i <= j) else if mk = "=" then decide (i = j) else !decide (i = j)
def mJ (bx mo : Int) (bs : List Int) : Int := if bx = -1 then mo else bs.getD bx.toNat 0 + mo
def Te (c s : Int) : Int := (c % 2147483647 + s) * 48271 % 2147483647
def b8 (c s : Int) : Int := Te c s * Te c s % 2147483629
theorem Tf (c s : Int) : 0 <= Te c s /\ Te c s < 2147483647 := ⟨aaU _ (by decide), aaQ _ (by decide)⟩
theorem vJ (c s : Int) : 0 <= b8 c s := aaU _ (by decide)
def dz (c : Int) : Int := if c % 2 = 0 then c / 2 % 9 - 4 else if c % 4 = 1 then c / 4 * 48271 % (10 ^ 30 - 1) else -(c / 4 * 48271 % (10 ^ 30 - 1))
def bJ (es : List Int) (k : Nat) : List Int := if (12 : Int) < (([(k : Int)] ++ bU es k).length : Nat) then cutD ([(k : Int)] ++ bU es k) (some 1) none else [(k : Int)] ++ bU es k
theorem qc {es : List Int} {k : Nat} (h : eW es) (hk : k + 1 = es.length) : 0 < (bJ es k).length /\ (bJ es k).length <= es.length + 2 /\ ∀ x ∈ bJ es k, 0 <= x /\ x < es.length := by
 have hm : ∀ x ∈ [(k : Int)] ++ bU es k, 0 <= x /\ x < es.length := fun x hx => by
   rcases aaS.mp hx with h1 | h1
   . have : x = k := by simpa using h1
     omega
   . have ha := h.at (k := (k : Int)) (by omega) (by omega)
     have := vC h _ ha.1 (by omega) h1
     omega
 have hl : ([(k : Int)] ++ bU es k).length <= es.length + 2 := by
   have := vD (es.length + 1) es (es.getD (k : Int).toNat 0)
   rw [aa1]
   unfold bU
   simp only [aaZ, abI]
   omega
 unfold bJ
 split
 . rename_i WZ
   have e : cutD ([(k : Int)] ++ bU es k) (some 1) none = bU es k := by
     generalize bU es k = l at WZ
     unfold cutD
     have h1 : HT.qi ([(k : Int)] ++ l).length 0 (some 1) = 1 := by
       rw [aa1] at WZ ⊢
       simp only [aaZ, abI] at WZ ⊢
       unfold HT.qi
       simp
     have h2 : HT.qi ([(k : Int)] ++ l).length ([(k : Int)] ++ l).length none = ([(k : Int)] ++ l).length := by
       unfold HT.qi
       simp
     rw [h1, h2]
     simp
   rw [e]
   have W0 := aa1 (as := [(k : Int)]) (bs := bU es k)
   simp only [aaZ, abI] at W0
   exact ⟨by omega, by omega, fun x hx => hm x (aaD _ hx)⟩
 . exact ⟨by simp, hl, hm⟩
theorem getD_mem {l : List Int} {n : Nat} (h : n < l.length) : l.getD n 0 ∈ l := by
 rw [aaW, aa3 h]
 exact abZ h
theorem vK {es : List Int} {k : Nat} {x : Int} (hx : x ∈ bJ es k) : x = k \/ x ∈ bU es k := by
 have hm : x ∈ [(k : Int)] ++ bU es k := by
   unfold bJ at hx
   split at hx
   . unfold cutD at hx
     exact List.mem_of_mem_drop (List.mem_of_mem_take hx)
   . exact hx
 rcases aaS.mp hm with h | h
 . exact .inl (by simpa using h)
 . exact .inr h
def Tg (s es : List Int) (k : Nat) : Int := (bJ es k).getD (b8 (bI s ((k : Int) + 1)) (3 + (k : Int)) % ((bJ es k).length : Nat)).toNat 0
def lT (s : List Int) : Nat -> List Int
 | 0 => [-1]
 | j + 1 => lT s j ++ [Tg s (lT s j) j]
theorem JR : qb [-1] := ⟨fun k hk => by
   have : k = 0 := by simpa using hk
   subst this
   exact ⟨Int.le_refl _, show (-1 : Int) < ((0 : Nat) : Int) by decide⟩, fun k hk => by simp at hk⟩
theorem vN (s : List Int) : ∀ j, (lT s j).length = j + 1 /\ qb (lT s j)
 | 0 => ⟨rfl, JR⟩
 | j + 1 => by
   obtain ⟨h1, h2⟩ := vN s j
   obtain ⟨r1, r2, r3⟩ := qc (k := j) h2.1 h1.symm
   refine ⟨by show (lT s j ++ _).length = _; rw [aa1, h1]; rfl, ?_⟩
   have hx := getD_mem (l := bJ (lT s j) j) (n := (b8 (bI s ((j : Int) + 1)) (3 + (j : Int)) % ((bJ (lT s j) j).length : Nat)).toNat) (by
     have := aaQ (b8 (bI s ((j : Int) + 1)) (3 + (j : Int))) (b := ((bJ (lT s j) j).length : Nat)) (by omega)
     have := aaU (b8 (bI s ((j : Int) + 1)) (3 + (j : Int))) (b := ((bJ (lT s j) j).length : Nat)) (by omega)
     omega)
   exact h2.snoc h1.symm (vK hx)
def cntK (s : List Int) : Int := 1 + b8 (bI s 0) 2 % 14
theorem FZ (s : List Int) : 1 <= cntK s /\ cntK s <= 30 := by
 unfold cntK
 omega
def gY (s : List Int) : List Int := lT s (cntK s - 1).toNat
theorem Cp (s : List Int) : 1 <= (gY s).length /\ (gY s).length <= 30 /\ qb (gY s) := by
 obtain ⟨h1, h2⟩ := vN s (cntK s - 1).toNat
 have := FZ s
 unfold gY
 exact ⟨by omega, by omega, h2⟩
def Er (s : List Int) (k : Nat) : Int := b8 (bI s (k : Int)) (101 + (k : Int))
def AA (s es : List Int) (k : Nat) : Str := if uD es (k : Int) = [] then "leaf" else (["all", "one"] : List Str).getD (Er s k % 2).toNat Str.empty
def stK (s es : List Int) (k : Nat) : Int := if AA s es k = "one" then (uD es (k : Int)).getD (Er s k / 2 % ((uD es (k : Int)).length : Nat)).toNat 0 else -1
def Rm (s es : List Int) (k : Nat) : Int := if AA s es k = "one" then (uD es (k : Int)).getD (Er s k / 22 % ((uD es (k : Int)).length : Nat)).toNat 0 else -1
theorem P1 (s es : List Int) (k : Nat) : PyData.strOk (AA s es k) = true := by
 unfold AA
 split
 . decide +kernel
 . have : Er s k % 2 = 0 \/ Er s k % 2 = 1 := by omega
   rcases this with e | e <;> rw [e] <;> decide +kernel
theorem JS {s es : List Int} {k : Nat} (h : AA s es k = "one") : uD es (k : Int) ≠ [] := by
 intro e
 unfold AA at h
 rw [aaF e] at h
 exact absurd h (by decide +kernel)
def m9 (s es : List Int) (n : Nat) : List Str := (List.range n).map (AA s es)
def rW (s es : List Int) (n : Nat) : List Int := (List.range n).map (stK s es)
def oV (s es : List Int) (n : Nat) : List Int := (List.range n).map (Rm s es)
def ng (ks : List Str) (es ss os : List Int) : L3.D := .lst [.lst (ks.map .str), .lst (es.map .int), .lst (ss.map .int), .lst (os.map .int)]
def qd (ks : List Str) (es ss os : List Int) : T := .lst [.lst ((ks.map .str).map T.sh), .lst ((es.map .int).map T.sh), .lst ((ss.map .int).map T.sh), .lst ((os.map .int).map T.sh)]
theorem F0 (ks : List Str) (es ss os : List Int) : (qd ks es ss os).cW = ng ks es ss os := by
 unfold qd ng
 rw [T.cW, T.fW, T.fW, T.fW, T.fW, T.fW, dF, dF, dF, dF]
def uE (es os : List Int) : Nat -> List Int
 | 0 => [0]
 | j + 1 => if es.getD (j + 1) 0 ∈ uE es os j /\ (os.getD (es.getD (j + 1) 0).toNat 0 = -1 \/ os.getD (es.getD (j + 1) 0).toNat 0 = ((j + 1 : Nat) : Int)) then uE es os j ++ [((j + 1 : Nat) : Int)] else uE es os j
theorem qC {es os : List Int} : ∀ (j : Nat) {x : Int}, x ∈ uE es os j -> 0 <= x /\ x <= j
 | 0, x, h => by
   have : x = 0 := by simpa [uE] using h
   omega
 | j + 1, x, h => by
   rw [uE] at h
   split at h
   . rcases aaS.mp h with h | h
     . have := qC j h
       omega
     . have : x = ((j + 1 : Nat) : Int) := by simpa using h
       omega
   . have := qC j h
     omega
theorem vO {es os : List Int} : ∀ (j : Nat), 1 <= (uE es os j).length /\ (uE es os j).length <= j + 1
 | 0 => ⟨aaI _, aaI _⟩
 | j + 1 => by
   have := vO (es := es) (os := os) j
   rw [uE]
   split
   . rw [aa1]
     simp only [aaZ, abI]
     omega
   . omega
def Rn (s : List Int) : List Int := (List.range (b8 (bI s 0) 7 % 6).toNat).map fun (k : Nat) => e7 (bI s ((k : Int) + 1) + 5 * (k : Int))
theorem JT (s : List Int) : (Rn s).length <= 5 := by
 unfold Rn
 rw [aaK, List.length_range]
 omega
theorem F2 {x : Str} (h : PyData.strOk x = true) (l k : Option Int) : PyData.strOk (Txt.slice x l k) = true := by
 unfold Txt.slice
 split
 . exact h
 . unfold PyData.strOk at *
   rw [List.all_toArray, abN]
   intro c hc
   obtain ⟨i, _, hi⟩ := List.mem_filterMap.mp hc
   rw [← Array.all_toList, abN] at h
   exact h c (by rw [← ab7] at hi; exact abu hi)
theorem DI (c : Int) : (gS c).length <= 13 := by
 have h := Cm c
 unfold gS
 split
 . rw [str_len]; show _ + 1 <= _; omega
 . split
   . rw [str_len]; show _ + 1 <= _; omega
   . omega
def qe (s : List Int) : Str := Txt.slice (gS (bI s 0 / 2)) none (some 10)
def JV (s : List Int) : List Str := if bI s 0 % 2 = 0 then [qe s ++ "1", qe s ++ "12", qe s ++ "2"] else [qe s, gS (bI s 1 + 5), gS (bI s 2 + 10)]
theorem JW (s : List Int) : (JV s).length = 3 := by
 unfold JV
 split <;> rfl
theorem P4 (s : List Int) : ∀ x ∈ JV s, PyData.strOk x = true := by
 have hb : PyData.strOk (qe s) = true := F2 (vI _) _ _
 unfold JV
 split
 . intro x hx
   simp only [aaH, abO, or_false] at hx
   rcases hx with rfl | rfl | rfl
   . exact oG _ _ hb (by decide +kernel)
   . exact oG _ _ hb (by decide +kernel)
   . exact oG _ _ hb (by decide +kernel)
 . intro x hx
   simp only [aaH, abO, or_false] at hx
   rcases hx with rfl | rfl | rfl
   . exact hb
   . exact vI _
   . exact vI _
inductive zI where
 | F3 (op : Bool) (m : Int)
 | num (mk : Str) (b1 m1 b2 m2 : Int)
def nh : zI -> L3.D
 | .F3 op m => .tup [.str (if op then "open" else "shut"), .int m]
 | .num mk b1 m1 b2 m2 => .tup [.str mk, .tup [.int b1, .int m1], .tup [.int b2, .int m2]]
def zJ : List Str := ["<", "<=", "=", "!="]
def zI.Ok (n : Nat) (bs : List Int) : zI -> Prop
 | .F3 _ m => 0 <= m /\ m < n
 | .num mk b1 _ b2 _ => mk ∈ zJ /\ (b1 = -1 \/ (0 <= b1 /\ b1 < bs.length)) /\ (b2 = -1 \/ (0 <= b2 /\ b2 < bs.length))
theorem rX (a : zI) : (nh a).jd = true := by cases a <;> rfl
theorem JX : ∀ x ∈ zJ, PyData.strOk x = true := by decide +kernel
theorem F4 {n : Nat} {m : Nat} {bs : List Int} {a : zI} (h : a.Ok m bs) : iz (n + 2) (nh a) := by
 cases a with
 | F3 op m =>
   refine .tup fun d hd => ?_
   rcases aaH.mp hd with rfl | hd
   . refine .str _ _ ?_
     cases op <;> decide +kernel
   . rw [abi.mp hd]; exact .int _ _
 | num mk b1 m1 b2 m2 =>
   refine .tup fun d hd => ?_
   rcases aaH.mp hd with rfl | hd
   . exact .str _ _ (JX _ h.1)
   . rcases aaH.mp hd with rfl | hd
     . exact .tup fun d hd => by
         rcases aaH.mp hd with rfl | hd
         . exact .int _ _
         . rw [abi.mp hd]; exact .int _ _
     . rw [abi.mp hd]
       exact .tup fun d hd => by
         rcases aaH.mp hd with rfl | hd
         . exact .int _ _
         . rw [abi.mp hd]; exact .int _ _
def rY (g : Bool) (i j : Int) : List Str := zJ.filter fun m => decide (j3 m i j = g)
theorem Cq (i j : Int) : j3 "=" i j = decide (i = j) := by unfold j3; rw [aaE (by decide +kernel), aaE (by decide +kernel), aaF rfl]
theorem Cr (i j : Int) : j3 "!=" i j = !decide (i = j) := by unfold j3; rw [aaE (by decide +kernel), aaE (by decide +kernel), aaE (by decide +kernel)]
theorem zK (g : Bool) (i j : Int) : 0 < (rY g i j).length := by
 have mem : ∀ m ∈ zJ, j3 m i j = g -> 0 < (rY g i j).length := fun m hm h => List.length_pos_of_mem (abR.mpr ⟨hm, ab5 h⟩)
 cases g with
 | true =>
   by_cases e : i = j
   . exact mem "=" (by decide +kernel) (by rw [Cq]; exact ab5 e)
   . exact mem "!=" (by decide +kernel) (by rw [Cr, abj e]; rfl)
 | false =>
   by_cases e : i = j
   . exact mem "!=" (by decide +kernel) (by rw [Cr, ab5 e]; rfl)
   . exact mem "=" (by decide +kernel) (by rw [Cq]; exact abj e)
def zL (c : Int) : Bool := decide (0 < b8 c 31 % 3)
def qo (c : Int) (n : Nat) : Int := b8 c 31 / 9 % ((n : Int) + 1) - 1
def oW (c : Int) (n : Nat) : Int := if b8 c 31 / 729 % 3 = 0 then qo c n else b8 c 31 / 81 % ((n : Int) + 1) - 1
def vP (c : Int) : Int := if b8 c 31 / 729 % 3 = 0 then dz (c / 3) + b8 c 31 / 2187 % 3 - 1 else dz (c / 5 + 1)
theorem vQ (c : Int) (n : Nat) : qo c n = -1 \/ (0 <= qo c n /\ qo c n < n) := by
 have a := aaU (b8 c 31 / 9) (b := (n : Int) + 1) (by omega)
 have b := aaQ (b8 c 31 / 9) (b := (n : Int) + 1) (by omega)
 unfold qo
 omega
theorem Ct (c : Int) (n : Nat) : oW c n = -1 \/ (0 <= oW c n /\ oW c n < n) := by
 have a := aaU (b8 c 31 / 81) (b := (n : Int) + 1) (by omega)
 have b := aaQ (b8 c 31 / 81) (b := (n : Int) + 1) (by omega)
 unfold oW
 split
 . exact vQ c n
 . omega
def lX (c : Int) (bs : List Int) : Int := mJ (qo c bs.length) (dz (c / 3)) bs
def iB (c : Int) (bs : List Int) : Int := mJ (oW c bs.length) (vP c) bs
def zM (c : Int) (bs : List Int) : Str := (rY (zL c) (lX c bs) (iB c bs)).getD (b8 c 31 / 6561 % ((rY (zL c) (lX c bs) (iB c bs)).length : Nat)).toNat Str.empty
def mK (ops : List Int) (m : Nat) (bs : List Int) (c : Int) : zI :=
 if b8 c 31 / 3 % 3 = 0 then .F3 (decide (decide (b8 c 31 / 9 % (m : Int) ∈ ops) = zL c)) (b8 c 31 / 9 % (m : Int))
 else .num (zM c bs) (qo c bs.length) (dz (c / 3)) (oW c bs.length) (vP c)
theorem DJ (c : Int) (bs : List Int) : zM c bs ∈ zJ := by
 have hp := zK (zL c) (lX c bs) (iB c bs)
 have hm : ∀ x ∈ rY (zL c) (lX c bs) (iB c bs), x ∈ zJ := fun x hx => (abR.mp hx).1
 have l0 := aaU (b8 c 31 / 6561) (b := ((rY (zL c) (lX c bs) (iB c bs)).length : Nat)) (by omega)
 have l1 := aaQ (b8 c 31 / 6561) (b := ((rY (zL c) (lX c bs) (iB c bs)).length : Nat)) (by omega)
 unfold zM
 rw [aaW, aa3 (by omega)]
 exact hm _ (abZ _)
theorem JY (ops : List Int) {m : Nat} (hm : 1 <= m) (bs : List Int) (c : Int) : (mK ops m bs c).Ok m bs := by
 unfold mK
 split
 . exact ⟨aaU _ (by omega), aaQ _ (by omega)⟩
 . exact ⟨DJ c bs, vQ _ _, Ct _ _⟩
def Nm (th : List Str) (k : Int) : List L3.D := ([[], [.tup [.str "call", .str (th.getD 0 Str.empty)]], [.tup [.str "say", .str (th.getD 1 Str.empty), .tup [.int (-1), .int 7]], .tup [.str "call", .str (th.getD 2 Str.empty)]]] : List (List L3.D)).getD k.toNat []
def DK (ops : List Int) (m : Nat) (bs : List Int) (c : Int) : List zI := (List.range (b8 c 11 / 100 % 3).toNat).map fun (k : Nat) => mK ops m bs (c / ((k : Int) + 1) + 17 * (k : Int))
def F5 (ops : List Int) (m : Nat) (bs : List Int) (th : List Str) (c : Int) : fH where
 src := if b8 c 11 % 2 = 0 then ops.getD (b8 c 11 / 2 % (ops.length : Nat)).toNat 0 else b8 c 11 / 2 % (m : Int)
 sign := th.getD (b8 c 13 / 300 % 3).toNat Str.empty
 asks := (DK ops m bs c).map nh
 m8 := Nm th (b8 c 11 / 300 % 3)
 tgt := if b8 c 13 % 5 = 0 then -1 else b8 c 13 / 5 % (m : Int)
 mode := if b8 c 13 % 5 = 0 then "new" else (["new", "near", "far"] : List Str).getD (b8 c 13 / 100 % 3).toNat Str.empty
structure rZ (m : Nat) (bs : List Int) (w : fH) : Prop where
 src : 0 <= w.src /\ w.src < m
 sign : PyData.strOk w.sign = true
 asks : ∃ l : List zI, w.asks = l.map nh /\ l.length <= 2 /\ ∀ a ∈ l, a.Ok m bs
 m8 : D.bM w.m8 = true /\ ∀ d ∈ w.m8, iz 10 d
 tgt : -1 <= w.tgt /\ w.tgt < m
 mode : PyData.strOk w.mode = true
theorem P5 {th : List Str} (h : ∀ x ∈ th, PyData.strOk x = true) (h3 : th.length = 3) (k : Int) : D.bM (Nm th k) = true /\ ∀ d ∈ Nm th k, iz 10 d := by
 have g : ∀ i, i < 3 -> PyData.strOk (th.getD i Str.empty) = true := fun i hi => by
   rw [aaW, aa3 (by omega)]
   exact h _ (abZ _)
 have e2 : ∀ {a b : L3.D}, iz 9 a -> iz 9 b -> iz 10 (.tup [a, b]) := fun ha hb => .tup fun d hd => by
   rcases aaH.mp hd with rfl | hd
   . exact ha
   . rw [abi.mp hd]; exact hb
 unfold Nm
 by_cases k0 : k.toNat = 0
 . rw [k0]; exact ⟨rfl, fun d hd => by cases hd⟩
 . by_cases k1 : k.toNat = 1
   . rw [k1]
     refine ⟨rfl, fun d hd => ?_⟩
     rw [abi.mp hd]
     exact e2 (.str _ _ (by decide +kernel)) (.str _ _ (g 0 (by omega)))
   . by_cases k2 : k.toNat = 2
     . rw [k2]
       refine ⟨rfl, fun d hd => ?_⟩
       rcases aaH.mp hd with rfl | hd
       . refine .tup fun d hd => ?_
         rcases aaH.mp hd with rfl | hd
         . exact .str _ _ (by decide +kernel)
         . rcases aaH.mp hd with rfl | hd
           . exact .str _ _ (g 1 (by omega))
           . rw [abi.mp hd]
             refine .tup fun d hd => ?_
             rcases aaH.mp hd with rfl | hd
             . exact .int _ _
             . rw [abi.mp hd]; exact .int _ _
       . rw [abi.mp hd]
         exact e2 (.str _ _ (by decide +kernel)) (.str _ _ (g 2 (by omega)))
     . rw [aaW, ab6 (by simp; omega)]
       exact ⟨rfl, fun d hd => by cases hd⟩
theorem F6 {ops : List Int} {m : Nat} {bs : List Int} {th : List Str} (hm : 1 <= m) (ho : 1 <= ops.length) (JZ : ∀ x ∈ ops, 0 <= x /\ x < m) (h : ∀ x ∈ th, PyData.strOk x = true) (h3 : th.length = 3) (c : Int) : rZ m bs (F5 ops m bs th c) where
 src := by
   dsimp only [F5]
   split
   . have l0 := aaU (b8 c 11 / 2) (b := (ops.length : Nat)) (by omega)
     have l1 := aaQ (b8 c 11 / 2) (b := (ops.length : Nat)) (by omega)
     rw [aaW, aa3 (by omega)]
     exact JZ _ (abZ _)
   . exact ⟨aaU _ (by omega), aaQ _ (by omega)⟩
 sign := by
   have l0 := aaU (b8 c 13 / 300) (show (3 : Int) ≠ 0 by decide)
   have l1 := aaQ (b8 c 13 / 300) (show (0 : Int) < 3 by decide)
   show PyData.strOk (th.getD _ _) = true
   rw [aaW, aa3 (by omega)]
   exact h _ (abZ _)
 asks := ⟨DK ops m bs c, rfl, by unfold DK; rw [aaK, List.length_range]; omega, fun a ha => by
   obtain ⟨k, _, rfl⟩ := abg.mp ha
   exact JY ops hm bs _⟩
 m8 := P5 h h3 _
 tgt := by
   dsimp only [F5]
   split
   . omega
   . have l0 := aaU (b8 c 13 / 5) (b := (m : Int)) (by omega)
     have l1 := aaQ (b8 c 13 / 5) (b := (m : Int)) (by omega)
     omega
 mode := by
   dsimp only [F5]
   split
   . decide +kernel
   . have : b8 c 13 / 100 % 3 = 0 \/ b8 c 13 / 100 % 3 = 1 \/ b8 c 13 / 100 % 3 = 2 := by omega
     rcases this with e | e | e <;> rw [e] <;> decide +kernel
theorem rZ.jd {m : Nat} {bs : List Int} {w : fH} (h : rZ m bs w) : (d9 w).jd = true := by
 obtain ⟨l, e, _, _⟩ := h.asks
 show (true && (true && (D.bM w.asks && (D.bM w.m8 && (true && (true && true)))))) = true
 rw [e, iQ (fun a => rX a), h.m8.1]
 rfl
theorem P6 {n m : Nat} {d : L3.D} (h : iz n d) (hm : n <= m) : iz m d := by
 induction h generalizing m with
 | non n => exact .non _
 | bl n b => exact .bl _ _
 | int n i => exact .int _ _
 | str n x h => exact .str _ _ h
 | tup h ih =>
   obtain ⟨k, rfl⟩ : ∃ k, m = k + 1 := ⟨m - 1, by omega⟩
   exact .tup fun d hd => ih d hd (by omega)
 | lst h ih =>
   obtain ⟨k, rfl⟩ : ∃ k, m = k + 1 := ⟨m - 1, by omega⟩
   exact .lst fun d hd => ih d hd (by omega)
theorem rZ.dep {m : Nat} {bs : List Int} {w : fH} (h : rZ m bs w) : iz 12 (d9 w) := by
 obtain ⟨l, e, _, hl⟩ := h.asks
 refine .tup fun d hd => ?_
 simp only [aaH, abO, or_false] at hd
 rcases hd with rfl | rfl | rfl | rfl | rfl | rfl
 . exact .int _ _
 . exact .str _ _ h.sign
 . refine .tup fun d hd => ?_
   rw [e] at hd
   obtain ⟨a, ha, rfl⟩ := abg.mp hd
   exact F4 (hl a ha)
 . exact .tup fun d hd => h.m8.2 d hd
 . exact .int _ _
 . exact .str _ _ h.mode
def r6 (s ops : List Int) (m : Nat) (bs : List Int) (th : List Str) : List fH := eY fH.src (s.map (F5 ops m bs th))
theorem F7 {s ops : List Int} {m : Nat} {bs : List Int} {th : List Str} (hm : 1 <= m) (ho : 1 <= ops.length) (JZ : ∀ x ∈ ops, 0 <= x /\ x < m) (h : ∀ x ∈ th, PyData.strOk x = true) (h3 : th.length = 3) : (r6 s ops m bs th).length = s.length /\ ∀ w ∈ r6 s ops m bs th, rZ m bs w := by
 unfold r6
 refine ⟨by rw [kL, aaK], fun w hw => ?_⟩
 obtain ⟨c, _, rfl⟩ := abg.mp (oM.mp hw)
 exact F6 hm ho JZ h h3 c
def ni (m : Nat) (bs : List Int) (ws : List fH) : Prop := ws.length <= 63 /\ ∀ w ∈ ws, rZ m bs w
theorem ni.bM {m : Nat} {bs : List Int} {ws : List fH} (h : ni m bs ws) : D.bM (ws.map d9) = true := mW fun d hd => by
 obtain ⟨w, hw, rfl⟩ := abg.mp hd
 exact (h.2 w hw).jd
theorem ni.dep {m : Nat} {bs : List Int} {ws : List fH} (h : ni m bs ws) (n : Nat) : iz (n + 13) (.lst (ws.map d9)) := .lst fun d hd => by
 obtain ⟨w, hw, rfl⟩ := abg.mp hd
 exact P6 (h.2 w hw).dep (by omega)
def w0 : fH := ⟨0, Str.empty, [], [], 0, Str.empty⟩
def j4 (ws : List fH) (i : Int) : fH := ws.getD i.toNat w0
theorem qD {ws : List fH} {i : Int} (h0 : 0 <= i) (h1 : i < ws.length) : j4 ws i ∈ ws := by
 unfold j4
 rw [aaW, aa3 (by omega)]
 exact abZ _
def AF (ks : List Str) (es : List Int) (w : fH) : Int := m7 (eZ ks) es w.src w.tgt
def F8 (ws : List fH) (i : Int) : Bool := !decide ((j4 ws i).tgt = -1)
def J1 (es : List Int) (t u : Int) : Bool := decide (t = u) || (decide (t = -1) || decide (u = -1)) || (decide (u ∈ bU es t) || decide (t ∈ bU es u))
def Im (a b : List Int) : Bool := a.any fun x => decide (x ∈ b)
def FI (ks : List Str) (es : List Int) (src tgt : Int) : List Int := if tgt = -1 then [] else Ep es (m7 (eZ ks) es src tgt)
theorem qE {es : List Int} {t x : Int} : x ∈ Ep es t ↔ (0 <= x /\ x < es.length) /\ (t = -1 \/ t ∈ bU es x) := by
 unfold Ep
 constructor
 . intro h
   obtain ⟨i, hi, rfl⟩ := abg.mp h
   obtain ⟨h1, h2⟩ := abR.mp hi
   have := abL.mp h1
   simp only [Bool.or_eq_true, abX] at h2
   exact ⟨⟨by omega, by omega⟩, h2⟩
 . rintro ⟨⟨h0, h1⟩, h2⟩
   refine abg.mpr ⟨x.toNat, abR.mpr ⟨abL.mpr (by omega), ?_⟩, by omega⟩
   simp only [Bool.or_eq_true, abX]
   rw [show ((x.toNat : Nat) : Int) = x by omega]
   exact h2
theorem r9 {uC : Int -> Bool} {es : List Int} {a c : Int} : m7 uC es a c = -1 \/ m7 uC es a c ∈ bU es a := by
 unfold m7
 cases e : (bU es a).find? (fun x => uC x && decide (x ∈ bU es c)) with
 | none => exact .inl rfl
 | some x => exact .inr (List.mem_of_find?_eq_some e)
theorem Bd {es : List Int} (ht : eW es) {a c t u : Int} (a0 : 0 <= a) (a1 : a < es.length) (c0 : 0 <= c) (c1 : c < es.length) (Ti : t = -1 \/ t ∈ bU es a) (W2 : u = -1 \/ u ∈ bU es c) : Im (Ep es t) (Ep es u) = J1 es t u := by
 have key : Im (Ep es t) (Ep es u) = true ↔ J1 es t u = true := by
   unfold Im J1
   simp only [List.any_eq_true, abX, Bool.or_eq_true]
   constructor
   . rintro ⟨x, hx, hy⟩
     obtain ⟨⟨x0, x1⟩, h1⟩ := qE.mp hx
     obtain ⟨_, h2⟩ := qE.mp hy
     rcases h1 with h1 | h1
     . exact .inl (.inr (.inl h1))
     . rcases h2 with h2 | h2
       . exact .inl (.inr (.inr h2))
       . rcases JL ht x0 x1 h1 h2 with z | z | z
         . exact .inl (.inl z)
         . exact .inr (.inr z)
         . exact .inr (.inl z)
   . have Nn : ∀ {v : Int}, (v = -1 \/ v ∈ bU es a) -> a ∈ Ep es v := fun h => qE.mpr ⟨⟨a0, a1⟩, h⟩
     have Ro : ∀ {v : Int}, (v = -1 \/ v ∈ bU es c) -> c ∈ Ep es v := fun h => qE.mpr ⟨⟨c0, c1⟩, h⟩
     rintro ((h | h | h) | (h | h))
     . subst h; exact ⟨a, Nn Ti, Nn Ti⟩
     . exact ⟨c, Ro (.inl h), Ro W2⟩
     . exact ⟨a, Nn Ti, Nn (.inl h)⟩
     . rcases Ti with z | z
       . exact ⟨c, Ro (.inl z), Ro W2⟩
       . exact ⟨a, Nn (.inr z), Nn (.inr (oQ ht a0 a1 z h))⟩
     . rcases W2 with z | z
       . exact ⟨a, Nn Ti, Nn (.inl z)⟩
       . exact ⟨c, Ro (.inr (oQ ht c0 c1 z h)), Ro (.inr z)⟩
 cases h1 : Im (Ep es t) (Ep es u) <;> cases h2 : J1 es t u
 . rfl
 . rw [h1, h2] at key; simp at key
 . rw [h1, h2] at key; simp at key
 . rfl
def Es (ks : List Str) (es : List Int) (w v : fH) : Bool := (!decide (w.tgt = -1) && !decide (v.tgt = -1)) && J1 es (AF ks es w) (AF ks es v)
theorem Be {ks : List Str} {es : List Int} (ht : eW es) {w v : fH} (w0 : 0 <= w.src) (w1 : w.src < es.length) (v0 : 0 <= v.src) (v1 : v.src < es.length) : Im (FI ks es w.src w.tgt) (FI ks es v.src v.tgt) = Es ks es w v := by
 unfold FI Es
 by_cases h1 : w.tgt = -1
 . rw [aaF h1, ab5 h1]; rfl
 . rw [aaE h1, abj h1]
   by_cases h2 : v.tgt = -1
   . rw [aaF h2, ab5 h2]
     unfold Im
     simp
   . rw [aaE h2, abj h2]
     exact Bd ht w0 w1 v0 v1 r9 r9
theorem F9 {ks : List Str} {es : List Int} (w v : fH) : Es ks es w v = Es ks es v w := by
 unfold Es J1
 simp only [Bool.and_comm (!decide (w.tgt = -1))]
 congr 1
 have e1 : decide (AF ks es w = AF ks es v) = decide (AF ks es v = AF ks es w) := by simp [eq_comm]
 rw [e1, Bool.or_comm (decide (AF ks es w = -1)), Bool.or_comm (decide (AF ks es v ∈ bU es (AF ks es w)))]
def W3 : L3.D -> Int
 | .tup (_ :: _ :: _ :: _ :: .int t :: _) => t
 | _ => 0
abbrev qF : Stmt := top 22
abbrev vR : Type := Int × Int
def dU : vR -> List L3.D := fun (c, s) => [.int c, .int s]
def dW : vR -> Prop := fun (c, s) => True
def dX : vR -> T := fun (c, s) => (.sh (.int (b8 c s)) : T)
structure J2 (X : Cx) (CL : Str -> Addr) : Prop extends ck X where
 cF : Ln X 0 "cell"
 P7 : Ln X 1 "salt"
 aM : Ln X 2 "mixed"
theorem J3 {X : Cx} {CL : Str -> Addr} {b : Bx} (E : J2 X CL) (c s) (h : dW (c, s)) :
   ay X CL b qF ["cell", "salt", "mixed"] (dU (c, s)) (dX (c, s)) := by
 dsimp only [ay, dW, dU, dX] at h ⊢
 refine aO E.g E.aM (bw (aQ (ah (mD (ah (dm (ah (aQ (aH E.cF) (ah aj) (by decide))) (aH E.P7))) (ah aj) (.inr ⟨by decide, by decide⟩))) (ah aj) (by decide)) (t2 := .sh (.int (Te c s))) rfl) ?_
 obtain ⟨m0, m1⟩ := Tf c s
 refine aY (aQ (ah (mD (aH E.aM) (aH E.aM) (.inl ⟨by omega, by omega⟩))) (ah aj) (by decide)) rfl
theorem se : jN (ao qF) ([("cell", au), ("salt", au), ("mixed", au)]) = true := by decide +kernel
theorem zN : aK ["cell", "salt", "mixed"] ["cell", "salt"] (ao qF) := aU
abbrev kM : Stmt := top 17
abbrev oX : Type := List Int × Int
def cT : oX -> List L3.D := fun (ns, j) => [.lst (ns.map .int), .int j]
def cU : oX -> Prop := fun (ns, j) => 0 <= j
def cV : oX -> T := fun (ns, j) => (.sh (.int (bI ns j)) : T)
structure DL (X : Cx) (CL : Str -> Addr) : Prop extends ck X where
 aZ : Ln X 0 "script"
 jl : Ln X 1 "k"
 cI : Gl X "len"
 cJ : X.mg "len" = none
theorem DM {X : Cx} {CL : Str -> Addr} {b : Bx} (E : DL X CL) (ns j) (h : cU (ns, j)) :
   ay X CL b kM ["script", "k"] (cT (ns, j)) (cV (ns, j)) := by
 dsimp only [ay, cU, cT, cV] at h ⊢
 refine fS (MZ (aH E.jl) (ah (B8 E.cJ (aH E.aZ) E.cI))).1 (fun hp => ?_) (fun hp => ?_)
 . have e : j < ns.length := by simpa using of_decide_eq_true hp
   refine aY (cK (aP (aH E.aZ) (aH E.jl) (fG h e)) rfl) ?_
   show T.sh _ = T.sh (.int (bI ns j))
   rw [bI, aaF e]
 . have e : ¬ j < ns.length := by simpa using of_decide_eq_false hp
   refine az (aY aj ?_)
   show T.sh _ = T.sh (.int (bI ns j))
   rw [bI, aaE e]
theorem mL : jN (ao kM) ([("script", au), ("k", au), ("len", aB)]) = true := by decide +kernel
theorem sf : aK ["script", "k"] ["script", "k"] (ao kM) := aU
abbrev qG : Stmt := top 23
abbrev vS : Type := List Int × Int
def gG : vS -> List L3.D := fun (es, m) => [.lst (es.map .int), .int m]
def dY : vS -> Prop := fun (es, m) => eW es /\ 0 <= m /\ m < es.length /\ es.length <= 1000
def gH : vS -> T := fun (es, m) => (.lst (((bU es m).map .int).map T.sh) : T)
structure J4 (X : Cx) (CL : Str -> Addr) : Prop extends ck X where
 bF : Ln X 0 "elders"
 eN : Ln X 1 "mood"
 cY : Ln X 2 "found"
 Ga : Ln X 3 "at"
theorem J5 {X : Cx} {CL : Str -> Addr} {b : Bx} (E : J4 X CL) (es m) (h : dY (es, m)) :
   ay X CL b qG ["elders", "mood", "found", "at"] (gG (es, m)) (gH (es, m)) := by
 dsimp only [ay, dY, gG, gH] at h ⊢
 obtain ⟨ht, h0, h1, hlen⟩ := h
 refine aO E.g E.cY (eL eK (abf _)) ?_
 refine aO E.g E.Ga (cK (aP (aH E.bF) (aH E.eN) (fG h0 h1)) rfl) ?_
 have hm := ht.at h0 h1
 refine Cd E.g (fun n δ => ∃ (k : Int) (l : List Int), δ = [some (.sh (.lst (es.map .int))), some (.sh (.int m)), some (.lst ((l.map .int).map T.sh)), some (.sh (.int k))] /\ -1 <= k /\ k < n /\ k < es.length /\ l ++ om n es k = bU es m /\ l.length + n <= es.length + 1) (es.length + 1)
   ⟨es.getD m.toNat 0, [], rfl, hm.1, by omega, by omega, rfl, by simp⟩ ?_
 rintro n δ ⟨k, l, rfl, k0, k1, k2, k3, k4⟩
 refine ⟨_, _, (uZ (aH E.Ga) (ah (cX (ah aj)))).1, fun hp => ?_, fun hp => ?_⟩
 . have hk : ¬ k = -1 := by simpa using hp
   have ha := ht.at (k := k) (by omega) k2
   cases n with
   | zero => omega
   | succ n =>
     refine lV E.cY.1 rfl (v_ E.Ga.1) rfl (by simp; omega) ?_
     refine aO E.g E.Ga (cK (aP (aH E.bF) (aH E.Ga) (fG (by omega) k2)) rfl) ?_
     refine az ⟨n, Nat.lt_succ_self _, es.getD k.toNat 0, l ++ [k], ?_, ha.1, by omega, by omega, ?_, by simp; omega⟩
     . show [_, _, some (T.lst (((l.map D.int).map T.sh) ++ [T.sh (.int k)])), _] = _
       simp
     . rw [← k3, om, aaE hk, aaG]
       rfl
 . have hk : k = -1 := by simpa using hp
   subst hk
   have e : l = bU es m := by
     rw [← k3]
     cases n with
     | zero => rw [om, abq]
     | succ n => rw [om, aaF rfl, abq]
   subst e
   exact aY (vM E.cY.1) rfl
theorem nj : jN (ao qG) ([("elders", au), ("mood", au), ("found", au), ("at", au)]) = true := by decide +kernel
theorem zO : aK ["elders", "mood", "found", "at"] ["elders", "mood"] (ao qG) := aU
abbrev nq : Stmt := top 24
abbrev sj : Type := List Int
def jm : sj -> List L3.D := fun s => [.lst (s.map .int)]
def jn : sj -> Prop := fun s => s.length <= 1000
def jo : sj -> T := fun s => (.lst (((gY s).map .int).map T.sh) : T)
structure Gb (X : Cx) (CL : Str -> Addr) : Prop extends ck X where
 aZ : Ln X 0 "script"
 fJ : Ln X 1 "many"
 bF : Ln X 2 "elders"
 jl : Ln X 3 "k"
 kN : Ln X 4 "roads"
 bu : Gl X "_law_mixed"
 aR : Gl X "_law_cell_at"
 b9 : Gl X "range"
 dZ : Gl X "_law_chain"
 cI : Gl X "len"
 d7 : Fc X CL "_law_mixed" 1 2 dU dW dX
 bW : Fc X CL "_law_cell_at" 1 2 cT cU cV
 cg : X.mg "range" = none
 kO : Fc X CL "_law_chain" 1 2 gG dY gH
 cJ : X.mg "len" = none
theorem Gd {X : Cx} {CL : Str -> Addr} {b : Bx} (E : Gb X CL) (s) (h : jn s) :
   ay X CL b nq ["script", "many", "elders", "k", "roads"] (jm s) (jo s) := by
 dsimp only [ay, jn, jm, jo] at h ⊢
 have c0 := vJ (bI s 0) 2
 refine aO E.g E.fJ (bw (dm (ah aj) (ah (aQ (ah (c_ ((bI s 0, 2)) E.d7 E.bu (ai (ah (c_ ((s, 0)) E.bW E.aR (ai (aH E.aZ) (ai (ah aj) aG)) (show (0 : Int) <= 0 by omega) rfl)) (ai (ah aj) aG)) (trivial) rfl)) (ah aj) (by decide)))) (t2 := .sh (.int (cntK s))) rfl) ?_
 refine aO E.g E.bF (gZ (aE (cX (ah aj)) bS) (aJ rfl)) ?_
 obtain ⟨k0, k1⟩ := FZ s
 refine jU E.g E.jl (fun j δ => ∃ o5, δ = [some (.sh (.lst (s.map .int))), some (.sh (.int (cntK s))), some (.lst (((lT s j).map .int).map T.sh)), (if j = 0 then none else some (.sh (.int ((j : Int) - 1)))), o5])
   (eB E.cg (ah (jS (aH E.fJ) (ah aj))) (by omega) E.b9) ⟨_, rfl⟩ (fun j δ ⟨_, e⟩ => by subst e; exact aaJ rfl) ?turn ?fin
 case turn =>
   rintro j d δ hj ⟨o5, rfl⟩
   obtain ⟨rfl, AG⟩ := gQ hj
   rw [abJ]
   obtain ⟨hl, qk⟩ := vN s j
   have ht := qk.1
   obtain ⟨r1, r2, r3⟩ := qc (k := j) ht hl.symm
   have O7 : lT s (j + 1) = lT s j ++ [Tg s (lT s j) j] := rfl
   show fD X CL b _ _ { nx := fun δ => ∃ o5, δ = [_, _, some (.lst (((lT s (j + 1)).map .int).map T.sh)), (if j + 1 = 0 then none else some (.sh (.int (((j + 1 : Nat) : Int) - 1)))), o5], rt := _, bk := _, ct := _ }
   rw [O7, aaE (show ¬ (j + 1 = 0) by omega), show ((j + 1 : Nat) : Int) - 1 = (j : Int) by omega]
   generalize lT s j = es at hl ht r1 r2 r3 ⊢
   have hcl : (bU es (j : Int)).length <= es.length + 1 := vD _ _ _
   refine aO E.g E.kN (Js (ds := [.int (j : Int)]) (Jq := (bU es (j : Int)).map .int) (dN (ds := [.int (j : Int)]) (eL (gk (v_ E.jl.1) eK) (aJ rfl)))
     (dN (c_ (es, (j : Int)) E.kO E.dZ (ai (vL E.bF.1) (ai (aH E.jl) aG)) (show eW es /\ (0 : Int) <= j /\ (j : Int) < es.length /\ es.length <= 1000 from ⟨ht, by omega, by omega, by omega⟩) (by show (T.lst _).clean = true; rw [gF]; exact pX _))) rfl (dM _) (abE (eS (by simp; omega)))) ?_
   have er : ([L3.D.int (j : Int)] ++ (bU es (j : Int)).map L3.D.int) = ([(j : Int)] ++ bU es j).map L3.D.int := rfl
   rw [er]
   have ZQ : (([(j : Int)] ++ bU es j).map L3.D.int).length = ([(j : Int)] ++ bU es j).length := by simp
   refine y9 (fun δ => δ = [some (.sh (.lst (s.map .int))), some (.sh (.int (cntK s))), some (.lst ((es.map .int).map T.sh)), some (.sh (.int j)), some (.lst (((bJ es j).map .int).map T.sh))])
     (M0 (ah (bV ZQ E.cJ (vL E.kN.1) E.cI)) (ah aj)).1 (fun hp => ?_) (fun hp => ?_) ?_
   . have e : (12 : Int) < (([(j : Int)] ++ bU es j).length : Nat) := aa2 hp
     refine aO E.g E.kN (zj (vL E.kN.1) (dM _) (vn (ah aj)) vm) (az ?_)
     rw [Ff]
     unfold bJ
     rw [aaF e]
     rfl
   . have e : ¬ (12 : Int) < (([(j : Int)] ++ bU es j).length : Nat) := aaV hp
     refine az ?_
     unfold bJ
     rw [aaE e]
     rfl
   rintro δ rfl
   have W0 : ((bJ es j).map L3.D.int).length = (bJ es j).length := by simp
   have b1 := aaU (b8 (bI s ((j : Int) + 1)) (3 + (j : Int))) (b := ((bJ es j).length : Nat)) (by omega)
   have b2 := aaQ (b8 (bI s ((j : Int) + 1)) (3 + (j : Int))) (b := ((bJ es j).length : Nat)) (by omega)
   have ZR : ((es.map L3.D.int).map T.sh) ++ [T.sh (.int (Tg s es j))] = ((es ++ [Tg s es j]).map L3.D.int).map T.sh := by simp
   refine lV E.bF.1 rfl (bw (cK (aP (vL E.kN.1) (ah (aQ (ah (c_ ((bI s ((j : Int) + 1), 3 + (j : Int))) E.d7 E.bu (ai (ah (c_ ((s, (j : Int) + 1)) E.bW E.aR (ai (aH E.aZ) (ai (ah (dm (aH E.jl) (ah aj))) aG)) (show (0 : Int) <= (j : Int) + 1 by omega) rfl)) (ai (ah (dm (ah aj) (aH E.jl))) aG)) (trivial) rfl)) (ah (bV (W0) E.cJ (vL E.kN.1) E.cI)) (by omega))) (fG b1 b2)) rfl) (t2 := .sh (.int (Tg s es j))) rfl) rfl (by simp; omega) (az ?_)
   rw [ZR]
   exact ⟨_, rfl⟩
 case fin =>
   rintro δ ⟨o5, rfl⟩
   refine aY (vM E.bF.1) ?_
   have e : (bH 0 (cntK s - 1).toNat).length = (cntK s - 1).toNat := by simp [bH]
   rw [e]
   rfl
theorem dh : jN (ao nq) ([("script", au), ("many", au), ("elders", au), ("k", au), ("roads", au), ("_law_mixed", aB), ("_law_cell_at", aB), ("range", aB), ("_law_chain", aB), ("len", aB)]) = true := by decide +kernel
theorem uF : aK ["script", "many", "elders", "k", "roads"] ["script"] (ao nq) := aU
abbrev qH : Stmt := top 25
abbrev vU : Type := List Int
def kP : vU -> List L3.D := fun s => [.lst (s.map .int)]
def kQ : vU -> Prop := fun s => s.length <= 1000
def kR : vU -> T := fun s => (qd (m9 s (gY s) (gY s).length) (gY s) (rW s (gY s) (gY s).length) (oV s (gY s) (gY s).length) : T)
structure J6 (X : Cx) (CL : Str -> Addr) : Prop extends ck X where
 aZ : Ln X 0 "script"
 bF : Ln X 1 "elders"
 sq : X.env.kindOf "elders" = some .cell
 jq : Ln X 2 "kinds"
 iT : Ln X 3 "starts"
 bN : Ln X 4 "opens"
 jl : Ln X 5 "k"
 ZS : X.env.kindOf "k" = some .cell
 aM : Ln X 6 "mixed"
 oY : Ln X 7 "mine"
 t9 : Gl X "_law_elders"
 b9 : Gl X "range"
 cI : Gl X "len"
 bu : Gl X "_law_mixed"
 aR : Gl X "_law_cell_at"
 Ge : Fc X CL "_law_elders" 2 1 jm jn jo
 cg : X.mg "range" = none
 cJ : X.mg "len" = none
 d7 : Fc X CL "_law_mixed" 1 2 dU dW dX
 bW : Fc X CL "_law_cell_at" 1 2 cT cU cV
theorem J7 {X : Cx} {CL : Str -> Addr} {b : Bx} (E : J6 X CL) (s) (h : kQ s) :
   ay X CL b qH ["script", "elders", "kinds", "starts", "opens", "k", "mixed", "mine"] (kP s) (kR s) := by
 dsimp only [ay, kQ, kP, kR] at h ⊢
 refine aO E.g E.bF (bw (c_ (s) E.Ge E.t9 (ai (aH E.aZ) aG) (h) (bP _)) (t2 := .lst (((gY s).map .int).map T.sh)) rfl) ?_
 obtain ⟨n1, n2, qk⟩ := Cp s
 generalize gY s = es at n1 n2 qk ⊢
 refine aO E.g E.jq (eL eK (abf _)) ?_
 refine aO E.g E.iT (eL eK (abf _)) ?_
 refine aO E.g E.bN (eL eK (abf _)) ?_
 refine jU E.g E.jl (fun j δ => ∃ o5 o6 o7, δ = [some (.sh (.lst (s.map .int))), some (.lst ((es.map .int).map T.sh)), some (.lst (((m9 s es j).map .str).map T.sh)), some (.lst (((rW s es j).map .int).map T.sh)), some (.lst (((oV s es j).map .int).map T.sh)), o5, o6, o7])
   (eB E.cg (ah (bV (aaK ..) E.cJ (vL E.bF.1) E.cI)) (by omega) E.b9) ⟨_, _, _, rfl⟩ (fun j δ ⟨_, _, _, e⟩ => by subst e; exact aaJ rfl) ?turn ?fin
 case turn =>
   rintro j d δ hj ⟨o5, o6, o7, rfl⟩
   obtain ⟨rfl, AG⟩ := gQ hj
   rw [abJ]
   refine aO E.g E.aM (bw (c_ ((bI s (j : Int), 101 + (j : Int))) E.d7 E.bu (ai (ah (c_ ((s, (j : Int))) E.bW E.aR (ai (aH E.aZ) (ai (aH E.jl) aG)) (show (0 : Int) <= (j : Int) by omega) rfl)) (ai (ah (dm (ah aj) (aH E.jl))) aG)) (trivial) rfl) (t2 := .sh (.int (Er s j))) rfl) ?_
   have W4 : (((bH 0 (es.length : Int).toNat).filter fun d => decide (es.getD d.zc.toNat 0 = (j : Int))).map fun d => T.sh d) = ((uD es (j : Int)).map L3.D.int).map T.sh := by
     unfold bH uD
     rw [List.filter_map, abx, abx, abx, abw]
     have e1 : ((fun d : L3.D => decide (es.getD d.zc.toNat 0 = (j : Int))) ∘ fun i : Nat => L3.D.int (0 + (i : Int))) = fun i : Nat => decide (es.getD i 0 = (j : Int)) := by
       funext i
       show decide (es.getD (0 + (i : Int)).toNat 0 = (j : Int)) = _
       rw [abJ, abw]
     rw [e1]
     congr 1
     funext i
     show T.sh (.int (0 + (i : Int))) = T.sh (.int i)
     rw [abJ]
   refine oJ (p := fun d => decide (es.getD d.zc.toNat 0 = (j : Int))) (gg := fun d => T.sh d) E.g E.oY (dJ (.cons E.bF.1 (.inl E.sq) (.cons E.jl.1 (.inl E.ZS) .nil)) (by decide +kernel)) (eB E.cg (ah (bV (aaK ..) E.cJ (vL E.bF.1) E.cI)) (by omega) E.b9) (.inl ⟨rfl, fun d hd => by obtain ⟨i, _, rfl⟩ := abg.mp hd; rfl⟩) (fun C s0 H0 f0 b' d hd => ?Gf) (abE (eS (by simp [bH]; omega))) ?rest (by exact aaJ rfl) (iP ⟨_, rfl⟩)
   case Gf =>
     obtain ⟨i, hi, rfl⟩ := abg.mp hd
     have M8 : i < es.length := by simpa using hi
     exact ⟨(dw (aP (Nb (ah (v_ (gP (i := 1) rfl (by decide +kernel)))) (dF _)) (ah (v_ (fZ (i := 0) rfl (by decide +kernel)))) (fG (show (0 : Int) <= 0 + (i : Int) by omega) (show 0 + (i : Int) < es.length by omega))) (ah (v_ (gP (i := 2) rfl (by decide +kernel))))).1, fun _ => v_ (fZ (i := 0) rfl (by decide +kernel))⟩
   case rest =>
   rw [W4]
   have hml := JN es (j : Int)
   have kl : (m9 s es j).length = j := by simp [m9]
   have sl : (rW s es j).length = j := by simp [rW]
   have ol : (oV s es j).length = j := by simp [oV]
   have ek : m9 s es (j + 1) = m9 s es j ++ [AA s es j] := by simp [m9, aci]
   have ZT : rW s es (j + 1) = rW s es j ++ [stK s es j] := by simp [rW, aci]
   have eo : oV s es (j + 1) = oV s es j ++ [Rm s es j] := by simp [oV, aci]
   show fD X CL b _ _ { nx := fun δ => ∃ o5 o6 o7, δ = [_, _, some (.lst (((m9 s es (j + 1)).map .str).map T.sh)), some (.lst (((rW s es (j + 1)).map .int).map T.sh)), some (.lst (((oV s es (j + 1)).map .int).map T.sh)), o5, o6, o7], rt := _, bk := _, ct := _ }
   rw [ek, ZT, eo]
   generalize m9 s es j = ks at kl ⊢
   generalize rW s es j = ss at sl ⊢
   generalize oV s es j = os at ol ⊢
   have aS : ∀ (l : List Str) (x : Str), (l.map L3.D.str).map T.sh ++ [T.sh (.str x)] = ((l ++ [x]).map L3.D.str).map T.sh := by intros; simp
   have aI : ∀ (l : List Int) (x : Int), (l.map L3.D.int).map T.sh ++ [T.sh (.int x)] = ((l ++ [x]).map L3.D.int).map T.sh := by intros; simp
   refine lV E.jq.1 rfl bO rfl (by simp; omega) ?_
   rw [aS]
   refine lV E.iT.1 rfl (cX (ah aj)) rfl (by simp; omega) ?_
   rw [aI]
   have W5 : ∀ (x y : Str), (((ks ++ [x]).map L3.D.str).map T.sh).set j (T.sh (.str y)) = ((ks ++ [y]).map L3.D.str).map T.sh := fun x y => by
     rw [← List.map_set, ← List.map_set, List.set_append, aaE (by omega), kl, Nat.sub_self]; rfl
   have Tj : ∀ (x y : Int), (((ss ++ [x]).map L3.D.int).map T.sh).set j (T.sh (.int y)) = ((ss ++ [y]).map L3.D.int).map T.sh := fun x y => by
     rw [← List.map_set, ← List.map_set, List.set_append, aaE (by omega), sl, Nat.sub_self]; rfl
   have W6 : ∀ (l : List Str) (x : Str), l.length = j -> De (((l ++ [x]).map L3.D.str).map T.sh).length (j : Int) = some j := fun l x e => by
     rw [aaK, aaK, aa1]; unfold De; rw [aaF (by omega), aaF (by simp; omega), abw]
   have W7 : ∀ (l : List Int) (x : Int), l.length = j -> De (((l ++ [x]).map L3.D.int).map T.sh).length (j : Int) = some j := fun l x e => by
     rw [aaK, aaK, aa1]; unfold De; rw [aaF (by omega), aaF (by simp; omega), abw]
   refine y9 (fun δ => δ = [some (.sh (.lst (s.map .int))), some (.lst ((es.map .int).map T.sh)), some (.lst (((ks ++ [AA s es j]).map .str).map T.sh)), some (.lst (((ss ++ [-1]).map L3.D.int).map T.sh)), some (.lst ((os.map .int).map T.sh)), some (.sh (.int j)), some (.sh (.int (Er s j))), some (.lst (((uD es (j : Int)).map .int).map T.sh))])
     (vh E.u (vL E.oY.1) (dN (ds := []) (eL eK (abf _))) (fU _) (fU [])).1 (fun hp => ?_) (fun hp => ?_) ?_
   . have rO : uD es (j : Int) ≠ [] := fun e => by
       rw [e] at hp
       have : Dq (.lst (([] : List Int).map L3.D.int)) (.lst []) = true := mV (fU [])
       rw [this] at hp
       cases hp
     have W8 : AA s es j = (["all", "one"] : List Str).getD (Er s j % 2).toNat Str.empty := by unfold AA; rw [aaE rO]
     refine M9 E.jq.1 (bw (cK (aP (dN (gZ (aE bO (aE bO bS)) (aJ rfl))) (ah (aQ (aH E.aM) (ah aj) (by decide))) (f6 (f := L3.D.str) (l := ["all", "one"]) Str.empty (aaU _ (by decide)) (aaQ _ (by decide)))) rfl) (t2 := .sh (.str (AA s es j))) (by rw [W8])) (aH E.jl) rfl (W6 ks _ kl) (az ?_)
     rw [W5]
     rfl
   . have he : uD es (j : Int) = [] := by
       generalize uD es (j : Int) = l at hp
       cases l with
       | nil => rfl
       | cons x l =>
         have : Dq (.lst ((x :: l).map L3.D.int)) (.lst []) = false := rfl
         rw [this] at hp
         cases hp
     have W8 : AA s es j = "leaf" := by unfold AA; rw [aaF he]
     refine az ?_
     rw [W8]
     rfl
   rintro δ rfl
   have Tp : rC ((ks ++ [AA s es j]).map L3.D.str) (j : Int) = some (.str (AA s es j)) := by
     refine (f6 Str.empty (by omega) (by rw [aa1, kl]; simp only [aaZ, abI]; omega)).trans ?_
     rw [abw, aaW, abG (by omega), kl, Nat.sub_self]
     rfl
   refine fS (ow (aP (vL E.jq.1) (aH E.jl) (Tp)) (ah bO)).1 (fun hp => ?_) (fun hp => ?_)
   . have hp := aa2 hp
     have rO := List.length_pos_iff.mpr (JS hp)
     have Yd : ((uD es (j : Int)).map L3.D.int).length = (uD es (j : Int)).length := by simp
     have c1 := aaU (Er s j / 2) (b := ((uD es (j : Int)).length : Nat)) (by omega)
     have c2 := aaQ (Er s j / 2) (b := ((uD es (j : Int)).length : Nat)) (by omega)
     have c3 := aaU (Er s j / 22) (b := ((uD es (j : Int)).length : Nat)) (by omega)
     have c4 := aaQ (Er s j / 22) (b := ((uD es (j : Int)).length : Nat)) (by omega)
     refine M9 E.iT.1 (bw (cK (aP (vL E.oY.1) (ah (aQ (ah (bD (aH E.aM) (ah aj) ⟨by decide, by decide⟩)) (ah (bV (Yd) E.cJ (vL E.oY.1) E.cI)) (by omega))) (fG c1 c2)) rfl) (t2 := .sh (.int (stK s es j))) (by unfold stK; rw [aaF hp])) (aH E.jl) rfl (W7 ss _ sl) ?_
     rw [Tj]
     refine lV E.bN.1 rfl (bw (cK (aP (vL E.oY.1) (ah (aQ (ah (bD (aH E.aM) (ah aj) ⟨by decide, by decide⟩)) (ah (bV (Yd) E.cJ (vL E.oY.1) E.cI)) (by omega))) (fG c3 c4)) rfl) (t2 := .sh (.int (Rm s es j))) (by unfold Rm; rw [aaF hp])) rfl (by simp; omega) (az (az ?_))
     rw [aI]
     exact ⟨_, _, _, rfl⟩
   . have hp := aaV hp
     refine lV E.bN.1 rfl (cX (ah aj)) rfl (by simp; omega) (az (az ?_))
     rw [aI, show stK s es j = -1 by unfold stK; rw [aaE hp], show Rm s es j = -1 by unfold Rm; rw [aaE hp]]
     exact ⟨_, _, _, rfl⟩
 case fin =>
   rintro δ ⟨o5, o6, o7, rfl⟩
   have e : (bH 0 (es.length : Int).toNat).length = es.length := by simp [bH]
   rw [e]
   exact aY (eL (gk (vM E.jq.1) (gk (vM E.bF.1) (gk (vM E.iT.1) (gk (vM E.bN.1) eK)))) (aJ rfl)) rfl
theorem cA : jN (ao qH) ([("script", au), ("elders", .cell), ("kinds", au), ("starts", au), ("opens", au), ("k", .cell), ("mixed", au), ("mine", au), ("_law_elders", aB), ("range", aB), ("len", aB), ("_law_mixed", aB), ("_law_cell_at", aB)]) = true := by decide +kernel
theorem zP : aK ["script", "elders", "kinds", "starts", "opens", "k", "mixed", "mine"] ["script"] (ao qH) := aU
abbrev qI : Stmt := top 26
abbrev vV : Type := List Str × List Int × List Int × List Int
def kT : vV -> List L3.D := fun (ks, es, ss, os) => [ng ks es ss os]
def iU : vV -> Prop := fun (ks, es, ss, os) => 1 <= es.length /\ es.length <= 900 /\ os.length = es.length /\ eW es
def kU : vV -> T := fun (ks, es, ss, os) => (.lst (((uE es os (es.length - 1)).map .int).map T.sh) : T)
structure J8 (X : Cx) (CL : Str -> Addr) : Prop extends ck X where
 bq : Ln X 0 "lists"
 bN : Ln X 1 "opens"
 jl : Ln X 2 "k"
 gn : Ln X 3 "elder"
 b9 : Gl X "range"
 cI : Gl X "len"
 cg : X.mg "range" = none
 cJ : X.mg "len" = none
theorem J9 {X : Cx} {CL : Str -> Addr} {b : Bx} (E : J8 X CL) (ks es ss os) (h : iU (ks, es, ss, os)) :
   ay X CL b qI ["lists", "opens", "k", "elder"] (kT (ks, es, ss, os)) (kU (ks, es, ss, os)) := by
 dsimp only [ay, iU, kT, kU] at h ⊢
 obtain ⟨U9, hl, ho, ht⟩ := h
 refine aO E.g E.bN (gZ (aE aj bS) (aJ rfl)) ?_
 refine jU E.g E.jl (fun j δ => ∃ o o', δ = [some (.sh (ng ks es ss os)), some (.lst (((uE es os j).map .int).map T.sh)), o, o'])
   (Dm E.cg (ah aj) (ah (bV (aaK ..) E.cJ (aP (aH E.bq) (ah aj) rfl) E.cI)) (by omega) E.b9) ⟨_, _, rfl⟩ (fun j δ ⟨_, _, e⟩ => by subst e; exact aaJ rfl) ?turn ?fin
 case turn =>
   rintro j d δ hj ⟨o, o', rfl⟩
   obtain ⟨rfl, AG⟩ := gQ hj
   have Rp := (vO (es := es) (os := os) j).2
   have ej : (1 + (j : Int)).toNat = j + 1 := by omega
   have W9 : (1 + (j : Int)) = ((j + 1 : Nat) : Int) := by omega
   refine aO E.g E.gn (bw (cK (aP (aP (aH E.bq) (ah aj) rfl) (aH E.jl) (fG (by omega) (by omega))) rfl) (congrArg (fun z => T.sh (.int (es.getD z 0))) ej)) ?_
   have ha := ht (j + 1) (by omega)
   show fD X CL b _ _ { nx := fun δ => ∃ o o', δ = [_, some (.lst (((uE es os (j + 1)).map .int).map T.sh)), o, o'], rt := _, bk := _, ct := _ }
   rw [uE]
   generalize es.getD (j + 1) 0 = x at ha ⊢
   have ZU : x ∈ uE es os j -> 0 <= x := fun hx => (qC j hx).1
   refine fS (u6 (A3 (ji (aH E.gn) (vL E.bN.1) rfl rfl).1 (fun hb => (u9 (ji (l := [-1, 1 + (j : Int)]) (aP (aP (aH E.bq) (ah aj) rfl) (aH E.gn) (fG (ZU (aa2 hb)) (by omega))) (ah (cB (aE (cX (ah aj)) (aE (v_ E.jl.1) bS)) (aJ rfl))) rfl rfl).1)))) (fun hp => ?_) (fun hp => az (az ?_))
   . simp only [abt, abX] at hp
     refine lV E.bN.1 rfl (v_ E.jl.1) rfl (by simp; omega) (az (az ?_))
     rw [aaF ⟨hp.1, by
       have := hp.2
       simp only [aaH, abO, or_false] at this
       rw [← W9]
       exact this⟩]
     have e1 : ((uE es os j).map L3.D.int).map T.sh ++ [T.sh (.int (1 + (j : Int)))] = ((uE es os j ++ [((j + 1 : Nat) : Int)]).map L3.D.int).map T.sh := by
       rw [W9]; simp
     rw [e1]
     exact ⟨_, _, rfl⟩
   . rw [aaE (fun z => by
       have : (decide (x ∈ uE es os j) && decide (os.getD x.toNat 0 ∈ [-1, 1 + (j : Int)])) = true := by
         simp only [abt, abX, aaH, abO, or_false]
         exact ⟨z.1, by rw [W9]; exact z.2⟩
       rw [this] at hp
       cases hp)]
     exact ⟨_, _, rfl⟩
 case fin =>
   rintro δ ⟨o, o', rfl⟩
   have e : (bH 1 ((es.length : Int) - 1).toNat).length = es.length - 1 := by simp [bH]
   rw [e]
   exact aY (vM E.bN.1) rfl
theorem iV : jN (ao qI) ([("lists", au), ("opens", au), ("k", au), ("elder", au), ("range", aB), ("len", aB)]) = true := by decide +kernel
theorem zQ : aK ["lists", "opens", "k", "elder"] ["lists"] (ao qI) := aU
abbrev nu : Stmt := top 18
abbrev sr : Type := Int
def jr : sr -> List L3.D := fun a => [.int a]
def jt : sr -> Prop := fun a => True
def ju : sr -> T := fun a => (.sh (.int (e7 a)) : T)
structure Gg (X : Cx) (CL : Str -> Addr) : Prop extends ck X where
 cF : Ln X 0 "cell"
 mO : Ln X 1 "size"
theorem Gh {X : Cx} {CL : Str -> Addr} {b : Bx} (E : Gg X CL) (a) (h : jt a) :
   ay X CL b nu ["cell", "size"] (jr a) (ju a) := by
 dsimp only [ay, jt, jr, ju] at h ⊢
 refine fS (dw (ah (aQ (aH E.cF) (ah aj) (by decide))) (ah aj)).1 (fun hp => ?_) (fun hp => ?_)
 . have e : a % 2 = 0 := aa2 hp
   refine aY (jS (ah (aQ (ah (bD (aH E.cF) (ah aj) ⟨by decide, by decide⟩)) (ah aj) (by decide))) (ah aj)) ?_
   show T.sh _ = T.sh (.int (e7 a))
   rw [e7, aaF e]
 . have e : ¬ a % 2 = 0 := aaV hp
   refine az ?_
   refine aO E.g E.mO (aQ (ah (mD (ah (bD (aH E.cF) (ah aj) ⟨by decide, by decide⟩)) (ah aj) (.inr ⟨by decide, by decide⟩))) (ah (A2 (ah aj) (ah aj) ⟨by decide, by decide, by decide⟩)) (by decide)) ?_
   refine fS (dw (ah (aQ (aH E.cF) (ah aj) (by decide))) (ah aj)).1 (fun hp => ?_) (fun hp => ?_)
   . have e2 : a % 4 = 1 := aa2 hp
     refine aY (v_ E.mO.1) ?_
     show T.sh _ = T.sh (.int (e7 a))
     rw [e7, aaE e, aaF e2]
     rfl
   . have e2 : ¬ a % 4 = 1 := aaV hp
     refine az (aY (cX (aH E.mO)) ?_)
     show T.sh _ = T.sh (.int (e7 a))
     rw [e7, aaE e, aaE e2]
     rfl
theorem uG : jN (ao nu) ([("cell", au), ("size", au)]) = true := by decide +kernel
theorem uH : aK ["cell", "size"] ["cell"] (ao nu) := aU
abbrev qJ : Stmt := top 27
abbrev vW : Type := List Int
def kW : vW -> List L3.D := fun a => [.lst (a.map .int)]
def kX : vW -> Prop := fun a => a.length <= 1000
def kY : vW -> T := fun a => (.lst (((Rn a).map .int).map T.sh) : T)
structure Ka (X : Cx) (CL : Str -> Addr) : Prop extends ck X where
 aZ : Ln X 0 "script"
 Gi : X.env.kindOf "script" = some .cell
 fJ : Ln X 1 "many"
 bu : Gl X "_law_mixed"
 aR : Gl X "_law_cell_at"
 b9 : Gl X "range"
 d7 : Fc X CL "_law_mixed" 1 2 dU dW dX
 bW : Fc X CL "_law_cell_at" 1 2 cT cU cV
 cg : X.mg "range" = none
 Gj : Fc X CL "_law_number" 1 1 jr jt ju
theorem Kc {X : Cx} {CL : Str -> Addr} {b : Bx} (E : Ka X CL) (a) (h : kX a) :
   ay X CL b qJ ["script", "many"] (kW a) (kY a) := by
 dsimp only [ay, kX, kW, kY] at h ⊢
 refine aO E.g E.fJ (bw (aQ (ah (c_ ((bI a 0, 7)) E.d7 E.bu (ai (ah (c_ ((a, 0)) E.bW E.aR (ai (aH E.aZ) (ai (ah aj) aG)) (show (0 : Int) <= 0 by omega) rfl)) (ai (ah aj) aG)) (trivial) rfl)) (ah aj) (by decide)) (t2 := .sh (.int (b8 (bI a 0) 7 % 6))) rfl) ?_
 have m0 := aaU (b8 (bI a 0) 7) (show (6 : Int) ≠ 0 by decide)
 have m1 := aaQ (b8 (bI a 0) 7) (show (0 : Int) < 6 by decide)
 refine aY (Jz (p := fun _ => true) (g := fun d => .sh (.int (e7 (bI a (d.zc + 1) + 5 * d.zc)))) (dJ (.cons E.aZ.1 (.inl E.Gi) .nil) (by decide +kernel)) E.g.calm (eB E.cg (aH E.fJ) (by omega) E.b9) (.inl ⟨rfl, fun _ _ => rfl⟩) (fun C s0 H0 f0 b' d hd => ?Gf) (abE (eS (by simp [bH]; omega)))) ?res
 case Gf =>
   obtain ⟨j, hj, rfl⟩ := abg.mp hd
   exact ⟨rfl, fun _ => bw (c_ (bI a ((0 + (j : Int)) + 1) + 5 * (0 + (j : Int))) (mU E.Gj) (jf (by decide +kernel)) (ai (ah (dm (ah (c_ ((a, (0 + (j : Int)) + 1)) (mU E.bW) (jf (by decide +kernel)) (ai (ah (v_ (gP (i := 1) rfl (by decide +kernel)))) (ai (ah (dm (ah (v_ (fZ (i := 0) rfl (by decide +kernel)))) (ah aj))) aG)) (show (0 : Int) <= (0 + (j : Int)) + 1 by omega) rfl)) (ah (mD (ah aj) (ah (v_ (fZ (i := 0) rfl (by decide +kernel)))) (.inl ⟨by decide, by decide⟩))))) aG) (trivial) rfl) rfl⟩
 case res =>
   show T.lst _ = T.lst _
   rw [fT]
   unfold bH Rn
   rw [abx, abx, abx]
   congr 1
   refine List.map_congr_left fun j _ => ?_
   show T.sh (.int (e7 (bI a ((0 : Int) + j + 1) + 5 * ((0 : Int) + j)))) = T.sh (.int (e7 (bI a ((j : Int) + 1) + 5 * (j : Int))))
   rw [abJ]
theorem iW : jN (ao qJ) ([("script", .cell), ("many", au), ("_law_mixed", aB), ("_law_cell_at", aB), ("range", aB)]) = true := by decide +kernel
theorem zR : aK ["script", "many"] ["script"] (ao qJ) := aU
abbrev vX : Stmt := top 21
abbrev Bf : Type := Int
def ny : Bf -> List L3.D := fun c => [.int c]
def nA : Bf -> Prop := fun c => True
def nB : Bf -> T := fun c => (.sh (.str (gS c)) : T)
structure P8 (X : Cx) (CL : Str -> Addr) : Prop extends ck X where
 cF : Ln X 0 "cell"
 oZ : Ln X 1 "letters"
 aM : Ln X 2 "mixed"
 iC : Ln X 3 "name"
 jl : Ln X 4 "k"
 b9 : Gl X "range"
 cg : X.mg "range" = none
theorem P9 {X : Cx} {CL : Str -> Addr} {b : Bx} (E : P8 X CL) (c) (h : nA c) :
   ay X CL b vX ["cell", "letters", "mixed", "name", "k"] (ny c) (nB c) := by
 dsimp only [ay, nA, ny, nB] at h ⊢
 refine aO E.g E.oZ bO ?_
 refine aO E.g E.aM (aQ (ah (bD (aH E.cF) (ah aj) ⟨by decide, by decide⟩)) (ah (A2 (ah aj) (ah aj) ⟨by decide, by decide, by decide⟩)) (by decide)) ?_
 generalize ZV : c / 12 % 10 ^ (9 : Int).toNat = m0
 have e0 : Yc c = (m0, qm (m0 % 26)) := by rw [← ZV]; rfl
 have Tq : DH.length = 36 := by decide +kernel
 have ZW := fun m : Int => aaU m (show (26 : Int) ≠ 0 by decide)
 have ZX := fun m : Int => aaQ m (show (0 : Int) < 26 by decide)
 have ZY := fun m : Int => aaU m (show (36 : Int) ≠ 0 by decide)
 have ZZ := fun m : Int => aaQ m (show (0 : Int) < 36 by decide)
 refine aO E.g E.iC (E6 (aH E.oZ) (ah (aQ (aH E.aM) (ah aj) (by decide))) (by rw [abe]; decide +kernel) (by rw [FU]; exact Fi 0 (ZW _) (by have := ZX m0; rw [Tq]; omega))) ?_
 have c0 := aaU c (show (12 : Int) ≠ 0 by decide)
 have c1 := aaQ c (show (0 : Int) < 12 by decide)
 refine jU E.g E.jl (fun j δ => ∃ o, δ = [some (.sh (.int c)), some (.sh (.str "abcdefghijklmnopqrstuvwxyz0123456789")), some (.sh (.int (gR (m0, qm (m0 % 26)) j).1)), some (.sh (.str (gR (m0, qm (m0 % 26)) j).2)), o])
   (eB E.cg (ah (aQ (aH E.cF) (ah aj) (by decide))) (by omega) E.b9) ⟨_, rfl⟩ (fun j δ ⟨_, e⟩ => by subst e; exact aaJ rfl) ?turn ?fin
 case turn =>
   rintro j d δ hj ⟨o, rfl⟩
   obtain ⟨rfl, AG⟩ := gQ hj
   have Vl := FY (m0, qm (m0 % 26)) j
   have Wo : (qm (m0 % 26)).length = 1 := rfl
   refine aO E.g E.aM (aQ (ah (dm (ah (mD (aH E.aM) (ah aj) (.inr ⟨by decide, by decide⟩))) (ah aj))) (ah aj) (by decide)) ?_
   refine aO E.g E.iC (jT (aH E.iC) (ah (E6 (aH E.oZ) (ah (aQ (aH E.aM) (ah aj) (by decide))) (by rw [abe]; decide +kernel) (by rw [FU]; exact Fi 0 (ZY _) (by have := ZZ (JQ (gR (m0, qm (m0 % 26)) j).1); unfold JQ at this; rw [Tq]; omega)))) (by rw [abe, Vl, Wo]; show 1 + j + 1 <= _; omega)) (az ⟨_, rfl⟩)
 case fin =>
   rintro δ ⟨o, rfl⟩
   have hn : (bH 0 (c % 12).toNat).length = (c % 12).toNat := by simp [bH]
   rw [hn]
   have hb : (gR (m0, qm (m0 % 26)) (c % 12).toNat).2 = Il c := by unfold Il; rw [e0]
   rw [hb]
   have Vj := Cm c
   refine fS (Fg (l := w13) (aH E.iC) (qz rfl)).1 (fun hp => ?_) (fun hp => az ?_)
   . refine aY (jT (aH E.iC) (ah bO) (by rw [abe]; show _ + 1 <= _; omega)) ?_
     show T.sh _ = T.sh (.str (gS c))
     rw [gS, aaF (aa2 hp)]
   refine fS (Fg (l := w6) (aH E.iC) (qz rfl)).1 (fun hq => ?_) (fun hq => az ?_)
   . refine aY (jT (aH E.iC) (ah bO) (by rw [abe]; show _ + 1 <= _; omega)) ?_
     show T.sh _ = T.sh (.str (gS c))
     rw [gS, aaE (aaV hp), aaF (aa2 hq)]
   . refine aY (v_ E.iC.1) ?_
     show T.sh _ = T.sh (.str (gS c))
     rw [gS, aaE (aaV hp), aaE (aaV hq)]
theorem kZ : jN (ao vX) ([("cell", au), ("letters", au), ("mixed", au), ("name", au), ("k", au), ("range", aB)]) = true := by decide +kernel
theorem Cu : aK ["cell", "letters", "mixed", "name", "k"] ["cell"] (ao vX) := aU
abbrev qK : Stmt := top 28
abbrev vY : Type := List Int
def k6 : vY -> List L3.D := fun a => [.lst (a.map .int)]
def k7 : vY -> Prop := fun a => a.length <= 1000
def k8 : vY -> T := fun a => (.lst (((JV a).map .str).map T.sh) : T)
structure Kd (X : Cx) (CL : Str -> Addr) : Prop extends ck X where
 aZ : Ln X 0 "script"
 su : Ln X 1 "base"
 j5 : Gl X "_law_name"
 aR : Gl X "_law_cell_at"
 Bg : Fc X CL "_law_name" 1 1 ny nA nB
 bW : Fc X CL "_law_cell_at" 1 2 cT cU cV
theorem Ke {X : Cx} {CL : Str -> Addr} {b : Bx} (E : Kd X CL) (a) (h : k7 a) :
   ay X CL b qK ["script", "base"] (k6 a) (k8 a) := by
 dsimp only [ay, k7, k6, k8] at h ⊢
 have hz : ∀ c, (gS c).length <= 13 := fun c => DI c
 have hb : (qe a).length <= 13 := abo (Txt.slice_le _ _ _) (hz _)
 refine aO E.g E.su (bw (Dt (ah (c_ (bI a 0 / 2) E.Bg E.j5 (ai (ah (bD (ah (c_ ((a, 0)) E.bW E.aR (ai (aH E.aZ) (ai (ah aj) aG)) (show (0 : Int) <= 0 by omega) rfl)) (ah aj) ⟨by decide, by decide⟩)) aG) (trivial) rfl)) ((by rw [abe]; have := hz (bI a 0 / 2); omega)) vm (vn (ah aj))) (t2 := .sh (.str (qe a))) rfl) ?_
 show fD X CL b _ _ { nx := _, rt := fun A8 _ => A8 = T.lst (((JV a).map .str).map T.sh), bk := _, ct := _ }
 unfold JV
 generalize qe a = bs at hb ⊢
 refine fS (dw (ah (aQ (ah (c_ ((a, 0)) E.bW E.aR (ai (aH E.aZ) (ai (ah aj) aG)) (show (0 : Int) <= 0 by omega) rfl)) (ah aj) (by decide))) (ah aj)).1 (fun hp => ?_) (fun hp => az ?_)
 . rw [aaF (aa2 hp)]
   exact aY (gZ (aE (jT (aH E.su) (ah bO) ((by rw [abe]; show _ + 1 <= _; omega))) (aE (jT (aH E.su) (ah bO) ((by rw [abe]; show _ + 2 <= _; omega))) (aE (jT (aH E.su) (ah bO) ((by rw [abe]; show _ + 1 <= _; omega))) bS))) (aJ rfl)) rfl
 . rw [aaE (aaV hp)]
   exact aY (gZ (aE (v_ E.su.1) (aE (c_ (bI a 1 + 5) E.Bg E.j5 (ai (ah (dm (ah (c_ ((a, 1)) E.bW E.aR (ai (aH E.aZ) (ai (ah aj) aG)) (show (0 : Int) <= 1 by omega) rfl)) (ah aj))) aG) (trivial) rfl) (aE (c_ (bI a 2 + 10) E.Bg E.j5 (ai (ah (dm (ah (c_ ((a, 2)) E.bW E.aR (ai (aH E.aZ) (ai (ah aj) aG)) (show (0 : Int) <= 2 by omega) rfl)) (ah aj))) aG) (trivial) rfl) bS))) (aJ rfl)) rfl
theorem nE : jN (ao qK) ([("script", au), ("base", au), ("_law_name", aB), ("_law_cell_at", aB)]) = true := by decide +kernel
theorem zS : aK ["script", "base"] ["script"] (ao qK) := aU
abbrev qL : Stmt := top 19
abbrev vZ : Type := Int
def k9 : vZ -> List L3.D := fun a => [.int a]
def lg : vZ -> Prop := fun a => True
def lq : vZ -> T := fun a => (.sh (.int (dz a)) : T)
structure Kf (X : Cx) (CL : Str -> Addr) : Prop extends ck X where
 cF : Ln X 0 "cell"
 mO : Ln X 1 "size"
theorem Kg {X : Cx} {CL : Str -> Addr} {b : Bx} (E : Kf X CL) (a) (h : lg a) :
   ay X CL b qL ["cell", "size"] (k9 a) (lq a) := by
 dsimp only [ay, lg, k9, lq] at h ⊢
 refine fS (dw (ah (aQ (aH E.cF) (ah aj) (by decide))) (ah aj)).1 (fun hp => ?_) (fun hp => az ?_)
 . refine aY (jS (ah (aQ (ah (bD (aH E.cF) (ah aj) ⟨by decide, by decide⟩)) (ah aj) (by decide))) (ah aj)) ?_
   show T.sh _ = T.sh (.int (dz a))
   rw [dz, aaF (aa2 hp)]
 . have e : ¬ a % 2 = 0 := aaV hp
   refine aO E.g E.mO (bw (aQ (ah (mD (ah (bD (aH E.cF) (ah aj) ⟨by decide, by decide⟩)) (ah aj) (.inr ⟨by decide, by decide⟩))) (ah (jS (ah (A2 (ah aj) (ah aj) ⟨by decide, by decide, by decide⟩)) (ah aj))) (by decide)) (t2 := .sh (.int (a / 4 * 48271 % (10 ^ 30 - 1)))) rfl) ?_
   refine fS (dw (ah (aQ (aH E.cF) (ah aj) (by decide))) (ah aj)).1 (fun hp => ?_) (fun hp => az ?_)
   . refine aY (v_ E.mO.1) ?_
     show T.sh _ = T.sh (.int (dz a))
     rw [dz, aaE e, aaF (aa2 hp)]
   . refine aY (cX (aH E.mO)) ?_
     show T.sh _ = T.sh (.int (dz a))
     rw [dz, aaE e, aaE (aaV hp)]
theorem zT : jN (ao qL) ([("cell", au), ("size", au)]) = true := by decide +kernel
theorem zU : aK ["cell", "size"] ["cell"] (ao qL) := aU
abbrev qM : Stmt := top 29
abbrev v5 : Type := Int × Int × List Int
def lu : v5 -> List L3.D := fun (bx, mo, bs) => [.tup [.int bx, .int mo], .lst (bs.map .int)]
def ly : v5 -> Prop := fun (bx, mo, bs) => bx = -1 \/ (0 <= bx /\ bx < bs.length)
def lz : v5 -> T := fun (bx, mo, bs) => (.sh (.int (mJ bx mo bs)) : T)
structure Kh (X : Cx) (CL : Str -> Addr) : Prop extends ck X where
 v7 : Ln X 0 "term"
 bX : Ln X 1 "boxes"
theorem Kl {X : Cx} {CL : Str -> Addr} {b : Bx} (E : Kh X CL) (bx mo bs) (h : ly (bx, mo, bs)) :
   ay X CL b qM ["term", "boxes"] (lu (bx, mo, bs)) (lz (bx, mo, bs)) := by
 dsimp only [ay, ly, lu, lz] at h ⊢
 refine fS (dw (fF (aH E.v7) (ah aj) rfl) (ah (cX (ah aj)))).1 (fun hp => ?_) (fun hp => ?_)
 . refine aY (cK (fF (aH E.v7) (ah aj) rfl) rfl) ?_
   have e : bx = -1 := aa2 hp
   show T.sh (.int mo) = T.sh (.int (mJ bx mo bs))
   rw [mJ, aaF e]
 . refine az ?_
   have e : ¬ bx = -1 := aaV hp
   refine aY (dm (aP (aH E.bX) (fF (aH E.v7) (ah aj) rfl) (fG (by omega) (by omega))) (fF (aH E.v7) (ah aj) rfl)) ?_
   show T.sh _ = T.sh (.int (mJ bx mo bs))
   rw [mJ, aaE e]
theorem zV : jN (ao qM) ([("term", au), ("boxes", au)]) = true := by decide +kernel
theorem zW : aK ["term", "boxes"] ["term", "boxes"] (ao qM) := aU
abbrev Cv : Stmt := top 30
abbrev Gk : Type := Str × Int × Int
def qN : Gk -> List L3.D := fun (mk, i, j) => [.str mk, .int i, .int j]
def qO : Gk -> Prop := fun (mk, i, j) => True
def qP : Gk -> T := fun (mk, i, j) => (.sh (.bl (j3 mk i j)) : T)
structure Tr (X : Cx) (CL : Str -> Addr) : Prop extends ck X where
 Bh : Ln X 0 "mark"
 d8 : Ln X 1 "one"
 bf : Ln X 2 "other"
theorem Tt {X : Cx} {CL : Str -> Addr} {b : Bx} (E : Tr X CL) (mk i j) (h : qO (mk, i, j)) :
   ay X CL b Cv ["mark", "one", "other"] (qN (mk, i, j)) (qP (mk, i, j)) := by
 dsimp only [ay, qO, qN, qP] at h ⊢
 refine fS (ow (aH E.Bh) (ah bO)).1 (fun hp => ?_) (fun hp => az ?_)
 . refine aY (MZ (aH E.d8) (aH E.bf)).2 ?_
   show T.sh _ = T.sh (.bl (j3 mk i j))
   rw [j3, aaF (aa2 hp)]
 refine fS (ow (aH E.Bh) (ah bO)).1 (fun hq => ?_) (fun hq => az ?_)
 . refine aY (Sj (aH E.d8) (aH E.bf)).2 ?_
   show T.sh _ = T.sh (.bl (j3 mk i j))
   rw [j3, aaE (aaV hp), aaF (aa2 hq)]
 refine fS (ow (aH E.Bh) (ah bO)).1 (fun hr => ?_) (fun hr => az ?_)
 . refine aY (dw (aH E.d8) (aH E.bf)).2 ?_
   show T.sh _ = T.sh (.bl (j3 mk i j))
   rw [j3, aaE (aaV hp), aaE (aaV hq), aaF (aa2 hr)]
 . refine aY (uZ (aH E.d8) (aH E.bf)).2 ?_
   show T.sh _ = T.sh (.bl (j3 mk i j))
   rw [j3, aaE (aaV hp), aaE (aaV hq), aaE (aaV hr)]
theorem Bj : jN (ao Cv) ([("mark", au), ("one", au), ("other", au)]) = true := by decide +kernel
theorem Gm : aK ["mark", "one", "other"] ["mark", "one", "other"] (ao Cv) := aU
abbrev Cw : Stmt := top 31
abbrev Gn : Type := Int × List Int × Nat × List Int
def qQ : Gn -> List L3.D := fun (c, ops, m, bs) => [.int c, .lst (ops.map .int), .int m, .lst (bs.map .int)]
def nF : Gn -> Prop := fun (c, ops, m, bs) => 1 <= m /\ bs.length <= 1000
def qR : Gn -> T := fun (c, ops, m, bs) => (.sh (nh (mK ops m bs c)) : T)
structure Tv (X : Cx) (CL : Str -> Addr) : Prop extends ck X where
 cF : Ln X 0 "cell"
 bN : Ln X 1 "opens"
 fJ : Ln X 2 "many"
 bX : Ln X 3 "boxes"
 aM : Ln X 4 "mixed"
 Bk : Ln X 5 "good"
 Qa : X.env.kindOf "good" = some .cell
 eN : Ln X 6 "mood"
 d8 : Ln X 7 "one"
 bf : Ln X 8 "other"
 Gp : Ln X 9 "side"
 Qc : X.env.kindOf "side" = some .cell
 Cy : Ln X 10 "right"
 Km : X.env.kindOf "right" = some .cell
 v8 : Ln X 11 "marks"
 bu : Gl X "_law_mixed"
 Tw : Gl X "int"
 cI : Gl X "len"
 nG : Gl X "_law_small"
 nH : Gl X "_law_worth"
 d7 : Fc X CL "_law_mixed" 1 2 dU dW dX
 Tz : X.mg "int" = none
 cJ : X.mg "len" = none
 Cz : Fc X CL "_law_small" 1 1 k9 lg lq
 CB : Fc X CL "_law_worth" 1 2 lu ly lz
 TF : Fc X CL "_law_due" 1 3 qN qO qP
theorem TH {X : Cx} {CL : Str -> Addr} {b : Bx} (E : Tv X CL) (c ops m bs) (h : nF (c, ops, m, bs)) :
   ay X CL b Cw ["cell", "opens", "many", "boxes", "mixed", "good", "mood", "one", "other", "side", "right", "marks"] (qQ (c, ops, m, bs)) (qR (c, ops, m, bs)) := by
 dsimp only [ay, nF, qQ, qR] at h ⊢
 obtain ⟨hm, hb⟩ := h
 refine aO E.g E.aM (bw (c_ ((c, 31)) E.d7 E.bu (ai (aH E.cF) (ai (ah aj) aG)) (trivial) rfl) (t2 := .sh (.int (b8 c 31))) rfl) ?_
 refine aO E.g E.Bk (bw (M0 (ah (aQ (aH E.aM) (ah aj) (by decide))) (ah aj)).2 (t2 := .sh (.bl (zL c))) rfl) ?_
 show fD X CL b _ _ { nx := _, rt := fun A8 _ => A8 = T.sh (nh (mK ops m bs c)), bk := _, ct := _ }
 have c0 := vJ c 31
 refine fS (dw (ah (aQ (ah (bD (aH E.aM) (ah aj) ⟨by decide, by decide⟩)) (ah aj) (by decide))) (ah aj)).1 (fun hp => ?_) (fun hp => az ?_)
 . have hp := aa2 hp
   rw [show mK ops m bs c = .F3 (decide (decide (b8 c 31 / 9 % (m : Int) ∈ ops) = zL c)) (b8 c 31 / 9 % (m : Int)) by unfold mK; rw [aaF hp]]
   refine aO E.g E.eN (aQ (ah (bD (aH E.aM) (ah aj) ⟨by decide, by decide⟩)) (aH E.fJ) (by omega)) ?_
   have Tp : ∀ p : Bool, rC [L3.D.str "shut", .str "open"] (if p then 1 else 0) = some (.str (if p then "open" else "shut")) := fun p => by cases p <;> rfl
   exact aY (cB (aE (cK (aP (dN (gZ (ds := [.str "shut", .str "open"]) (aE bO (aE bO bS)) (aJ rfl))) (ah (Jo E.Tz (ah (Fb (ah (ji (aH E.eN) (aH E.bN) rfl rfl).2) (aH E.Bk)).2) E.Tw)) (Tp _)) rfl) (aE (v_ E.eN.1) bS)) (aJ rfl)) rfl
 have hp := aaV hp
 rw [show mK ops m bs c = .num (zM c bs) (qo c bs.length) (dz (c / 3)) (oW c bs.length) (vP c) by unfold mK; rw [aaE hp]]
 refine aO E.g E.d8 (bw (cB (aE (jS (ah (aQ (ah (bD (aH E.aM) (ah aj) ⟨by decide, by decide⟩)) (ah (dm (ah (bV (aaK ..) E.cJ (aH E.bX) E.cI)) (ah aj))) (by omega))) (ah aj)) (aE (c_ (c / 3) E.Cz E.nG (ai (ah (bD (aH E.cF) (ah aj) ⟨by decide, by decide⟩)) aG) (trivial) rfl) bS)) (aJ rfl)) (t2 := .sh (.tup [.int (qo c bs.length), .int (dz (c / 3))])) rfl) ?_
 refine aO E.g E.bf (bw (cB (aE (jS (ah (aQ (ah (bD (aH E.aM) (ah aj) ⟨by decide, by decide⟩)) (ah (dm (ah (bV (aaK ..) E.cJ (aH E.bX) E.cI)) (ah aj))) (by omega))) (ah aj)) (aE (c_ (c / 5 + 1) E.Cz E.nG (ai (ah (dm (ah (bD (aH E.cF) (ah aj) ⟨by decide, by decide⟩)) (ah aj))) aG) (trivial) rfl) bS)) (aJ rfl)) (t2 := .sh (.tup [.int (b8 c 31 / 81 % ((bs.length : Int) + 1) - 1), .int (dz (c / 5 + 1))])) rfl) ?_
 refine y9 (fun δ => δ = [some (.sh (.int c)), some (.sh (.lst (ops.map .int))), some (.sh (.int m)), some (.sh (.lst (bs.map .int))), some (.sh (.int (b8 c 31))), some (.sh (.bl (zL c))), none, some (.sh (.tup [.int (qo c bs.length), .int (dz (c / 3))])), some (.sh (.tup [.int (oW c bs.length), .int (vP c)])), none, none, none]) (dw (ah (aQ (ah (bD (aH E.aM) (ah aj) ⟨by decide, by decide⟩)) (ah aj) (by decide))) (ah aj)).1 (fun hq => ?_) (fun hq => ?_) ?_
 . have hq := aa2 hq
   rw [show oW c bs.length = qo c bs.length by unfold oW; rw [aaF hq], show vP c = dz (c / 3) + b8 c 31 / 2187 % 3 - 1 by unfold vP; rw [aaF hq]]
   exact aO E.g E.bf (cB (aE (cK (fF (aH E.d8) (ah aj) rfl) rfl) (aE (jS (ah (dm (fF (aH E.d8) (ah aj) rfl) (ah (aQ (ah (bD (aH E.aM) (ah aj) ⟨by decide, by decide⟩)) (ah aj) (by decide))))) (ah aj)) bS)) (aJ rfl)) (az rfl)
 . have hq := aaV hq
   rw [show oW c bs.length = b8 c 31 / 81 % ((bs.length : Int) + 1) - 1 by unfold oW; rw [aaE hq], show vP c = dz (c / 5 + 1) by unfold vP; rw [aaE hq]]
   exact az rfl
 rintro δ rfl
 refine aO E.g E.Gp (bw (c_ ((qo c bs.length, dz (c / 3), bs)) E.CB E.nH (ai (aH E.d8) (ai (aH E.bX) aG)) (vQ c bs.length) rfl) (t2 := .sh (.int (lX c bs))) rfl) ?_
 refine aO E.g E.Cy (bw (c_ ((oW c bs.length, vP c, bs)) E.CB E.nH (ai (aH E.bf) (ai (aH E.bX) aG)) (Ct c bs.length) rfl) (t2 := .sh (.int (iB c bs))) rfl) ?_
 have Ye : zM c bs = (rY (zL c) (lX c bs) (iB c bs)).getD (b8 c 31 / 6561 % ((rY (zL c) (lX c bs) (iB c bs)).length : Nat)).toNat Str.empty := rfl
 rw [Ye]
 generalize lX c bs = sd
 generalize iB c bs = rt
 have Z0 := zK (zL c) sd rt
 have Z6 : (((zJ.map L3.D.str).filter fun d => decide (j3 d.toS sd rt = zL c)).map fun d => T.sh d) = ((rY (zL c) sd rt).map L3.D.str).map T.sh := by
   rw [List.filter_map]
   rfl
 refine oJ (p := fun d => decide (j3 d.toS sd rt = zL c)) (gg := fun d => T.sh d) E.g E.v8 (dJ (.cons E.Bk.1 (.inl E.Qa) (.cons E.Cy.1 (.inl E.Km) (.cons E.Gp.1 (.inl E.Qc) .nil))) (by decide +kernel)) (mE (B9 (ds := zJ.map L3.D.str) (qz rfl))) (.inr rfl) (fun C s0 H0 f0 b' d hd => ?Gf) (aJ rfl) ?rest (by exact aaJ rfl) (iP ⟨_, rfl⟩)
 case Gf =>
   obtain ⟨mk, Ye, rfl⟩ := abg.mp hd
   exact ⟨(Fb (ah (c_ ((mk, sd, rt)) (mU E.TF) (jf (by decide +kernel)) (ai (ah (v_ (fZ (i := 0) rfl (by decide +kernel)))) (ai (ah (v_ (gP (i := 3) rfl (by decide +kernel)))) (ai (ah (v_ (gP (i := 2) rfl (by decide +kernel)))) aG))) (trivial) rfl)) (ah (v_ (gP (i := 1) rfl (by decide +kernel))))).1, fun _ => (v_ (fZ (i := 0) rfl (by decide +kernel)))⟩
 case rest =>
 rw [Z6]
 generalize rY (zL c) sd rt = Yg at Z0
 have l0 := aaU (b8 c 31 / 6561) (b := (Yg.length : Nat)) (by omega)
 have l1 := aaQ (b8 c 31 / 6561) (b := (Yg.length : Nat)) (by omega)
 exact aY (cB (aE (cK (aP (vL E.v8.1) (ah (aQ (ah (bD (aH E.aM) (ah aj) ⟨by decide, by decide⟩)) (ah (bV (aaK ..) E.cJ (vL E.v8.1) E.cI)) (by omega))) (f6 Str.empty l0 l1)) rfl) (aE (v_ E.d8.1) (aE (v_ E.bf.1) bS))) (aJ rfl)) rfl
theorem cQ : jN (ao Cw) ([("cell", au), ("opens", au), ("many", au), ("boxes", au), ("mixed", au), ("good", .cell), ("mood", au), ("one", au), ("other", au), ("side", .cell), ("right", .cell), ("marks", au), ("_law_mixed", aB), ("int", aB), ("len", aB), ("_law_small", aB), ("_law_worth", aB)]) = true := by decide +kernel
theorem Gq : aK ["cell", "opens", "many", "boxes", "mixed", "good", "mood", "one", "other", "side", "right", "marks"] ["cell", "opens", "many", "boxes"] (ao Cw) := aU
abbrev CD : Stmt := top 32
abbrev Gr : Type := Int × List Int × Nat × List Int × List Str
def qS : Gr -> List L3.D := fun (c, ops, m, bs, th) => [.int c, .lst (ops.map .int), .int m, .lst (bs.map .int), .lst (th.map .str)]
def nI : Gr -> Prop := fun (c, ops, m, bs, th) => 1 <= m /\ 1 <= ops.length /\ bs.length <= 1000 /\ th.length = 3
def qT : Gr -> T := fun (c, ops, m, bs, th) => (.sh (d9 (F5 ops m bs th c)) : T)
structure TJ (X : Cx) (CL : Str -> Addr) : Prop extends ck X where
 cF : Ln X 0 "cell"
 bN : Ln X 1 "opens"
 fJ : Ln X 2 "many"
 bX : Ln X 3 "boxes"
 gq : Ln X 4 "three"
 aM : Ln X 5 "mixed"
 sy : Ln X 6 "source"
 Bl : Ln X 7 "asks"
 jl : Ln X 8 "k"
 CF : Ln X 9 "deeds"
 sA : Ln X 10 "target"
 Bm : Ln X 11 "mode"
 bu : Gl X "_law_mixed"
 cI : Gl X "len"
 b9 : Gl X "range"
 Bo : Gl X "_law_ask"
 Kn : Gl X "tuple"
 d7 : Fc X CL "_law_mixed" 1 2 dU dW dX
 cJ : X.mg "len" = none
 cg : X.mg "range" = none
 TL : Fc X CL "_law_ask" 2 4 qQ nF qR
 Ko : X.mg "tuple" = none
theorem TN {X : Cx} {CL : Str -> Addr} {b : Bx} (E : TJ X CL) (c ops m bs th) (h : nI (c, ops, m, bs, th)) :
   ay X CL b CD ["cell", "opens", "many", "boxes", "three", "mixed", "source", "asks", "k", "deeds", "target", "mode"] (qS (c, ops, m, bs, th)) (qT (c, ops, m, bs, th)) := by
 dsimp only [ay, nI, qS, qT] at h ⊢
 obtain ⟨hm, ho, hb, h3⟩ := h
 refine aO E.g E.aM (bw (c_ ((c, 11)) E.d7 E.bu (ai (aH E.cF) (ai (ah aj) aG)) (trivial) rfl) (t2 := .sh (.int (b8 c 11))) rfl) ?_
 have c0 := vJ c 11
 show fD X CL b _ _ { nx := _, rt := fun A8 _ => A8 = T.sh (d9 (F5 ops m bs th c)), bk := _, ct := _ }
 have hw : d9 (F5 ops m bs th c) = .tup [.int (if b8 c 11 % 2 = 0 then ops.getD (b8 c 11 / 2 % (ops.length : Nat)).toNat 0 else b8 c 11 / 2 % (m : Int)), .str (th.getD (b8 c 13 / 300 % 3).toNat Str.empty), .tup ((DK ops m bs c).map nh), .tup (Nm th (b8 c 11 / 300 % 3)), .int (if b8 c 13 % 5 = 0 then -1 else b8 c 13 / 5 % (m : Int)), .str (if b8 c 13 % 5 = 0 then "new" else (["new", "near", "far"] : List Str).getD (b8 c 13 / 100 % 3).toNat Str.empty)] := rfl
 rw [hw]
 generalize Kp : (if b8 c 11 % 2 = 0 then ops.getD (b8 c 11 / 2 % (ops.length : Nat)).toNat 0 else b8 c 11 / 2 % (m : Int)) = src
 refine aO E.g E.sy (aQ (ah (bD (aH E.aM) (ah aj) ⟨by decide, by decide⟩)) (aH E.fJ) (by omega)) ?_
 have Rp : (ops.map L3.D.int).length = ops.length := by simp
 have l0 := aaU (b8 c 11 / 2) (b := (ops.length : Nat)) (by omega)
 have l1 := aaQ (b8 c 11 / 2) (b := (ops.length : Nat)) (by omega)
 refine y9 (fun δ => δ = [some (.sh (.int c)), some (.sh (.lst (ops.map .int))), some (.sh (.int m)), some (.sh (.lst (bs.map .int))), some (.sh (.lst (th.map .str))), some (.sh (.int (b8 c 11))), some (.sh (.int src)), none, none, none, none, none]) (dw (ah (aQ (aH E.aM) (ah aj) (by decide))) (ah aj)).1 (fun hq => ?_) (fun hq => ?_) ?_
 . rw [aaF (aa2 hq)] at Kp
   rw [← Kp]
   exact aO E.g E.sy (cK (aP (aH E.bN) (ah (aQ (ah (bD (aH E.aM) (ah aj) ⟨by decide, by decide⟩)) (ah (bV (Rp) E.cJ (aH E.bN) E.cI)) (by omega))) (fG l0 l1)) rfl) (az rfl)
 . rw [aaE (aaV hq)] at Kp
   rw [← Kp]
   exact az rfl
 rintro δ rfl
 refine aO E.g E.Bl (eL eK (abf _)) ?_
 have k0 := aaU (b8 c 11 / 100) (show (3 : Int) ≠ 0 by decide)
 have k1 := aaQ (b8 c 11 / 100) (show (0 : Int) < 3 by decide)
 refine jU E.g E.jl (fun j δ => ∃ o8, δ = [some (.sh (.int c)), some (.sh (.lst (ops.map .int))), some (.sh (.int m)), some (.sh (.lst (bs.map .int))), some (.sh (.lst (th.map .str))), some (.sh (.int (b8 c 11))), some (.sh (.int src)), some (.lst ((((List.range j).map fun (k : Nat) => mK ops m bs (c / ((k : Int) + 1) + 17 * (k : Int))).map nh).map T.sh)), o8, none, none, none])
   (eB E.cg (ah (aQ (ah (bD (aH E.aM) (ah aj) ⟨by decide, by decide⟩)) (ah aj) (by decide))) (by omega) E.b9) ⟨_, rfl⟩ (fun j δ ⟨_, e⟩ => by subst e; exact aaJ rfl) ?turn ?fin
 case turn =>
   rintro j d δ hj ⟨o8, rfl⟩
   obtain ⟨rfl, AG⟩ := gQ hj
   have AG : j < (b8 c 11 / 100 % 3).toNat := AG
   rw [abJ]
   refine lV E.Bl.1 rfl (bw (c_ ((c / ((j : Int) + 1) + 17 * (j : Int), ops, m, bs)) E.TL E.Bo (ai (ah (dm (ah (bD (aH E.cF) (ah (dm (aH E.jl) (ah aj))) (⟨by omega, by omega⟩))) (ah (mD (ah aj) (aH E.jl) (.inl ⟨by decide, by decide⟩))))) (ai (aH E.bN) (ai (aH E.fJ) (ai (aH E.bX) aG)))) (by dsimp only [nF]; exact (⟨hm, hb⟩)) (rX _)) (t2 := .sh (nh (mK ops m bs (c / ((j : Int) + 1) + 17 * (j : Int))))) rfl) rfl (by simp; omega) (az ?_)
   have e1 : ((((List.range j).map fun (k : Nat) => mK ops m bs (c / ((k : Int) + 1) + 17 * (k : Int))).map nh).map T.sh) ++ [T.sh (nh (mK ops m bs (c / ((j : Int) + 1) + 17 * (j : Int))))] = ((((List.range (j + 1)).map fun (k : Nat) => mK ops m bs (c / ((k : Int) + 1) + 17 * (k : Int))).map nh).map T.sh) := by
     simp [aci]
   rw [e1]
   exact ⟨_, rfl⟩
 case fin =>
   rintro δ ⟨o8, rfl⟩
   have e0 : (bH 0 (b8 c 11 / 100 % 3).toNat).length = (b8 c 11 / 100 % 3).toNat := by simp [bH]
   rw [e0]
   rw [show ((List.range (b8 c 11 / 100 % 3).toNat).map fun (k : Nat) => mK ops m bs (c / ((k : Int) + 1) + 17 * (k : Int))) = DK ops m bs c from rfl]
   generalize DK ops m bs c = al
   have Xa : ∀ i : Nat, i < 3 -> rC (th.map L3.D.str) (i : Int) = some (.str (th.getD i Str.empty)) := fun i hi => f6 Str.empty (by omega) (by omega)
   have Tp : rC [L3.D.tup [], .tup [.tup [.str "call", .str (th.getD 0 Str.empty)]], .tup [.tup [.str "say", .str (th.getD 1 Str.empty), .tup [.int (-1), .int 7]], .tup [.str "call", .str (th.getD 2 Str.empty)]]] (b8 c 11 / 300 % 3) = some (.tup (Nm th (b8 c 11 / 300 % 3))) := by
     have : b8 c 11 / 300 % 3 = 0 \/ b8 c 11 / 300 % 3 = 1 \/ b8 c 11 / 300 % 3 = 2 := by omega
     rcases this with e | e | e <;> rw [e] <;> rfl
   have Xb : (L3.D.tup (Nm th (b8 c 11 / 300 % 3))).jd = true := by
     have : b8 c 11 / 300 % 3 = 0 \/ b8 c 11 / 300 % 3 = 1 \/ b8 c 11 / 300 % 3 = 2 := by omega
     rcases this with e | e | e <;> rw [e] <;> rfl
   refine aO E.g E.CF (cK (aP (δ1 := [some (.sh (.int c)), some (.sh (.lst (ops.map .int))), some (.sh (.int m)), some (.sh (.lst (bs.map .int))), some (.sh (.lst (th.map .str))), some (.sh (.int (b8 c 11))), some (.sh (.int src)), some (.lst ((al.map nh).map T.sh)), o8, none, none, none]) (dN (gZ (ds := [L3.D.tup [], .tup [.tup [.str "call", .str (th.getD 0 Str.empty)]], .tup [.tup [.str "say", .str (th.getD 1 Str.empty), .tup [.int (-1), .int 7]], .tup [.str "call", .str (th.getD 2 Str.empty)]]])
     (m5 ?d1 (m5 ?d2 (m5 ?d3 bS))) (aJ rfl))) (ah (aQ (ah (bD (aH E.aM) (ah aj) ⟨by decide, by decide⟩)) (ah aj) (by decide))) Tp) Xb) ?rest
   case d1 => exact cB bS (aJ rfl)
   case d2 => exact cB (aE (cB (aE bO (aE (cK (aP (aH E.gq) (ah aj) (Xa 0 (by omega))) rfl) bS)) (aJ rfl)) bS) (aJ rfl)
   case d3 =>
     refine cB (m5 ?d4 (m5 ?d5 bS)) (aJ rfl)
     case d4 => exact cB (aE bO (aE (cK (aP (aH E.gq) (ah aj) (Xa 1 (by omega))) rfl) (aE (cB (aE (cX (ah aj)) (aE aj bS)) (aJ rfl)) bS))) (aJ rfl)
     case d5 => exact cB (aE bO (aE (cK (aP (aH E.gq) (ah aj) (Xa 2 (by omega))) rfl) bS)) (aJ rfl)
   case rest =>
   generalize Nm th (b8 c 11 / 300 % 3) = de
   refine aO E.g E.aM (bw (c_ ((c, 13)) E.d7 E.bu (ai (aH E.cF) (ai (ah aj) aG)) (trivial) rfl) (t2 := .sh (.int (b8 c 13))) rfl) ?_
   have d0 := vJ c 13
   generalize b8 c 13 = q at d0 ⊢
   refine aO E.g E.sA (aQ (ah (bD (aH E.aM) (ah aj) ⟨by decide, by decide⟩)) (aH E.fJ) (by omega)) ?_
   refine aO E.g E.Bm (cK (aP (dN (gZ (aE bO (aE bO (aE bO bS))) (aJ rfl))) (ah (aQ (ah (bD (aH E.aM) (ah aj) ⟨by decide, by decide⟩)) (ah aj) (by decide))) (f6 (f := L3.D.str) (l := ["new", "near", "far"]) Str.empty (aaU _ (by decide)) (aaQ _ (by decide)))) rfl) ?_
   generalize Vm : (if q % 5 = 0 then (-1 : Int) else q / 5 % (m : Int)) = tg
   generalize Vo : (if q % 5 = 0 then ("new" : Str) else (["new", "near", "far"] : List Str).getD (q / 100 % 3).toNat Str.empty) = md
   refine y9 (fun δ => δ = [some (.sh (.int c)), some (.sh (.lst (ops.map .int))), some (.sh (.int m)), some (.sh (.lst (bs.map .int))), some (.sh (.lst (th.map .str))), some (.sh (.int q)), some (.sh (.int src)), some (.lst ((al.map nh).map T.sh)), o8, some (.sh (.tup de)), some (.sh (.int tg)), some (.sh (.str md))]) (dw (ah (aQ (aH E.aM) (ah aj) (by decide))) (ah aj)).1 (fun hq => ?_) (fun hq => ?_) ?_
   . rw [aaF (aa2 hq)] at Vm Vo
     rw [← Vm, ← Vo]
     exact aO E.g E.sA (cX (ah aj)) (aO E.g E.Bm bO (az rfl))
   . rw [aaE (aaV hq)] at Vm Vo
     rw [← Vm, ← Vo]
     exact az rfl
   rintro δ rfl
   have q0 := aaU (q / 300) (show (3 : Int) ≠ 0 by decide)
   have q1 := aaQ (q / 300) (show (0 : Int) < 3 by decide)
   exact aY (cB (aE (v_ E.sy.1) (aE (cK (aP (aH E.gq) (ah (aQ (ah (bD (aH E.aM) (ah aj) ⟨by decide, by decide⟩)) (ah aj) (by decide))) (f6 Str.empty q0 (by omega))) rfl) (aE (Dr E.Ko (vL E.Bl.1) (iQ (fun a => rX a) _) E.Kn) (aE (v_ E.CF.1) (aE (v_ E.sA.1) (aE (v_ E.Bm.1) bS)))))) (aJ rfl)) rfl
theorem dO : jN (ao CD) ([("cell", au), ("opens", au), ("many", au), ("boxes", au), ("three", au), ("mixed", au), ("source", au), ("asks", au), ("k", au), ("deeds", au), ("target", au), ("mode", au), ("_law_mixed", aB), ("len", aB), ("range", aB), ("_law_ask", aB), ("tuple", aB)]) = true := by decide +kernel
theorem Gs : aK ["cell", "opens", "many", "boxes", "three", "mixed", "source", "asks", "k", "deeds", "target", "mode"] ["cell", "opens", "many", "boxes", "three"] (ao CD) := aU
theorem Kq {α : Type} {l : List α} {k : Nat} (h : l.length <= k) : cutD l none (some (k : Int)) = l := by
 unfold cutD
 have e1 : HT.qi l.length 0 none = 0 := rfl
 have e2 : HT.qi l.length l.length (some (k : Int)) = l.length := by
   unfold HT.qi
   simp
   split <;> omega
 rw [e1, e2]
 simp
abbrev v9 : Stmt := top 33
abbrev Bp : Type := List Int × List Int × Nat × List Int × List Str
def nJ : Bp -> List L3.D := fun (s, ops, m, bs, th) => [.lst (s.map .int), .lst (ops.map .int), .int m, .lst (bs.map .int), .lst (th.map .str)]
def j6 : Bp -> Prop := fun (s, ops, m, bs, th) => s.length <= 63 /\ 1 <= m /\ 1 <= ops.length /\ bs.length <= 1000 /\ th.length = 3 /\ (∀ x ∈ ops, 0 <= x /\ x < m) /\ ∀ x ∈ th, PyData.strOk x = true
def nK : Bp -> T := fun (s, ops, m, bs, th) => (.lst (((r6 s ops m bs th).map d9).map T.sh) : T)
structure Qd (X : Cx) (CL : Str -> Addr) : Prop extends ck X where
 aZ : Ln X 0 "script"
 bN : Ln X 1 "opens"
 wc : X.env.kindOf "opens" = some .cell
 fJ : Ln X 2 "many"
 Qe : X.env.kindOf "many" = some .cell
 bX : Ln X 3 "boxes"
 wg : X.env.kindOf "boxes" = some .cell
 gq : Ln X 4 "three"
 Kr : X.env.kindOf "three" = some .cell
 dB : Ln X 5 "ways"
 Gu : Gl X "sorted"
 Gv : X.mg "sorted" = none
 TQ : Fc X CL "_law_way" 3 5 qS nI qT
 lam : JB X CL "#_law_ways.<locals>.<lambda>" "_law_ways.<locals>.<lambda>"
 dp : X.A.depth < recursionLimit
 rm : dR 3 X.A
theorem Qf {X : Cx} {CL : Str -> Addr} {b : Bx} (E : Qd X CL) (s ops m bs th) (h : j6 (s, ops, m, bs, th)) :
   ay X CL b v9 ["script", "opens", "many", "boxes", "three", "ways"] (nJ (s, ops, m, bs, th)) (nK (s, ops, m, bs, th)) := by
 dsimp only [ay, j6, nJ, nK] at h ⊢
 obtain ⟨hs, hm, ho, hb, h3, JZ, c7⟩ := h
 have Xc : cutD (s.map L3.D.int) none (some 63) = s.map L3.D.int := Kq (k := 63) (by simpa using hs)
 have IY := fun c : Int => F6 (ops := ops) (m := m) (bs := bs) (th := th) hm ho JZ c7 h3 c
 refine oJ (p := fun _ => true) (gg := fun d => T.sh (d9 (F5 ops m bs th d.zc))) E.g E.dB (dJ (.cons E.bX.1 (.inl E.wg) (.cons E.fJ.1 (.inl E.Qe) (.cons E.bN.1 (.inl E.wc) (.cons E.gq.1 (.inl E.Kr) .nil)))) (by decide +kernel)) (mE (vq (bw (zj (aH E.aZ) (dM _) vm (vn (ah aj))) (t2 := .lst ((s.map L3.D.int).map T.sh)) (by rw [Xc])))) (.inr rfl) (fun C s0 H0 f0 b' d hd => ?Gf) (abE (eS (by simp; omega))) ?rest (by exact aaJ rfl) (iP ⟨_, rfl⟩)
 case Gf =>
   obtain ⟨c, hc, rfl⟩ := abg.mp hd
   exact ⟨rfl, fun _ => bw (c_ ((c, ops, m, bs, th)) (mU E.TQ) (jf (by decide +kernel)) (ai (ah (v_ (fZ (i := 0) rfl (by decide +kernel)))) (ai (ah (v_ (gP (i := 3) rfl (by decide +kernel)))) (ai (ah (v_ (gP (i := 2) rfl (by decide +kernel)))) (ai (ah (v_ (gP (i := 1) rfl (by decide +kernel)))) (ai (ah (v_ (gP (i := 4) rfl (by decide +kernel)))) aG))))) (by dsimp only [nI]; exact (⟨hm, ho, hb, h3⟩)) ((IY c).jd)) rfl⟩
 case rest =>
 have em : ((s.map L3.D.int).filter fun _ => true).map (fun d => T.sh (d9 (F5 ops m bs th d.zc))) = ((s.map (F5 ops m bs th)).map d9).map T.sh := by
   rw [fT, abx, abx, abx]
   rfl
 rw [em]
 refine aY (bw (Bb (y := "way") (g := fun d => d.XS.zc) E.lam E.g E.dp E.Gv E.Gu (dJ .nil (by decide +kernel)) (vL E.dB.1) (mW fun d hd => ?jd) (by simp; omega) (fun f c s0 H0 b' d hd => ?key)) ?eq) rfl
 case jd =>
   obtain ⟨w, hw, rfl⟩ := abg.mp hd
   obtain ⟨c, _, rfl⟩ := abg.mp hw
   exact (IY c).jd
 case key =>
   obtain ⟨w, hw, rfl⟩ := abg.mp hd
   exact fF (ah (v_ (PY (i := 0) rfl (by decide +kernel)))) (ah aj) rfl
 case eq =>
   rw [oN]
   rfl
theorem e9 : jN (ao v9) ([("script", au), ("opens", .cell), ("many", .cell), ("boxes", .cell), ("three", .cell), ("ways", au), ("sorted", aB)]) = true := by decide +kernel
theorem CG : aK ["script", "opens", "many", "boxes", "three", "ways"] ["script", "opens", "many", "boxes", "three"] (ao v9) := aU
abbrev g6 : Stmt := inClass (top 5) 0
abbrev j7 : Type := List Str × List Int × List Int
def lY : j7 -> List L3.D := fun (ks, es, ss) => [.lst (ks.map .str), .lst (es.map .int), .lst (ss.map .int)]
def lZ : j7 -> Prop := fun (ks, es, ss) => True
def mh : j7 -> List (Str × T) := fun (ks, es, ss) => (jM ks es ss : List (Str × T))
structure zX (X : Cx) (CL : Str -> Addr) : Prop extends ck X where
 iD : Ln X 0 "self"
 jq : Ln X 1 "kinds"
 bF : Ln X 2 "elders"
 iT : Ln X 3 "starts"
 fc : Gl X "list"
 fh : X.mg "list" = none
 fj : tS X.K (CL "Tree")
 fq : aV X.K (CL "Tree") "kinds"
 di : aV X.K (CL "Tree") "elders"
 iE : aV X.K (CL "Tree") "starts"
theorem zY {X : Cx} {CL : Str -> Addr} {b : Bx} (E : zX X CL) (ks : List Str) (es ss : List Int) (y : Addr) (h : True) :
   fD X CL b (eH g6) (Fl ["self", "kinds", "elders", "starts"] y "Tree" [.lst (ks.map .str), .lst (es.map .int), .lst (ss.map .int)]) { nx := fun δ => δ[0]? = some (some (.pin y (.ins "Tree" (jM ks es ss)))), rt := fun _ _ => False } := by
 have hi : D.bM (ks.map L3.D.str) = true := iQ (fun _ => rfl) _
 refine mX E.fj E.fq E.iD.1 (dg E.fh (aH E.jq) hi E.fc bZ) rfl (aaJ rfl) ?_
 rw [eX]
 refine mX E.fj E.di E.iD.1 (dg E.fh (aH E.bF) (dM _) E.fc bZ) rfl (aaJ rfl) ?_
 rw [bA (by decide +kernel), eX]
 refine mX E.fj E.iE E.iD.1 (dg E.fh (aH E.iT) (dM _) E.fc bZ) rfl (aaJ rfl) ?_
 rw [bA (by decide +kernel), bA (by decide +kernel), eX]
 exact az rfl
theorem fu : jN (ao g6) ([("self", au), ("kinds", au), ("elders", au), ("starts", au), ("list", aB)]) = true := by decide +kernel
theorem nL : aK ["self", "kinds", "elders", "starts"] ["self", "kinds", "elders", "starts"] (ao g6) := aU
abbrev gu : Stmt := inClass (top 3) 0
abbrev jv : Type := List L3.D × List L3.D × V × List L3.D × List L3.D × List L3.D
def j8 : jv -> List L3.D := fun (bs, nm, tv, is, os, ws) => [.lst bs, .lst nm, .val tv, .lst is, .lst os, .lst ws]
def j9 : jv -> Prop := fun (bs, nm, tv, is, os, ws) => D.bM bs = true /\ D.bM nm = true /\ D.bM is = true /\ D.bM os = true /\ D.bM ws = true
def kg : jv -> List (Str × T) := fun (bs, nm, tv, is, os, ws) => (f7 bs nm (.sh (.val tv)) is os ws : List (Str × T))
structure wj (X : Cx) (CL : Str -> Addr) : Prop extends ck X where
 iD : Ln X 0 "self"
 bX : Ln X 1 "boxes"
 lA : Ln X 2 "names"
 cL : Ln X 3 "tree"
 TR : Ln X 4 "ins"
 Qg : Ln X 5 "outs"
 dB : Ln X 6 "ways"
 fc : Gl X "list"
 fh : X.mg "list" = none
 cC : tS X.K (CL "Chart")
 ua : aV X.K (CL "Chart") "boxes"
 uc : aV X.K (CL "Chart") "names"
 cZ : aV X.K (CL "Chart") "tree"
 zZ : aV X.K (CL "Chart") "ins"
 wk : aV X.K (CL "Chart") "outs"
 c6 : aV X.K (CL "Chart") "ways"
theorem wm {X : Cx} {CL : Str -> Addr} {b : Bx} (E : wj X CL) (bs nm : List L3.D) (tv : V) (is os ws : List L3.D) (y : Addr) (h : D.bM bs = true /\ D.bM nm = true /\ D.bM is = true /\ D.bM os = true /\ D.bM ws = true) :
   fD X CL b (eH gu) (Fl ["self", "boxes", "names", "tree", "ins", "outs", "ways"] y "Chart" [.lst bs, .lst nm, .val tv, .lst is, .lst os, .lst ws]) { nx := fun δ => δ[0]? = some (some (.pin y (.ins "Chart" (f7 bs nm (.sh (.val tv)) is os ws)))), rt := fun _ _ => False } := by
 obtain ⟨h1, h2, h3, h4, h5⟩ := h
 refine mX E.cC E.ua E.iD.1 (dg E.fh (aH E.bX) h1 E.fc bZ) rfl (aaJ rfl) ?_
 rw [eX]
 refine mX E.cC E.uc E.iD.1 (dg E.fh (aH E.lA) h2 E.fc bZ) rfl (aaJ rfl) ?_
 rw [bA (by decide +kernel), eX]
 refine mX E.cC E.cZ E.iD.1 (v_ E.cL.1) rfl (aaJ rfl) ?_
 rw [bA (by decide +kernel), bA (by decide +kernel), eX]
 refine mX E.cC E.zZ E.iD.1 (dg E.fh (aH E.TR) h3 E.fc bZ) rfl (aaJ rfl) ?_
 rw [bA (by decide +kernel), bA (by decide +kernel), bA (by decide +kernel), eX]
 refine mX E.cC E.wk E.iD.1 (dg E.fh (aH E.Qg) h4 E.fc bZ) rfl (aaJ rfl) ?_
 rw [bA (by decide +kernel), bA (by decide +kernel), bA (by decide +kernel), bA (by decide +kernel), eX]
 refine mX E.cC E.c6 E.iD.1 (dg E.fh (aH E.dB) h5 E.fc bZ) rfl (aaJ rfl) ?_
 rw [bA (by decide +kernel), bA (by decide +kernel), bA (by decide +kernel), bA (by decide +kernel), bA (by decide +kernel), eX]
 exact az rfl
theorem cu : jN (ao gu) ([("self", au), ("boxes", au), ("names", au), ("tree", au), ("ins", au), ("outs", au), ("ways", au), ("list", aB)]) = true := by decide +kernel
theorem mj : aK ["self", "boxes", "names", "tree", "ins", "outs", "ways"] ["self", "boxes", "names", "tree", "ins", "outs", "ways"] (ao gu) := aU
def sI (k : Int) : Str := toString k
def Rq (k : Nat) : Str := ("mood" : Str) ++ sI (k : Int)
def mP (n : Nat) : List Str := (List.range n).map Rq
def Rr (k : Nat) : L3.D := .tup [.str (("box" : Str) ++ sI (k : Int)), .int ((k : Int) - 2)]
def nM (n : Nat) : List L3.D := (List.range n).map Rr
def pe (n : Nat) : List L3.D := (List.replicate n [L3.D.tup []]).flatten
theorem pA (n : Nat) : D.bM (nM n) = true := iQ (fun _ => rfl) _
theorem iX (n : Nat) : D.bM (pe n) = true := mW fun d hd => by
 unfold pe at hd
 obtain ⟨l, hl, hd⟩ := List.mem_flatten.mp hd
 rw [(List.mem_replicate.mp hl).2] at hd
 rw [abi.mp hd]; rfl
theorem z6 (k : Nat) (h : k <= 40) : (k : Int).natAbs.log2 < 1920 /\ (toString (k : Int) : Str).length <= 50 /\ PyData.strOk (toString (k : Int) : Str) = true := by
 have h2 : ((List.range 41).all fun k => decide ((k : Int).natAbs.log2 < 1920) && decide ((toString (k : Int) : Str).length <= 50) && PyData.strOk (toString (k : Int) : Str)) = true := by decide +kernel
 have := abN.mp h2 k (abL.mpr (by omega))
 simpa [Bool.and_eq_true, and_assoc] using this
theorem wu {bs nm is os ws : List L3.D} {t : T} (h1 : D.bM bs = true) (h2 : D.bM nm = true) (h3 : t.clean = true) (h4 : D.bM is = true) (h5 : D.bM os = true) (h6 : D.bM ws = true) : T.aW (f7 bs nm t is os ws) = true := by
 unfold f7 oS oU
 rw [aa6, aa6, ach, T.aW, T.aW, T.aW, T.aW, T.aW, T.aW, T.aW, bE h1, bE h2, h3, bE h4, bE h5, bE h6]
 rfl
abbrev qU : Stmt := top 34
abbrev wA : Type := List Str × List Int × List Int × List Int × List Int × List L3.D
def lB : wA -> List L3.D := fun (ks, es, ss, oo, bs, ws) => [ng ks es ss oo, .lst (bs.map .int), .lst ws]
def iY : wA -> Prop := fun (ks, es, ss, oo, bs, ws) => es.length <= 40 /\ bs.length <= 40 /\ D.bM ws = true
def lC : wA -> T := fun (ks, es, ss, oo, bs, ws) => (.ins "Chart" (f7 (nM bs.length) ((mP es.length).map .str) (.ins "Tree" (jM ks es ss)) (pe es.length) (pe es.length) ws) : T)
structure Ks (X : Cx) (CL : Str -> Addr) : Prop extends ck X where
 bq : Ln X 0 "lists"
 bX : Ln X 1 "boxes"
 dB : Ln X 2 "ways"
 CH : Ln X 3 "named"
 lA : Ln X 4 "names"
 cL : Ln X 5 "tree"
 b9 : Gl X "range"
 cI : Gl X "len"
 Qh : Gl X "Tree"
 fc : Gl X "list"
 Ku : Gl X "Chart"
 cg : X.mg "range" = none
 cJ : X.mg "len" = none
 Qi : Fm X CL "Tree" 1 4 lY lZ mh
 fh : X.mg "list" = none
 Kv : Fm X CL "Chart" 1 7 j8 j9 kg
 Np : X.mg "str" = none
theorem Kw {X : Cx} {CL : Str -> Addr} {b : Bx} (E : Ks X CL) (ks es ss oo bs ws) (h : iY (ks, es, ss, oo, bs, ws)) :
   ay X CL b qU ["lists", "boxes", "ways", "named", "names", "tree"] (lB (ks, es, ss, oo, bs, ws)) (lC (ks, es, ss, oo, bs, ws)) := by
 dsimp only [ay, iY, lB, lC] at h ⊢
 obtain ⟨hl, hb, iw⟩ := h
 refine oJ (p := fun _ => true) (gg := fun d => T.sh (Rr d.zc.toNat)) E.g E.CH (dJ .nil (by decide +kernel)) (eB E.cg (ah (bV (aaK ..) E.cJ (aH E.bX) E.cI)) (by omega) E.b9) (.inr rfl) (fun C s0 H0 f0 b' d hd => ?Xd) (abE (eS (by simp [bH]; omega))) ?TV (by exact aaJ rfl) (iP ⟨_, rfl⟩)
 case Xd =>
   obtain ⟨i, hi, rfl⟩ := abg.mp hd
   have M8 : i < bs.length := by simpa using hi
   obtain ⟨q1, q2, _⟩ := z6 i (by omega)
   have ei : (0 + (i : Int)) = (i : Int) := abJ _
   have et : (L3.D.int (0 + (i : Int))).zc.toNat = i := by show (0 + (i : Int)).toNat = i; omega
   refine ⟨rfl, fun _ => bw (cB (aE (jT (ah bO) (ah (Ce E.Np (jf (by decide +kernel)) (ah (v_ (fZ (i := 0) rfl (by decide +kernel)))) ((by rw [ei]; exact q1)))) ((by rw [ei, abe]; show 3 + (toString (i : Int) : Str).length <= _; omega))) (aE (jS (ah (v_ (fZ (i := 0) rfl (by decide +kernel)))) (ah aj)) bS)) (aJ rfl)) ?_⟩
   show T.sh _ = T.sh (Rr (L3.D.int (0 + (i : Int))).zc.toNat)
   rw [et]
   unfold Rr
   rw [ei]
   rfl
 case TV =>
 have Z7 : ((bH 0 (bs.length : Int).toNat).filter fun _ => true).map (fun d => T.sh (Rr d.zc.toNat)) = (nM bs.length).map T.sh := by
   rw [fT]
   unfold bH nM
   rw [abx, abx, abw]
   refine List.map_congr_left fun k _ => ?_
   show T.sh (Rr (0 + (k : Int)).toNat) = _
   rw [show (0 + (k : Int)).toNat = k by omega]
   rfl
 rw [Z7]
 refine oJ (p := fun _ => true) (gg := fun d => T.sh (.str (Rq d.zc.toNat))) E.g E.lA (dJ .nil (by decide +kernel)) (eB E.cg (ah (bV (aaK ..) E.cJ (aP (aH E.bq) (ah aj) rfl) E.cI)) (by omega) E.b9) (.inr rfl) (fun C s0 H0 f0 b' d hd => ?Gf) (abE (eS (by simp [bH]; omega))) ?rest (by exact aaJ rfl) (iP ⟨_, rfl⟩)
 case Gf =>
   obtain ⟨i, hi, rfl⟩ := abg.mp hd
   have M8 : i < es.length := by simpa using hi
   obtain ⟨q1, q2, _⟩ := z6 i (by omega)
   have ei : (0 + (i : Int)) = (i : Int) := abJ _
   have et : (L3.D.int (0 + (i : Int))).zc.toNat = i := by show (0 + (i : Int)).toNat = i; omega
   refine ⟨rfl, fun _ => bw (jT (ah bO) (ah (Ce E.Np (jf (by decide +kernel)) (ah (v_ (fZ (i := 0) rfl (by decide +kernel)))) ((by rw [ei]; exact q1)))) ((by rw [ei, abe]; show 4 + (toString (i : Int) : Str).length <= _; omega))) ?_⟩
   show T.sh _ = T.sh (.str (Rq (L3.D.int (0 + (i : Int))).zc.toNat))
   rw [et]
   unfold Rq
   rw [ei]
   rfl
 case rest =>
 have em : ((bH 0 (es.length : Int).toNat).filter fun _ => true).map (fun d => T.sh (.str (Rq d.zc.toNat))) = ((mP es.length).map L3.D.str).map T.sh := by
   rw [fT]
   unfold bH mP
   rw [abx, abx, abx, abw]
   refine List.map_congr_left fun k _ => ?_
   show T.sh (.str (Rq (0 + (k : Int)).toNat)) = _
   rw [show (0 + (k : Int)).toNat = k by omega]
   rfl
 rw [em]
 refine aO E.g E.cL (bw (Zb (ks, es, ss) E.Qi E.Qh (ai (dN (dg E.fh (aP (aH E.bq) (ah aj) rfl) (jW _) E.fc bZ)) (ai (dN (dg E.fh (aP (aH E.bq) (ah aj) rfl) (dM _) E.fc bZ)) (ai (dN (dg E.fh (aP (aH E.bq) (ah aj) rfl) (dM _) E.fc bZ)) aG))) trivial (qa ks es ss)) (t2 := .ins "Tree" (jM ks es ss)) rfl) ?_
 have Vl : ((mP es.length).map L3.D.str).length = es.length := by simp [mP]
 have Yh : ∀ n : Nat, (List.replicate ((n : Int).toNat) [L3.D.tup []]).flatten = pe n := fun n => by rw [abw]; rfl
 exact aY (Zx (f := "tree") (zq := oS (nM bs.length) ((mP es.length).map .str)) (Eo := oU (pe es.length) (pe es.length) ws) (fun v => (nM bs.length, (mP es.length).map .str, v, pe es.length, pe es.length, ws)) E.Kv E.Ku
   (zu (vL E.CH.1) (zu (vL E.lA.1)
     (Fz (vM E.cL.1)
       (ai (dN (bw (Ci (ds := [.tup []]) (dN (ds := [.tup []]) (eL (gk (cB bS (aJ rfl)) eK) (aJ rfl))) (ah (bV Vl E.cJ (vL E.lA.1) E.cI)) rfl (by omega) (by omega) (by rw [abw, abe]; show 1 * es.length <= _; omega)) (t2 := .lst ((pe es.length).map T.sh)) (by rw [Yh])))
       (ai (dN (bw (Ci (ds := [.tup []]) (dN (ds := [.tup []]) (eL (gk (cB bS (aJ rfl)) eK) (aJ rfl))) (ah (bV Vl E.cJ (vL E.lA.1) E.cI)) rfl (by omega) (by omega) (by rw [abw, abe]; show 1 * es.length <= _; omega)) (t2 := .lst ((pe es.length).map T.sh)) (by rw [Yh])))
       (ai (dN (dg E.fh (aH E.dB) iw E.fc bZ)) aG))))))
   (fun v => rfl) (fun v => ⟨pA _, jW _, iX _, iX _, iw⟩) (fun v => rfl) (vG (pA _) (jW _)) (vH (iX _) (iX _) iw)) rfl
theorem dP : jN (ao qU) ([("lists", au), ("boxes", au), ("ways", au), ("named", au), ("names", au), ("tree", au), ("range", aB), ("len", aB), ("Tree", aB), ("list", aB), ("Chart", aB)]) = true := by decide +kernel
theorem z7 : aK ["lists", "boxes", "ways", "named", "names", "tree"] ["lists", "boxes", "ways"] (ao qU) := aU
abbrev qV : Stmt := top 39
abbrev wB : Type := List Int × List Int
def lD : wB -> List L3.D := fun (l, r) => [.lst (l.map .int), .lst (r.map .int)]
def lE : wB -> Prop := fun (l, r) => True
def lF : wB -> T := fun (l, r) => (.sh (.bl (Im l r)) : T)
structure Kx (X : Cx) (CL : Str -> Addr) : Prop extends ck X where
 d8 : Ln X 0 "one"
 bf : Ln X 1 "other"
 eN : Ln X 2 "mood"
theorem Ky {X : Cx} {CL : Str -> Addr} {b : Bx} (E : Kx X CL) (l r) (h : lE (l, r)) :
   ay X CL b qV ["one", "other", "mood"] (lD (l, r)) (lF (l, r)) := by
 dsimp only [ay, lE, lD, lF] at h ⊢
 show fD X CL b _ _ { nx := _, rt := fun A8 _ => A8 = T.sh (.bl (Im l r)), bk := _, ct := _ }
 refine jU E.g E.eN (fun j δ => ∃ o, (∀ x ∈ l.take j, decide (x ∈ r) = false) /\ δ = [some (.sh (.lst (l.map .int))), some (.sh (.lst (r.map .int))), o])
   (mE (v_ E.d8.1)) ⟨_, fun x hx => by simp at hx, rfl⟩ (fun j δ ⟨_, _, e⟩ => by subst e; exact aaJ rfl) ?turn ?fin
 case turn =>
   rintro j d δ hj ⟨o, rO, rfl⟩
   obtain ⟨x, rfl, hx, Nq, AG, _, _⟩ := A7 hj
   refine fS (ji (aH E.eN) (aH E.bf) rfl rfl).1 (fun hp => ?_) (fun hp => az (az ⟨_, ?_, rfl⟩))
   . refine aY B7 ?_
     rw [show Im l r = true from List.any_eq_true.mpr ⟨x, Nq, hp⟩]
   . intro y hy
     rw [abY, hx] at hy
     rcases aaS.mp hy with hy | hy
     . exact rO y hy
     . have e : y = x := by simpa using hy
       subst e
       exact hp
 case fin =>
   rintro δ ⟨o, rO, rfl⟩
   rw [aaK, List.take_length] at rO
   refine aY B7 ?_
   rw [show Im l r = false from List.any_eq_false.mpr fun x hx => by rw [rO x hx]; decide]
theorem sC : jN (ao qV) ([("one", au), ("other", au), ("mood", au)]) = true := by decide +kernel
theorem z8 : aK ["one", "other", "mood"] ["one", "other"] (ao qV) := aU
abbrev gw : Stmt := top 11
abbrev jw : Type := List L3.D × List L3.D × L3.D × List L3.D × List L3.D × List fH × Int
def fz : jw -> List L3.D := fun (bs, nm, tr, is, os, ws, i) => [oR bs nm tr is os (ws.map d9), .int i]
def cR : jw -> Prop := fun (bs, nm, tr, is, os, ws, i) => 0 <= i /\ i < ws.length
def fB : jw -> T := fun (bs, nm, tr, is, os, ws, i) => (.sh (.bl (F8 ws i)) : T)
structure wC (X : Cx) (CL : Str -> Addr) : Prop extends ck X where
 bY : Ln X 0 "chart"
 kh : Ln X 1 "number"
 sE : Gl X "TARGET"
 sF : ∃ u, X.mg "TARGET" = some (.int 4 u)
 cC : tS X.K (CL "Chart")
 c6 : aV X.K (CL "Chart") "ways"
theorem wF {X : Cx} {CL : Str -> Addr} {b : Bx} (E : wC X CL) (bs nm tr is os ws i) (h : cR (bs, nm, tr, is, os, ws, i)) :
   ay X CL b gw ["chart", "number"] (fz (bs, nm, tr, is, os, ws, i)) (fB (bs, nm, tr, is, os, ws, i)) := by
 dsimp only [ay, cR, fz, fB] at h ⊢
 obtain ⟨h0, h1⟩ := h
 exact aY (uZ (fF (aP (iA E.cC E.c6 (aH E.bY) mH) (aH E.kh) (f6 (f := d9) w0 h0 h1)) (ah (rK E.sF E.sE)) (gf (j := 4) rfl)) (ah (cX (ah aj)))).2 rfl
theorem iF : jN (ao gw) ([("chart", au), ("number", au), ("TARGET", aB)]) = true := by decide +kernel
theorem mq : aK ["chart", "number"] ["chart", "number"] (ao gw) := aU
abbrev qW : Stmt := top 6
abbrev wG : Type := List Str × List Int × List Int × Int
def iZ : wG -> List L3.D := fun (ks, es, ss, m) => [iS ks es ss, .int m]
def gI : wG -> Prop := fun (ks, es, ss, m) => eW es /\ 0 <= m /\ m < es.length /\ es.length <= 1000
def i6 : wG -> T := fun (ks, es, ss, m) => (.lst (((bU es m).map .int).map T.sh) : T)
structure Kz (X : Cx) (CL : Str -> Addr) : Prop extends ck X where
 cL : Ln X 0 "tree"
 eN : Ln X 1 "mood"
 cY : Ln X 2 "found"
 gn : Ln X 3 "elder"
 fj : tS X.K (CL "Tree")
 di : aV X.K (CL "Tree") "elders"
theorem KC {X : Cx} {CL : Str -> Addr} {b : Bx} (E : Kz X CL) (ks es ss m) (h : gI (ks, es, ss, m)) :
   ay X CL b qW ["tree", "mood", "found", "elder"] (iZ (ks, es, ss, m)) (i6 (ks, es, ss, m)) := by
 dsimp only [ay, gI, iZ, i6] at h ⊢
 obtain ⟨ht, h0, h1, hlen⟩ := h
 refine aO E.g E.cY (eL eK (abf _)) ?_
 refine aO E.g E.gn (cK (aP (iA E.fj E.di (aH E.cL) jZ) (aH E.eN) (fG h0 h1)) rfl) ?_
 have hm := ht.at h0 h1
 refine Cd E.g (fun n δ => ∃ (k : Int) (l : List Int), δ = [some (.sh (iS ks es ss)), some (.sh (.int m)), some (.lst ((l.map .int).map T.sh)), some (.sh (.int k))] /\ -1 <= k /\ k < n /\ k < es.length /\ l ++ om n es k = bU es m /\ l.length + n <= es.length + 1) (es.length + 1)
   ⟨es.getD m.toNat 0, [], rfl, hm.1, by omega, by omega, rfl, by simp⟩ ?_
 rintro n δ ⟨k, l, rfl, k0, k1, k2, k3, k4⟩
 refine ⟨_, _, (uZ (aH E.gn) (ah (cX (ah aj)))).1, fun hp => ?_, fun hp => ?_⟩
 . have hk : ¬ k = -1 := by simpa using hp
   have ha := ht.at (k := k) (by omega) k2
   cases n with
   | zero => omega
   | succ n =>
     refine lV E.cY.1 rfl (v_ E.gn.1) rfl (by simp; omega) ?_
     refine aO E.g E.gn (cK (aP (iA E.fj E.di (aH E.cL) jZ) (aH E.gn) (fG (by omega) k2)) rfl) ?_
     refine az ⟨n, Nat.lt_succ_self _, es.getD k.toNat 0, l ++ [k], ?_, ha.1, by omega, by omega, ?_, by simp; omega⟩
     . show [_, _, some (T.lst (((l.map D.int).map T.sh) ++ [T.sh (.int k)])), _] = _
       simp
     . rw [← k3, om, aaE hk, aaG]
       rfl
 . have hk : k = -1 := by simpa using hp
   subst hk
   have e : l = bU es m := by
     rw [← k3]
     cases n with
     | zero => rw [om, abq]
     | succ n => rw [om, aaF rfl, abq]
   subst e
   exact aY (vM E.cY.1) rfl
theorem nO : jN (ao qW) ([("tree", au), ("mood", au), ("found", au), ("elder", au)]) = true := by decide +kernel
theorem z9 : aK ["tree", "mood", "found", "elder"] ["tree", "mood"] (ao qW) := aU
abbrev nP : Stmt := top 7
abbrev sG : Type := List Str × List Int × List Int × Int × Int
def gT : sG -> List L3.D := fun (ks, es, ss, m, o) => [iS ks es ss, .int m, .int o]
def dQ : sG -> Prop := fun (ks, es, ss, m, o) => eW es /\ 0 <= m /\ m < es.length /\ es.length <= 1000
def gU : sG -> T := fun (ks, es, ss, m, o) => (.sh (.bl (decide (o = -1) || decide (o ∈ bU es m))) : T)
structure Gw (X : Cx) (CL : Str -> Addr) : Prop extends ck X where
 cL : Ln X 0 "tree"
 eN : Ln X 1 "mood"
 bf : Ln X 2 "other"
 nQ : Gl X "above"
 wH : Fc X CL "above" 1 2 iZ gI i6
theorem Gy {X : Cx} {CL : Str -> Addr} {b : Bx} (E : Gw X CL) (ks es ss m o) (h : dQ (ks, es, ss, m, o)) :
   ay X CL b nP ["tree", "mood", "other"] (gT (ks, es, ss, m, o)) (gU (ks, es, ss, m, o)) := by
 dsimp only [ay, dQ, gT, gU] at h ⊢
 exact aY (M4 (dw (aH E.bf) (ah (cX (ah aj)))).2 (fun _ => E5 (ji (l := bU es m) (aH E.bf) (dN (c_ (ks, es, ss, m) E.wH E.nQ (ai (aH E.cL) (ai (aH E.eN) aG)) h (bP _))) rfl rfl).2)) rfl
theorem lG : jN (ao nP) ([("tree", au), ("mood", au), ("other", au), ("above", aB)]) = true := by decide +kernel
theorem uI : aK ["tree", "mood", "other"] ["tree", "mood", "other"] (ao nP) := aU
abbrev g7 : Stmt := top 14
abbrev ki : Type := List Str × List Int × List Int × Int × Int
def fN : ki -> List L3.D := fun (ks, es, ss, t, u) => [iS ks es ss, .int t, .int u]
def eG : ki -> Prop := fun (ks, es, ss, t, u) => eW es /\ es.length <= 1000 /\ (-1 <= t /\ t < es.length) /\ -1 <= u /\ u < es.length
def fO : ki -> T := fun (ks, es, ss, t, u) => (.sh (.bl (J1 es t u)) : T)
structure Aa (X : Cx) (CL : Str -> Addr) : Prop extends ck X where
 cL : Ln X 0 "tree"
 d8 : Ln X 1 "one"
 bf : Ln X 2 "other"
 i7 : Gl X "within"
 nR : Fc X CL "within" 2 3 gT dQ gU
theorem Ab {X : Cx} {CL : Str -> Addr} {b : Bx} (E : Aa X CL) (ks es ss t u) (h : eG (ks, es, ss, t, u)) :
   ay X CL b g7 ["tree", "one", "other"] (fN (ks, es, ss, t, u)) (fO (ks, es, ss, t, u)) := by
 dsimp only [ay, eG, fN, fO] at h ⊢
 obtain ⟨ht, hl, ⟨t0, t1⟩, u0, u1⟩ := h
 show fD X CL b _ _ { nx := _, rt := fun A8 _ => A8 = T.sh (.bl (J1 es t u)), bk := _, ct := _ }
 unfold J1
 refine fS (u6 (pV (dw (aH E.d8) (aH E.bf)).1 (fun hb => (pV (dw (aH E.d8) (ah (cX (ah aj)))).1 (fun Z8 => (oA (dw (aH E.bf) (ah (cX (ah aj)))).1)))))) (fun hp => ?_) (fun hp => az ?_)
 . refine aY B7 ?_
   rw [show (decide (t = u) || (decide (t = -1) || decide (u = -1))) = true from hp]
   rfl
 . have hp : (decide (t = u) || (decide (t = -1) || decide (u = -1))) = false := hp
   rw [hp]
   simp only [Bool.or_eq_false_iff, decide_eq_false_iff_not] at hp
   refine aY (M4 (c_ ((ks, es, ss, t, u)) E.nR E.i7 (ai (aH E.cL) (ai (aH E.d8) (ai (aH E.bf) aG))) (by dsimp only [dQ]; exact (⟨ht, by omega, by omega, hl⟩)) rfl) (fun hb => (E5 (c_ ((ks, es, ss, u, t)) E.nR E.i7 (ai (aH E.cL) (ai (aH E.bf) (ai (aH E.d8) aG))) (by dsimp only [dQ]; exact (⟨ht, by omega, by omega, hl⟩)) rfl)))) ?_
   rw [show decide (u = -1) = false from abj hp.2.2, show decide (t = -1) = false from abj hp.2.1]
   rfl
theorem gy : jN (ao g7) ([("tree", au), ("one", au), ("other", au), ("within", aB)]) = true := by decide +kernel
theorem nS : aK ["tree", "one", "other"] ["tree", "one", "other"] (ao g7) := aU
abbrev CJ : Stmt := top 9
abbrev Gz : Type := List Str × List Int × List Int × Int × Int
def qX : Gz -> List L3.D := fun (ks, es, ss, a, c) => [iS ks es ss, .int a, .int c]
def nT : Gz -> Prop := fun (ks, es, ss, a, c) => eW es /\ es.length <= 1000 /\ ks.length = es.length /\ (0 <= a /\ a < es.length) /\ 0 <= c /\ c < es.length
def qY : Gz -> T := fun (ks, es, ss, a, c) => (.sh (.int (m7 (eZ ks) es a c)) : T)
structure TX (X : Cx) (CL : Str -> Addr) : Prop extends ck X where
 cL : Ln X 0 "tree"
 d8 : Ln X 1 "one"
 bf : Ln X 2 "other"
 qZ : Ln X 3 "upper"
 nQ : Gl X "above"
 i7 : Gl X "within"
 wH : Fc X CL "above" 1 2 iZ gI i6
 nR : Fc X CL "within" 2 3 gT dQ gU
 fj : tS X.K (CL "Tree")
 fq : aV X.K (CL "Tree") "kinds"
theorem TY {X : Cx} {CL : Str -> Addr} {b : Bx} (E : TX X CL) (ks es ss a c) (h : nT (ks, es, ss, a, c)) :
   ay X CL b CJ ["tree", "one", "other", "upper"] (qX (ks, es, ss, a, c)) (qY (ks, es, ss, a, c)) := by
 dsimp only [ay, nT, qX, qY] at h ⊢
 obtain ⟨ht, hl, hk, ⟨a0, a1⟩, c0, c1⟩ := h
 refine jU E.g E.qZ (fun j δ => ∃ o, (∀ x ∈ (bU es a).take j, (eZ ks x && decide (x ∈ bU es c)) = false) /\ δ = [some (.sh (iS ks es ss)), some (.sh (.int a)), some (.sh (.int c)), o])
   (mE (vq (c_ (_, _, _, _) E.wH E.nQ (ai (aH E.cL) (ai (aH E.d8) aG)) (by dsimp only [gI]; exact (⟨ht, a0, a1, hl⟩)) (bP _)))) ⟨_, fun x hx => by simp at hx, rfl⟩ (fun j δ ⟨_, _, e⟩ => by subst e; exact Nat.le_of_ble_eq_true rfl) ?turn ?fin
 case turn =>
   rintro j d δ hj ⟨o, rO, rfl⟩
   rw [abn] at hj
   cases hx : (bU es a)[j]? with
   | none => rw [hx] at hj; cases hj
   | some x =>
     rw [hx] at hj
     cases hj
     have Nq : x ∈ bU es a := abu hx
     have Z9 := qB ht a0 a1 Nq
     have AG : j < (bU es a).length := (aa4.mp hx).1
     have Rk : (bU es a).take (j + 1) = (bU es a).take j ++ [x] := by rw [abY, hx]; rfl
     refine fS (u6 (A3 (ow (aP (iA E.fj E.fq (aH E.cL) rR) (aH E.qZ) (f6 Str.empty (by omega) (by omega))) (ah bO)).1 (fun hb => (u9 (yV (c_ (_, _, _, _, _) E.nR E.i7 (ai (aH E.cL) (ai (aH E.bf) (ai (aH E.qZ) aG))) (by dsimp only [dQ]; exact (⟨ht, c0, c1, hl⟩)) rfl)))))) (fun hp => ?_) (fun hp => az (az ⟨_, ?_, rfl⟩))
     . refine aY (v_ E.qZ.1) ?_
       have Xe : (eZ ks x && decide (x ∈ bU es c)) = true := by
         have : decide (x = -1) = false := abj (by omega)
         rw [this, Bool.false_or] at hp
         exact hp
       have : (bU es a).find? (fun x => eZ ks x && decide (x ∈ bU es c)) = some x := by
         have AY : bU es a = (bU es a).take j ++ x :: (bU es a).drop (j + 1) := by
           have h2 := List.take_append_drop j (bU es a)
           rw [acg AG] at h2
           have : (bU es a)[j] = x := (aa4.mp hx).2
           rw [this] at h2
           exact h2.symm
         conv => lhs; rw [AY]
         rw [List.find?_append, ack.mpr (fun y hy => by rw [rO y hy]; decide), List.find?_cons, Xe]
         rfl
       show _ = T.sh (.int (m7 (eZ ks) es a c))
       unfold m7
       rw [this]
       rfl
     . intro y hy
       rw [Rk] at hy
       rcases aaS.mp hy with hy | hy
       . exact rO y hy
       . have e : y = x := by simpa using hy
         subst e
         have : decide (y = -1) = false := abj (by omega)
         rw [this, Bool.false_or] at hp
         exact hp
 case fin =>
   rintro δ ⟨o, rO, rfl⟩
   rw [aaK, List.take_length] at rO
   refine aY (cX (ah aj)) ?_
   show _ = T.sh (.int (m7 (eZ ks) es a c))
   unfold m7
   rw [ack.mpr (fun y hy => by rw [rO y hy]; decide)]
   rfl
theorem pB : jN (ao CJ) ([("tree", au), ("one", au), ("other", au), ("upper", au), ("above", aB), ("within", aB)]) = true := by decide +kernel
theorem GA : aK ["tree", "one", "other", "upper"] ["tree", "one", "other"] (ao CJ) := aU
abbrev lH : Stmt := top 12
abbrev pC : Type := List L3.D × List L3.D × List Str × List Int × List Int × List L3.D × List L3.D × List fH × Int
def g8 : pC -> List L3.D := fun (bs, nm, ks, es, ss, is, os, ws, i) => [oR bs nm (iS ks es ss) is os (ws.map d9), .int i]
def eV : pC -> Prop := fun (bs, nm, ks, es, ss, is, os, ws, i) => eW es /\ es.length <= 1000 /\ ks.length = es.length /\ (0 <= i /\ i < ws.length) /\ (0 <= (j4 ws i).src /\ (j4 ws i).src < es.length) /\ 0 <= (j4 ws i).tgt /\ (j4 ws i).tgt < es.length
def g9 : pC -> T := fun (bs, nm, ks, es, ss, is, os, ws, i) => (.sh (.int (AF ks es (j4 ws i))) : T)
structure DN (X : Cx) (CL : Str -> Addr) : Prop extends ck X where
 bY : Ln X 0 "chart"
 kh : Ln X 1 "number"
 ko : Ln X 2 "way"
 GB : Gl X "top"
 GC : Gl X "SOURCE"
 sE : Gl X "TARGET"
 T3 : Fc X CL "top" 3 3 qX nT qY
 GD : ∃ u, X.mg "SOURCE" = some (.int 0 u)
 sF : ∃ u, X.mg "TARGET" = some (.int 4 u)
 cC : tS X.K (CL "Chart")
 c6 : aV X.K (CL "Chart") "ways"
 cZ : aV X.K (CL "Chart") "tree"
theorem DP {X : Cx} {CL : Str -> Addr} {b : Bx} (E : DN X CL) (bs nm ks es ss is os ws i) (h : eV (bs, nm, ks, es, ss, is, os, ws, i)) :
   ay X CL b lH ["chart", "number", "way"] (g8 (bs, nm, ks, es, ss, is, os, ws, i)) (g9 (bs, nm, ks, es, ss, is, os, ws, i)) := by
 dsimp only [ay, eV, g8, g9] at h ⊢
 obtain ⟨ht, hl, hk, ⟨i0, i1⟩, hs, ht2⟩ := h
 refine aO E.g E.ko (bw (O1 (Fj E.cC E.c6 (v_ E.bY.1) mH) (aH E.kh) (f6 (f := d9) w0 i0 i1)) (t2 := .sh (d9 (j4 ws i))) rfl) ?_
 exact aY (c_ (ks, es, ss, (j4 ws i).src, (j4 ws i).tgt) E.T3 E.GB (ai (iA E.cC E.cZ (aH E.bY) mG) (ai (fF (aH E.ko) (ah (rK E.GD E.GC)) (gf (j := 0) rfl)) (ai (fF (aH E.ko) (ah (rK E.sF E.sE)) (gf (j := 4) rfl)) aG))) (by dsimp only [nT]; exact ⟨ht, hl, hk, hs, ht2⟩) rfl) rfl
theorem fK : jN (ao lH) ([("chart", au), ("number", au), ("way", au), ("top", aB), ("SOURCE", aB), ("TARGET", aB)]) = true := by decide +kernel
theorem sH : aK ["chart", "number", "way"] ["chart", "number"] (ao lH) := aU
abbrev wI : Stmt := top 13
abbrev Bq : Type := List L3.D × List L3.D × List Str × List Int × List Int × List L3.D × List L3.D × List fH × Int × Int
def nU : Bq -> List L3.D := fun (bs, nm, ks, es, ss, is, os, ws, i, j) => [oR bs nm (iS ks es ss) is os (ws.map d9), .int i, .int j]
def i9 : Bq -> Prop := fun (bs, nm, ks, es, ss, is, os, ws, i, j) => eW es /\ es.length <= 1000 /\ ks.length = es.length /\ (0 <= i /\ i < ws.length) /\ (0 <= j /\ j < ws.length) /\ ∀ w ∈ ws, (0 <= w.src /\ w.src < es.length) /\ -1 <= w.tgt /\ w.tgt < es.length
def nV : Bq -> T := fun (bs, nm, ks, es, ss, is, os, ws, i, j) => (.sh (.bl (Es ks es (j4 ws i) (j4 ws j))) : T)
structure Qj (X : Cx) (CL : Str -> Addr) : Prop extends ck X where
 bY : Ln X 0 "chart"
 d8 : Ln X 1 "one"
 bf : Ln X 2 "other"
 gA : Gl X "has_target"
 kr : Gl X "tops_meet"
 lI : Gl X "way_top"
 nW : Fc X CL "has_target" 1 2 fz cR fB
 Ac : Fc X CL "tops_meet" 3 3 fN eG fO
 uJ : Fc X CL "way_top" 4 2 g8 eV g9
 cC : tS X.K (CL "Chart")
 cZ : aV X.K (CL "Chart") "tree"
theorem Qk {X : Cx} {CL : Str -> Addr} {b : Bx} (E : Qj X CL) (bs nm ks es ss is os ws i j) (h : i9 (bs, nm, ks, es, ss, is, os, ws, i, j)) :
   ay X CL b wI ["chart", "one", "other"] (nU (bs, nm, ks, es, ss, is, os, ws, i, j)) (nV (bs, nm, ks, es, ss, is, os, ws, i, j)) := by
 dsimp only [ay, i9, nU, nV] at h ⊢
 obtain ⟨ht, hl, hk, ⟨i0, i1⟩, ⟨j0, j1⟩, hw⟩ := h
 obtain ⟨Yi, wi1⟩ := hw _ (qD i0 i1)
 obtain ⟨Yj, wj1⟩ := hw _ (qD j0 j1)
 have tI : ∀ {w : fH}, (0 <= w.src /\ w.src < es.length) -> -1 <= AF ks es w /\ AF ks es w < es.length := fun {w} hs => by
   rcases r9 (uC := eZ ks) (es := es) (a := w.src) (c := w.tgt) with z | z
   . unfold AF; rw [z]; omega
   . have := qB ht hs.1 hs.2 z
     unfold AF
     omega
 show fD X CL b _ _ { nx := _, rt := fun A8 _ => A8 = T.sh (.bl (Es ks es (j4 ws i) (j4 ws j))), bk := _, ct := _ }
 unfold Es
 refine fS (u6 (pV (u5 (yV (c_ ((bs, nm, iS ks es ss, is, os, ws, i)) E.nW E.gA (ai (aH E.bY) (ai (aH E.d8) aG)) (by dsimp only [cR]; exact (⟨i0, i1⟩)) rfl))) (fun hb => (oA (u5 (yV (c_ ((bs, nm, iS ks es ss, is, os, ws, j)) E.nW E.gA (ai (aH E.bY) (ai (aH E.bf) aG)) (by dsimp only [cR]; exact (⟨j0, j1⟩)) rfl))))))) (fun hp => ?_) (fun hp => az ?_)
 . have hp : (!F8 ws i || !F8 ws j) = true := hp
   refine aY B7 ?_
   have hb : ∀ x y : Bool, (!x || !y) = true -> (x && y) = false := by decide
   rw [show ((!decide ((j4 ws i).tgt = -1)) && !decide ((j4 ws j).tgt = -1)) = false from hb _ _ hp]
   rfl
 . have hp : (!F8 ws i || !F8 ws j) = false := hp
   have WW : ∀ x y : Bool, (!x || !y) = false -> (x && y) = true := by decide
   have hb : ((!decide ((j4 ws i).tgt = -1)) && !decide ((j4 ws j).tgt = -1)) = true := WW _ _ hp
   rw [hb]
   simp only [abt, Bool.not_eq_true', decide_eq_false_iff_not] at hb
   exact aY (c_ (ks, es, ss, AF ks es (j4 ws i), AF ks es (j4 ws j)) E.Ac E.kr (ai (iA E.cC E.cZ (aH E.bY) mG) (ai (ah (c_ ((bs, nm, ks, es, ss, is, os, ws, i)) E.uJ E.lI (ai (aH E.bY) (ai (aH E.d8) aG)) (by dsimp only [eV]; exact (⟨ht, hl, hk, ⟨i0, i1⟩, Yi, by omega, by omega⟩)) rfl)) (ai (ah (c_ ((bs, nm, ks, es, ss, is, os, ws, j)) E.uJ E.lI (ai (aH E.bY) (ai (aH E.bf) aG)) (by dsimp only [eV]; exact (⟨ht, hl, hk, ⟨j0, j1⟩, Yj, by omega, by omega⟩)) rfl)) aG))) (by dsimp only [eG]; exact ⟨ht, hl, tI Yi, tI Yj⟩) rfl) rfl
theorem lJ : jN (ao wI) ([("chart", au), ("one", au), ("other", au), ("has_target", aB), ("tops_meet", aB), ("way_top", aB)]) = true := by decide +kernel
theorem CK : aK ["chart", "one", "other"] ["chart", "one", "other"] (ao wI) := aU
abbrev nX : Stmt := top 35
abbrev sJ : Type := List L3.D × List L3.D × List Str × List Int × List Int × List Int × List L3.D × List L3.D × List L3.D
def jx : sJ -> List L3.D := fun (bs, nm, ks, es, ss, oo, is, os, ws) => [oR bs nm (iS ks es ss) is os ws, ng ks es ss oo, .lst ws]
def gW : sJ -> Prop := fun (bs, nm, ks, es, ss, oo, is, os, ws) => (∀ x ∈ ks, PyData.strOk x = true) /\ iz 60 (.lst ws)
def jy : sJ -> T := fun (bs, nm, ks, es, ss, oo, is, os, ws) => (.sh (.bl true) : T)
structure GF (X : Cx) (CL : Str -> Addr) : Prop extends ck X where
 bY : Ln X 0 "chart"
 bq : Ln X 1 "lists"
 dB : Ln X 2 "ways"
 cL : Ln X 3 "tree"
 cC : tS X.K (CL "Chart")
 fj : tS X.K (CL "Tree")
 cZ : aV X.K (CL "Chart") "tree"
 c6 : aV X.K (CL "Chart") "ways"
 fq : aV X.K (CL "Tree") "kinds"
 di : aV X.K (CL "Tree") "elders"
 iE : aV X.K (CL "Tree") "starts"
theorem GH {X : Cx} {CL : Str -> Addr} {b : Bx} (E : GF X CL) (bs nm ks es ss oo is os ws) (h : gW (bs, nm, ks, es, ss, oo, is, os, ws)) :
   ay X CL b nX ["chart", "lists", "ways", "tree"] (jx (bs, nm, ks, es, ss, oo, is, os, ws)) (jy (bs, nm, ks, es, ss, oo, is, os, ws)) := by
 dsimp only [ay, gW, jx, jy] at h ⊢
 obtain ⟨hk, hw⟩ := h
 refine aO E.g E.cL (Fj E.cC E.cZ (v_ E.bY.1) mG) ?_
 have e1 : ∀ l : List Int, Dq (.lst (l.map L3.D.int)) (.lst (l.map L3.D.int)) = true := fun l => mV (fU l)
 refine fS (u6 (pV (vh E.u (iA E.fj E.fq (aH E.cL) rR) (aP (aH E.bq) (ah aj) rfl) (PF 59 hk) (PF 59 hk)).1 (fun hb => (pV (vh E.u (iA E.fj E.di (aH E.cL) jZ) (aP (aH E.bq) (ah aj) rfl) (fU _) (fU _)).1 (fun Z8 => (oA (vh E.u (iA E.fj E.iE (aH E.cL) zH) (aP (aH E.bq) (ah aj) rfl) (fU _) (fU _)).1)))))) (fun hp => ?_) (fun _ => az ?_)
 . rw [mV (PF 59 hk), e1, e1] at hp
   cases hp
 . refine aY (Pj E.u (iA E.cC E.c6 (aH E.bY) mH) (aH E.dB) hw hw).2 ?_
   rw [mV hw]
theorem lK : jN (ao nX) ([("chart", au), ("lists", au), ("ways", au), ("tree", au)]) = true := by decide +kernel
theorem uK : aK ["chart", "lists", "ways", "tree"] ["chart", "lists", "ways"] (ao nX) := aU
abbrev lM : Stmt := top 37
abbrev pD : Type := List Int × Int
def ia : pD -> List L3.D := fun (es, m) => [.lst (es.map .int), .int m]
def fV : pD -> Prop := fun (es, m) => eW es /\ es.length <= 1000
def ic : pD -> T := fun (es, m) => (.lst (((Ep es m).map .int).map T.sh) : T)
structure DQ (X : Cx) (CL : Str -> Addr) : Prop extends ck X where
 bF : Ln X 0 "elders"
 eN : Ln X 1 "mood"
 cY : Ln X 2 "found"
 jl : Ln X 3 "k"
 b9 : Gl X "range"
 cI : Gl X "len"
 dZ : Gl X "_law_chain"
 cg : X.mg "range" = none
 cJ : X.mg "len" = none
 kO : Fc X CL "_law_chain" 1 2 gG dY gH
theorem DR {X : Cx} {CL : Str -> Addr} {b : Bx} (E : DQ X CL) (es m) (h : fV (es, m)) :
   ay X CL b lM ["elders", "mood", "found", "k"] (ia (es, m)) (ic (es, m)) := by
 dsimp only [ay, fV, ia, ic] at h ⊢
 obtain ⟨ht, hl⟩ := h
 refine aO E.g E.cY (eL eK (abf _)) ?_
 have hlen : ∀ j, ((((List.range j).filter (fun (i : Nat) => decide (m = -1) || decide (m ∈ bU es i))).map (fun (i : Nat) => (i : Int)))).length <= j := fun j => by
   rw [aaK]
   have := List.length_filter_le (fun (i : Nat) => decide (m = -1) || decide (m ∈ bU es i)) (List.range j)
   rw [List.length_range] at this
   exact this
 refine jU E.g E.jl (fun j δ => ∃ o, δ = [some (.sh (.lst (es.map .int))), some (.sh (.int m)), some (.lst (((((List.range j).filter (fun (i : Nat) => decide (m = -1) || decide (m ∈ bU es i))).map (fun (i : Nat) => (i : Int))).map .int).map T.sh)), o])
   (eB E.cg (ah (bV (aaK ..) E.cJ (aH E.bF) E.cI)) (by omega) E.b9) ⟨_, rfl⟩ (fun j δ ⟨_, e⟩ => by subst e; exact aaJ rfl) ?turn ?fin
 case turn =>
   rintro j d δ hj ⟨o, rfl⟩
   obtain ⟨rfl, AG⟩ := gQ hj
   have AG : j < es.length := by simpa using AG
   rw [abJ]
   have hlj := hlen j
   have er : (List.range (j + 1)).filter (fun (i : Nat) => decide (m = -1) || decide (m ∈ bU es i)) = (List.range j).filter (fun (i : Nat) => decide (m = -1) || decide (m ∈ bU es i)) ++ (if (decide (m = -1) || decide (m ∈ bU es j)) = true then [j] else []) := by
     rw [aci, List.filter_append, List.filter_cons, List.filter_nil]
   rw [er]
   generalize (List.range j).filter (fun (i : Nat) => decide (m = -1) || decide (m ∈ bU es i)) = fl at hlj ⊢
   refine fS (u6 (pV (dw (aH E.eN) (ah (cX (ah aj)))).1 (fun hb => (oA (ji (aH E.eN) (dN (c_ ((es, (j : Int))) E.kO E.dZ (ai (aH E.bF) (ai (aH E.jl) aG)) (by dsimp only [dY]; exact (⟨ht, by omega, by omega, hl⟩)) (bP _))) rfl rfl).1)))) (fun hp => ?_) (fun hp => az (az ?_))
   . have hp : (decide (m = -1) || decide (m ∈ bU es j)) = true := hp
     refine lV E.cY.1 rfl (v_ E.jl.1) rfl (by rw [aaK, aaK]; omega) (az (az ?_))
     rw [aaF hp, show ((fl.map (fun (i : Nat) => (i : Int))).map L3.D.int).map T.sh ++ [T.sh (.int (j : Int))] = (((fl ++ [j]).map (fun (i : Nat) => (i : Int))).map L3.D.int).map T.sh by simp]
     exact ⟨_, rfl⟩
   . have hp : (decide (m = -1) || decide (m ∈ bU es j)) = false := hp
     rw [aaE (by rw [hp]; decide), abq]
     exact ⟨_, rfl⟩
 case fin =>
   rintro δ ⟨o, rfl⟩
   refine aY (vM E.cY.1) ?_
   have e : (bH 0 (es.length : Int).toNat).length = es.length := by simp [bH]
   rw [e]
   rfl
theorem eO : jN (ao lM) ([("elders", au), ("mood", au), ("found", au), ("k", au), ("range", aB), ("len", aB), ("_law_chain", aB)]) = true := by decide +kernel
theorem sL : aK ["elders", "mood", "found", "k"] ["elders", "mood"] (ao lM) := aU
abbrev nY : Stmt := top 36
abbrev sM : Type := List Str × List Int × List Int × List Int × fH
def jz : sM -> List L3.D := fun (ks, es, ss, oo, w) => [ng ks es ss oo, d9 w]
def gX : sM -> Prop := fun (ks, es, ss, oo, w) => eW es /\ es.length <= 1000 /\ ks.length = es.length /\ (0 <= w.src /\ w.src < es.length) /\ 0 <= w.tgt /\ w.tgt < es.length
def jA : sM -> T := fun (ks, es, ss, oo, w) => (.sh (.int (m7 (eZ ks) es w.src w.tgt)) : T)
structure GJ (X : Cx) (CL : Str -> Addr) : Prop extends ck X where
 bq : Ln X 0 "lists"
 ko : Ln X 1 "way"
 Ad : Ln X 2 "shared"
 KD : Ln X 3 "up"
 dZ : Gl X "_law_chain"
 kO : Fc X CL "_law_chain" 1 2 gG dY gH
theorem GK {X : Cx} {CL : Str -> Addr} {b : Bx} (E : GJ X CL) (ks es ss oo w) (h : gX (ks, es, ss, oo, w)) :
   ay X CL b nY ["lists", "way", "shared", "up"] (jz (ks, es, ss, oo, w)) (jA (ks, es, ss, oo, w)) := by
 dsimp only [ay, gX, jz, jA] at h ⊢
 obtain ⟨ht, hl, hk, ⟨a0, a1⟩, c0, c1⟩ := h
 refine aO E.g E.Ad (bw (c_ ((es, w.tgt)) E.kO E.dZ (ai (aP (aH E.bq) (ah aj) rfl) (ai (fF (aH E.ko) (ah aj) (gf (j := 4) rfl)) aG)) (by dsimp only [dY]; exact (⟨ht, c0, c1, hl⟩)) (bP _)) (t2 := .lst (((bU es w.tgt).map .int).map T.sh)) rfl) ?_
 refine jU E.g E.KD (fun j δ => ∃ o, (∀ x ∈ (bU es w.src).take j, (eZ ks x && decide (x ∈ bU es w.tgt)) = false) /\ δ = [some (.sh (ng ks es ss oo)), some (.sh (d9 w)), some (.lst (((bU es w.tgt).map .int).map T.sh)), o])
   (mE (vq (bw (c_ ((es, w.src)) E.kO E.dZ (ai (aP (aH E.bq) (ah aj) rfl) (ai (fF (aH E.ko) (ah aj) (gf (j := 0) rfl)) aG)) (by dsimp only [dY]; exact (⟨ht, a0, a1, hl⟩)) (bP _)) (t2 := .lst (((bU es w.src).map .int).map T.sh)) rfl))) ⟨_, fun x hx => by simp at hx, rfl⟩ (fun j δ ⟨_, _, e⟩ => by subst e; exact Nat.le_of_ble_eq_true rfl) ?turn ?fin
 case turn =>
   rintro j d δ hj ⟨o, rO, rfl⟩
   obtain ⟨x, rfl, hx, Nq, AG, _, _⟩ := A7 hj
   have Z9 := qB ht a0 a1 Nq
   have Rk : (bU es w.src).take (j + 1) = (bU es w.src).take j ++ [x] := by rw [abY, hx]; rfl
   refine fS (u6 (A3 (ow (aP (aP (aH E.bq) (ah aj) rfl) (aH E.KD) (f6 Str.empty (by omega) (by omega))) (ah bO)).1 (fun hb => (u9 (ji (aH E.KD) (vL E.Ad.1) rfl rfl).1)))) (fun hp => ?_) (fun hp => az (az ⟨_, ?_, rfl⟩))
   . refine aY (v_ E.KD.1) ?_
     have Xe : (eZ ks x && decide (x ∈ bU es w.tgt)) = true := hp
     have : (bU es w.src).find? (fun x => eZ ks x && decide (x ∈ bU es w.tgt)) = some x := by
       have AY : bU es w.src = (bU es w.src).take j ++ x :: (bU es w.src).drop (j + 1) := by
         have h2 := List.take_append_drop j (bU es w.src)
         have Xf : j < (bU es w.src).length := (aa4.mp hx).1
         rw [acg Xf] at h2
         have : (bU es w.src)[j] = x := (aa4.mp hx).2
         rw [this] at h2
         exact h2.symm
       conv => lhs; rw [AY]
       rw [List.find?_append, ack.mpr (fun y hy => by rw [rO y hy]; decide), List.find?_cons, Xe]
       rfl
     unfold m7
     rw [this]
     rfl
   . intro y hy
     rw [Rk] at hy
     rcases aaS.mp hy with hy | hy
     . exact rO y hy
     . have e : y = x := by simpa using hy
       subst e
       exact hp
 case fin =>
   rintro δ ⟨o, rO, rfl⟩
   rw [aaK, List.take_length] at rO
   refine aY (cX (ah aj)) ?_
   unfold m7
   rw [ack.mpr (fun y hy => by rw [rO y hy]; decide)]
   rfl
theorem ja : jN (ao nY) ([("lists", au), ("way", au), ("shared", au), ("up", au), ("_law_chain", aB)]) = true := by decide +kernel
theorem uL : aK ["lists", "way", "shared", "up"] ["lists", "way"] (ao nY) := aU
abbrev wJ : Stmt := top 38
abbrev Br : Type := List Str × List Int × List Int × List Int × fH
def n5 : Br -> List L3.D := fun (ks, es, ss, oo, w) => [ng ks es ss oo, d9 w]
def ku : Br -> Prop := fun (ks, es, ss, oo, w) => eW es /\ es.length <= 1000 /\ ks.length = es.length /\ (0 <= w.src /\ w.src < es.length) /\ -1 <= w.tgt /\ w.tgt < es.length
def n6 : Br -> T := fun (ks, es, ss, oo, w) => (.lst (((FI ks es w.src w.tgt).map .int).map T.sh) : T)
structure Ql (X : Cx) (CL : Str -> Addr) : Prop extends ck X where
 bq : Ln X 0 "lists"
 ko : Ln X 1 "way"
 sN : Gl X "_law_beneath"
 Bs : Gl X "_law_top"
 DS : Fc X CL "_law_beneath" 2 2 ia fV ic
 GL : Fc X CL "_law_top" 2 2 jz gX jA
theorem Qm {X : Cx} {CL : Str -> Addr} {b : Bx} (E : Ql X CL) (ks es ss oo w) (h : ku (ks, es, ss, oo, w)) :
   ay X CL b wJ ["lists", "way"] (n5 (ks, es, ss, oo, w)) (n6 (ks, es, ss, oo, w)) := by
 dsimp only [ay, ku, n5, n6] at h ⊢
 obtain ⟨ht, hl, hk, hs, t0, t1⟩ := h
 show fD X CL b _ _ { nx := _, rt := fun A8 _ => A8 = T.lst (((FI ks es w.src w.tgt).map .int).map T.sh), bk := _, ct := _ }
 unfold FI
 refine fS (dw (fF (aH E.ko) (ah aj) (gf (j := 4) rfl)) (ah (cX (ah aj)))).1 (fun hp => ?_) (fun hp => az ?_)
 . rw [aaF (aa2 hp)]
   exact aY (eL eK (abf _)) rfl
 . have hp := aaV hp
   rw [aaE hp]
   exact aY (bw (c_ (es, m7 (eZ ks) es w.src w.tgt) E.DS E.sN (ai (aP (aH E.bq) (ah aj) rfl) (ai (ah (c_ (ks, es, ss, oo, w) E.GL E.Bs (ai (aH E.bq) (ai (aH E.ko) aG)) (by dsimp only [gX]; exact ⟨ht, hl, hk, hs, by omega, t1⟩) rfl)) aG)) (by dsimp only [fV]; exact ⟨ht, hl⟩) (bP _)) rfl) rfl
theorem q8 : jN (ao wJ) ([("lists", au), ("way", au), ("_law_beneath", aB), ("_law_top", aB)]) = true := by decide +kernel
theorem CM : aK ["lists", "way"] ["lists", "way"] (ao wJ) := aU
def Xg (ks : List Str) (es : List Int) (d : L3.D) : T := .lst (((FI ks es d.XS.zc (W3 d)).map .int).map T.sh)
def Qn (ks : List Str) (es : List Int) (w : fH) : L3.D := .lst ((FI ks es w.src w.tgt).map .int)
theorem Qo (ks : List Str) (es : List Int) (ws : List fH) : T.cW (.lst ((ws.map d9).map (Xg ks es))) = .lst (ws.map (Qn ks es)) := by
 rw [T.cW]
 congr 1
 induction ws with
 | nil => rfl
 | cons w ws ih =>
   rw [aa8, aa8, T.fW, ih, aa8]
   congr 1
   exact dF _
abbrev CN : Stmt := top 40
abbrev GN : Type := List Int
def lN : GN -> List L3.D := fun a => [.lst (a.map .int)]
def lO : GN -> Prop := fun a => a.length <= 63
def lP : GN -> T := fun a => (.sh (.bl true) : T)
structure T4 (X : Cx) (CL : Str -> Addr) : Prop extends ck X where
 aZ : Ln X 0 "script"
 bq : Ln X 1 "lists"
 wK : X.env.kindOf "lists" = some .cell
 bN : Ln X 2 "opens"
 bX : Ln X 3 "boxes"
 gq : Ln X 4 "three"
 dB : Ln X 5 "ways"
 bY : Ln X 6 "chart"
 wL : Ln X 7 "spans"
 jl : Ln X 8 "k"
 bf : Ln X 9 "other"
 Ae : Ln X 10 "due"
 cY : Ln X 11 "found"
 sO : Ln X 12 "turned"
 wM : Gl X "_law_lists"
 wN : Gl X "_law_opens"
 wO : Gl X "_law_boxes"
 wQ : Gl X "_law_signs"
 Af : Gl X "_law_ways"
 cI : Gl X "len"
 wR : Gl X "_law_chart"
 b9 : Gl X "range"
 bu : Gl X "_law_mixed"
 aR : Gl X "_law_cell_at"
 wU : Gl X "_law_share"
 wV : Gl X "meet"
 n8 : Gl X "isinstance"
 g_bool : Gl X "bool"
 ud : Gl X "_law_stayed"
 KG : Fc X CL "_law_lists" 3 1 kP kQ kR
 KH : Fc X CL "_law_opens" 1 1 kT iU kU
 KJ : Fc X CL "_law_boxes" 2 1 kW kX kY
 KL : Fc X CL "_law_signs" 2 1 k6 k7 k8
 pF : Fc X CL "_law_ways" 4 5 nJ j6 nK
 cJ : X.mg "len" = none
 KN : Fc X CL "_law_chart" 3 3 lB iY lC
 cg : X.mg "range" = none
 d7 : Fc X CL "_law_mixed" 1 2 dU dW dX
 bW : Fc X CL "_law_cell_at" 1 2 cT cU cV
 KP : Fc X CL "_law_share" 1 2 lD lE lF
 GO : Fc X CL "meet" 5 3 nU i9 nV
 n9 : X.mg "isinstance" = none
 GP : X.mg "bool" = none
 GQ : Fc X CL "_law_stayed" 1 3 jx gW jy
 Qp : Fc X CL "_law_span" 3 2 n5 ku n6
theorem T5 {X : Cx} {CL : Str -> Addr} {b : Bx} (E : T4 X CL) (a) (h : lO a) :
   ay X CL b CN ["script", "lists", "opens", "boxes", "three", "ways", "chart", "spans", "k", "other", "due", "found", "turned"] (lN a) (lP a) := by
 dsimp only [ay, lO, lN, lP] at h ⊢
 have hs : a.length <= 1000 := by omega
 refine aO E.g E.bq (bw (c_ a E.KG E.wM (ai (aH E.aZ) aG) hs (by
   show T.clean (qd _ _ _ _) = true
   unfold qd
   rw [gF, T.dH, T.dH, T.dH, T.dH, T.dH, bE (jW _), bE (dM _), bE (dM _), bE (dM _)]
   rfl)) (t2 := qd (m9 a (gY a) (gY a).length) (gY a) (rW a (gY a) (gY a).length) (oV a (gY a) (gY a).length)) rfl) ?_
 obtain ⟨n1, n2, qk⟩ := Cp a
 generalize gY a = es at n1 n2 qk ⊢
 have Yk : ∀ x ∈ m9 a es es.length, PyData.strOk x = true := fun x hx => by
   obtain ⟨k, _, rfl⟩ := abg.mp hx
   exact P1 _ _ _
 have T6 : (oV a es es.length).length = es.length := by simp [oV]
 have T7 : (m9 a es es.length).length = es.length := by simp [m9]
 generalize m9 a es es.length = ks at Yk T7 ⊢
 generalize rW a es es.length = ss
 generalize oV a es es.length = oo at T6 ⊢
 have T8 := F0 ks es ss oo
 refine aO E.g E.bN (bw (c_ (ks, es, ss, oo) E.KH E.wN (ai (vE E.bq.1 rfl T8) aG) (by dsimp only [iU]; exact ⟨n1, by omega, T6, qk.1⟩) (bP _)) (t2 := .lst (((uE es oo (es.length - 1)).map .int).map T.sh)) rfl) ?_
 have Rp := (vO (es := es) (os := oo) (es.length - 1)).1
 have JZ : ∀ x ∈ uE es oo (es.length - 1), 0 <= x /\ x < es.length := fun x hx => by
   have := qC _ hx
   omega
 generalize uE es oo (es.length - 1) = ops at Rp JZ ⊢
 refine aO E.g E.bX (bw (c_ (a) E.KJ E.wO (ai (aH E.aZ) aG) (hs) (bP _)) (t2 := .lst (((Rn a).map .int).map T.sh)) rfl) ?_
 have Vj := JT a
 generalize Rn a = bs at Vj ⊢
 refine aO E.g E.gq (bw (c_ (a) E.KL E.wQ (ai (aH E.aZ) aG) (hs) (rS _)) (t2 := .lst (((JV a).map .str).map T.sh)) rfl) ?_
 have h3 := JW a
 have c7 := P4 a
 generalize JV a = th at h3 c7 ⊢
 obtain ⟨wl, wo⟩ := F7 (s := a) (bs := bs) n1 Rp JZ c7 h3
 have Qq : ni es.length bs (r6 a ops es.length bs th) := ⟨by omega, wo⟩
 refine aO E.g E.dB (bw (c_ (a, ops, es.length, bs, th) E.pF E.Af (ai (aH E.aZ) (ai (vL E.bN.1) (ai (ah (bV (List.length_map ..) E.cJ (aP (vE E.bq.1 rfl T8) (ah aj) rfl) E.cI)) (ai (vL E.bX.1) (ai (vL E.gq.1) aG))))) (by dsimp only [j6]; exact ⟨h, n1, Rp, by omega, h3, JZ, c7⟩) (by exact bE Qq.bM)) (t2 := .lst (((r6 a ops es.length bs th).map d9).map T.sh)) rfl) ?_
 generalize r6 a ops es.length bs th = ws at Qq ⊢
 have iw := Qq.bM
 refine aO E.g E.bY (bw (c_ (ks, es, ss, oo, bs, ws.map d9) E.KN E.wR (ai (vE E.bq.1 rfl T8) (ai (vL E.bX.1) (ai (vL E.dB.1) aG))) (by dsimp only [iY]; exact ⟨by omega, by omega, iw⟩) (by
   show T.aW (f7 _ _ _ _ _ _) = true
   exact wu (pA _) (jW _) (qa ks es ss) (iX _) (iX _) iw)) (t2 := .ins "Chart" (f7 (nM bs.length) ((mP es.length).map .str) (.ins "Tree" (jM ks es ss)) (pe es.length) (pe es.length) (ws.map d9))) rfl) ?_
 have Xh : T.cW (.ins "Chart" (f7 (nM bs.length) ((mP es.length).map .str) (.ins "Tree" (jM ks es ss)) (pe es.length) (pe es.length) (ws.map d9))) = oR (nM bs.length) ((mP es.length).map .str) (iS ks es ss) (pe es.length) (pe es.length) (ws.map d9) := by
   rw [Bc, DG]
 have MS : (ws.map d9).length = ws.length := by simp
 have ht := qk.1
 have Vf : ks.length = es.length := T7
 have vf : ∀ w ∈ ws, (0 <= w.src /\ w.src < es.length) /\ -1 <= w.tgt /\ w.tgt < es.length := fun w hw => ⟨(Qq.2 w hw).src, (Qq.2 w hw).tgt⟩
 have hws := Qq.1
 refine oJ (p := fun _ => true) (gg := Xg ks es) E.g E.wL (dJ (.cons E.bq.1 (.inl E.wK) .nil) (by decide +kernel)) (mE (Y3 E.dB.1 rfl)) (.inl ⟨rfl, fun d hd => bP _⟩) (fun C s0 H0 f0 b' d hd => ?Gf) (abE (eS (by rw [MS]; omega))) ?rest (by exact aaJ rfl) (iP ⟨_, rfl⟩)
 case Gf =>
   obtain ⟨w, hw, rfl⟩ := abg.mp hd
   obtain ⟨hs1, N7⟩ := vf w hw
   exact ⟨rfl, fun _ => bw (c_ (ks, es, ss, oo, w) (mU E.Qp) (jf (by decide +kernel)) (ai (Nb (ah (v_ (gP (i := 1) rfl (by decide +kernel)))) T8) (ai (ah (v_ (fZ (i := 0) rfl (by decide +kernel)))) aG)) (by dsimp only [ku]; exact ⟨ht, by omega, Vf, hs1, N7⟩) (bP _)) rfl⟩
 case rest =>
 rw [fT]
 have Xi := Qo ks es ws
 generalize AY : T.lst ((ws.map d9).map (Xg ks es)) = T9 at Xi ⊢
 refine jU E.g E.jl (fun j δ => ∃ o8 o9 Qs Qt Qu, δ = [some (.sh (.lst (a.map .int))), some (qd ks es ss oo), some (.lst ((ops.map .int).map T.sh)), some (.lst ((bs.map .int).map T.sh)), some (.lst ((th.map .str).map T.sh)), some (.sh (.lst (ws.map d9))), some (.ins "Chart" (f7 (nM bs.length) ((mP es.length).map .str) (.ins "Tree" (jM ks es ss)) (pe es.length) (pe es.length) (ws.map d9))), some T9, o8, o9, Qs, Qt, Qu])
   (eB E.cg (ah (bV MS E.cJ (aH E.dB) E.cI)) (by omega) E.b9) ⟨_, _, _, _, _, rfl⟩ (fun j δ ⟨_, _, _, _, _, e⟩ => by subst e; exact aaJ rfl) ?turn ?fin
 case turn =>
   rintro j d δ hj ⟨o8, o9, Qs, Qt, Qu, rfl⟩
   obtain ⟨rfl, AG⟩ := gQ hj
   have AG : j < ws.length := by simpa using AG
   rw [abJ]
   have x0 := aaU ((j : Int) + 1) (b := (ws.length : Int)) (by omega)
   have x1 := aaQ ((j : Int) + 1) (b := (ws.length : Int)) (by omega)
   have y0 := aaU (b8 (bI a (j : Int)) 19) (b := (ws.length : Int)) (by omega)
   have y1 := aaQ (b8 (bI a (j : Int)) 19) (b := (ws.length : Int)) (by omega)
   have W4 : ∀ x ∈ [(j : Int), ((j : Int) + 1) % (ws.length : Int), b8 (bI a (j : Int)) 19 % (ws.length : Int)], 0 <= x /\ x < ws.length := fun x hx => by
     simp only [aaH, abO, or_false] at hx
     rcases hx with rfl | rfl | rfl <;> omega
   refine jU E.g E.bf (fun i δ => ∃ o9 Qs Qt Qu, δ = [some (.sh (.lst (a.map .int))), some (qd ks es ss oo), some (.lst ((ops.map .int).map T.sh)), some (.lst ((bs.map .int).map T.sh)), some (.lst ((th.map .str).map T.sh)), some (.sh (.lst (ws.map d9))), some (.ins "Chart" (f7 (nM bs.length) ((mP es.length).map .str) (.ins "Tree" (jM ks es ss)) (pe es.length) (pe es.length) (ws.map d9))), some T9, some (.sh (.int j)), o9, Qs, Qt, Qu])
     (mE (B9 (ds := [(j : Int), ((j : Int) + 1) % (ws.length : Int), b8 (bI a (j : Int)) 19 % (ws.length : Int)].map L3.D.int) (aE (v_ E.jl.1) (aE (aQ (ah (dm (aH E.jl) (ah aj))) (ah (bV MS E.cJ (aH E.dB) E.cI)) (by omega)) (aE (bw (aQ (ah (c_ ((bI a (j : Int), 19)) E.d7 E.bu (ai (ah (c_ ((a, (j : Int))) E.bW E.aR (ai (aH E.aZ) (ai (aH E.jl) aG)) (show (0 : Int) <= (j : Int) by omega) rfl)) (ai (ah aj) aG)) (trivial) rfl)) (ah (bV MS E.cJ (aH E.dB) E.cI)) (by omega)) rfl) bS))))) ⟨_, _, _, _, rfl⟩ (fun j δ ⟨_, _, _, _, e⟩ => by subst e; exact aaJ rfl) ?Ua ?fin2
   case Ua =>
     rintro i d δ hi ⟨o9, Qs, Qt, Qu, rfl⟩
     obtain ⟨x, rfl, _, Nq, _, _, _⟩ := A7 hi
     obtain ⟨z0, z1⟩ := W4 x Nq
     clear Nq hi
     obtain ⟨⟨p0, p1⟩, _⟩ := vf _ (qD (ws := ws) (i := (j : Int)) (by omega) (by omega))
     obtain ⟨⟨q0, q1⟩, _⟩ := vf _ (qD z0 z1)
     have Xj : rC (ws.map (Qn ks es)) (j : Int) = some (Qn ks es (j4 ws (j : Int))) := f6 (f := Qn ks es) w0 (by omega) (by omega)
     have Xk : rC (ws.map (Qn ks es)) x = some (Qn ks es (j4 ws x)) := f6 (f := Qn ks es) w0 z0 z1
     refine aO E.g E.Ae (bw (c_ (FI ks es (j4 ws (j : Int)).src (j4 ws (j : Int)).tgt, FI ks es (j4 ws x).src (j4 ws x).tgt) E.KP E.wU (ai (aP (vE E.wL.1 rfl Xi) (aH E.jl) Xj) (ai (aP (vE E.wL.1 rfl Xi) (aH E.bf) Xk) aG)) trivial rfl) (t2 := .sh (.bl (Es ks es (j4 ws (j : Int)) (j4 ws x)))) (congrArg (fun z => T.sh (.bl z)) (Be ht p0 p1 q0 q1))) ?_
     refine aO E.g E.cY (bw (c_ (nM bs.length, (mP es.length).map .str, ks, es, ss, pe es.length, pe es.length, ws, (j : Int), x) E.GO E.wV (ai (vE E.bY.1 rfl Xh) (ai (aH E.jl) (ai (aH E.bf) aG))) (by dsimp only [i9]; exact ⟨ht, by omega, Vf, ⟨by omega, by omega⟩, ⟨z0, z1⟩, vf⟩) rfl) (t2 := .sh (.bl (Es ks es (j4 ws (j : Int)) (j4 ws x)))) rfl) ?_
     refine aO E.g E.sO (bw (c_ (nM bs.length, (mP es.length).map .str, ks, es, ss, pe es.length, pe es.length, ws, x, (j : Int)) E.GO E.wV (ai (vE E.bY.1 rfl Xh) (ai (aH E.bf) (ai (aH E.jl) aG))) (by dsimp only [i9]; exact ⟨ht, by omega, Vf, ⟨z0, z1⟩, ⟨by omega, by omega⟩, vf⟩) rfl) (t2 := .sh (.bl (Es ks es (j4 ws (j : Int)) (j4 ws x)))) (congrArg (fun z => T.sh (.bl z)) (F9 _ _))) ?_
     generalize Es ks es (j4 ws (j : Int)) (j4 ws x) = m
     refine fS (u6 (pV (u5 (yV (XD E.n9 E.GP E.n8 E.g_bool (aH E.cY)))) (fun hb => (oA (u5 (yV (XD E.n9 E.GP E.n8 E.g_bool (aH E.sO)))))))) (fun hp => absurd hp (by decide)) (fun _ => az ?_)
     refine fS (u6 (pV (Fd (aH E.cY) (aH E.Ae)).1 (fun hb => (oA (Fd (aH E.sO) (aH E.Ae)).1)))) (fun hp => absurd hp (by simp)) (fun _ => az (az ⟨_, _, _, _, rfl⟩))
   case fin2 =>
     rintro δ ⟨o9, Qs, Qt, Qu, rfl⟩
     exact az ⟨_, _, _, _, _, rfl⟩
 case fin =>
   rintro δ ⟨o8, o9, Qs, Qt, Qu, rfl⟩
   exact aY (c_ (nM bs.length, (mP es.length).map .str, ks, es, ss, oo, pe es.length, pe es.length, ws.map d9) E.GQ E.ud (ai (vE E.bY.1 rfl Xh) (ai (vE E.bq.1 rfl T8) (ai (aH E.dB) aG))) (by dsimp only [gW]; exact ⟨Yk, Qq.dep 47⟩) rfl) rfl
theorem bK : jN (ao CN) ([("script", au), ("lists", .cell), ("opens", au), ("boxes", au), ("three", au), ("ways", au), ("chart", au), ("spans", au), ("k", au), ("other", au), ("due", au), ("found", au), ("turned", au), ("_law_lists", aB), ("_law_opens", aB), ("_law_boxes", aB), ("_law_signs", aB), ("_law_ways", aB), ("len", aB), ("_law_chart", aB), ("range", aB), ("_law_mixed", aB), ("_law_cell_at", aB), ("_law_share", aB), ("meet", aB), ("isinstance", aB), ("bool", aB), ("_law_stayed", aB)]) = true := by decide +kernel
theorem GR : aK ["script", "lists", "opens", "boxes", "three", "ways", "chart", "spans", "k", "other", "due", "found", "turned"] ["script"] (ao CN) := aU
def cl (ak aq aF : Addr) : Str -> Addr := fun c => if c = "Chart" then ak else if c = "Tree" then aq else if c = "#_law_ways.<locals>.<lambda>" then aF else 0
theorem uM {ak aq aF : Addr} : cl ak aq aF "#_law_ways.<locals>.<lambda>" = aF := by unfold cl; rw [aaE (by decide +kernel)]; rw [aaE (by decide +kernel)]; rw [aaF rfl]
theorem fC {ak aq aF : Addr} : cl ak aq aF "Chart" = ak := by unfold cl; rw [aaF rfl]
theorem lQ {ak aq aF : Addr} : cl ak aq aF "Tree" = aq := by unfold cl; rw [aaE (by decide +kernel)]; rw [aaF rfl]
theorem KQ {ak aq aF : Addr} {x : Str} (h : yU x = true) (h0 : cl ak aq aF x ≠ 0) : (cl ak aq aF x, Dj x) ∈ ([(aF, "_law_ways.<locals>.<lambda>")] : List (Addr × Str)) := by
 unfold cl at h0 ⊢
 rw [aaE (fun e => by rw [e] at h; exact absurd h (by decide +kernel))] at h0 ⊢
 rw [aaE (fun e => by rw [e] at h; exact absurd h (by decide +kernel))] at h0 ⊢
 by_cases Bt : x = "#_law_ways.<locals>.<lambda>"
 . rw [aaF Bt, Bt, show Dj ("#_law_ways.<locals>.<lambda>" : Str) = "_law_ways.<locals>.<lambda>" by decide +kernel]; simp
 rw [aaE Bt] at h0 ⊢
 exact absurd rfl h0
theorem all_mk {l : PySem.W.OpenLaw} {w : World} {K : PySem.W.Frag} {h : Heap} {mg : Str -> Option Value} {T0 : List Addr} {fa wW pG wX sP wY wZ sQ w4 Bu w9 xg xh GU GV GW Bv ig gB xj xm jB xo sR kB GX pH Bw sS pI sU By Nr ak aq aF : Addr} (XX : K.In h) (G : h.Ns mainGlobals mg) (hfa : mg "law" = some (.ref fa))
   {KR DT KS GY KW KY GZ KZ Qv K0 K1 K2 Ub Uc Ud G0 Ag xq K3 K4 gA nQ i7 kr GB lI wV G3 DU G4 Qw Nt : FuncData}
   (xr : PySem.W.nsIn K mainGlobals "Chart" = some (some (.ref ak))) (sV : PySem.W.plainGet K ak Str.empty = true) (sW : PySem.W.hasDictIn K ak = true) (sX : PySem.W.plainOver K ak = true) (sY : PySem.W.findIn K (.ref ak) "__setattr__" = some (some (.builtin "object.__setattr__"))) (sZ : PySem.W.makesIn K ak = true) (tu : PySem.W.keepIn K (.ref ak) = true)
   (iG : PySem.W.findIn K (.ref ak) "boxes" = some none)
   (iH : PySem.W.findIn K (.ref ak) "names" = some none)
   (jC : PySem.W.findIn K (.ref ak) "tree" = some none)
   (kC : PySem.W.findIn K (.ref ak) "ins" = some none)
   (jD : PySem.W.findIn K (.ref ak) "outs" = some none)
   (jE : PySem.W.findIn K (.ref ak) "ways" = some none)
   (BD : PySem.W.nsIn K mainGlobals "Tree" = some (some (.ref aq))) (xu : PySem.W.plainGet K aq Str.empty = true) (xx : PySem.W.hasDictIn K aq = true) (xA : PySem.W.plainOver K aq = true) (xB : PySem.W.findIn K (.ref aq) "__setattr__" = some (some (.builtin "object.__setattr__"))) (xC : PySem.W.makesIn K aq = true) (xD : PySem.W.keepIn K (.ref aq) = true)
   (jF : PySem.W.findIn K (.ref aq) "kinds" = some none)
   (iI : PySem.W.findIn K (.ref aq) "elders" = some none)
   (iJ : PySem.W.findIn K (.ref aq) "starts" = some none)
   (xE : PySem.W.nsIn K mainGlobals "_law_mixed" = some (some (.ref wW))) (xF : iM K "_law_mixed" "_law_mixed" qF wW KR)
   (pJ : PySem.W.nsIn K mainGlobals "_law_cell_at" = some (some (.ref pG))) (pK : iM K "_law_cell_at" "_law_cell_at" kM pG DT)
   (xG : PySem.W.nsIn K mainGlobals "_law_chain" = some (some (.ref wX))) (xH : iM K "_law_chain" "_law_chain" qG wX KS)
   (tD : PySem.W.nsIn K mainGlobals "_law_elders" = some (some (.ref sP))) (tE : iM K "_law_elders" "_law_elders" nq sP GY)
   (xJ : PySem.W.nsIn K mainGlobals "_law_lists" = some (some (.ref wY))) (xK : iM K "_law_lists" "_law_lists" qH wY KW)
   (xM : PySem.W.nsIn K mainGlobals "_law_opens" = some (some (.ref wZ))) (xN : iM K "_law_opens" "_law_opens" qI wZ KY)
   (tF : PySem.W.nsIn K mainGlobals "_law_number" = some (some (.ref sQ))) (tG : iM K "_law_number" "_law_number" nu sQ GZ)
   (xO : PySem.W.nsIn K mainGlobals "_law_boxes" = some (some (.ref w4))) (xP : iM K "_law_boxes" "_law_boxes" qJ w4 KZ)
   (BE : PySem.W.nsIn K mainGlobals "_law_name" = some (some (.ref Bu))) (BF : iM K "_law_name" "_law_name" vX Bu Qv)
   (xQ : PySem.W.nsIn K mainGlobals "_law_signs" = some (some (.ref w9))) (xR : iM K "_law_signs" "_law_signs" qK w9 K0)
   (xS : PySem.W.nsIn K mainGlobals "_law_small" = some (some (.ref xg))) (xT : iM K "_law_small" "_law_small" qL xg K1)
   (xU : PySem.W.nsIn K mainGlobals "_law_worth" = some (some (.ref xh))) (xV : iM K "_law_worth" "_law_worth" qM xh K2)
   (G5 : PySem.W.nsIn K mainGlobals "_law_due" = some (some (.ref GU))) (G6 : iM K "_law_due" "_law_due" Cv GU Ub)
   (G7 : PySem.W.nsIn K mainGlobals "_law_ask" = some (some (.ref GV))) (G8 : iM K "_law_ask" "_law_ask" Cw GV Uc)
   (G9 : PySem.W.nsIn K mainGlobals "_law_way" = some (some (.ref GW))) (Hf : iM K "_law_way" "_law_way" CD GW Ud)
   (BG : PySem.W.nsIn K mainGlobals "_law_ways" = some (some (.ref Bv))) (BH : iM K "_law_ways" "_law_ways" v9 Bv G0)
   {pF : Addr} {K5 : Option Addr} {CP : Array Value} {K6 : Array (Option Value)} (xW : G0.code = .ref pF) (CQ : K.lookup pF = some ⟨.type "code", K5, .fields CP, K6⟩) (CT : CP[11]? = some (.ref aF)) (rg : PySem.W.codeHdIn K pF aF = true) (xX : aF ≠ 0) (xY : K.lookup aF = none) (xZ : aF ∈ T0)
   (kD : PySem.W.findIn K (.ref aq) "__init__" = some (some (.ref ig))) (kE : PySem.W.isFn K (.ref ig) = true) (qf : iM K "__init__" "Tree.__init__" g6 ig Ag)
   (jG : PySem.W.findIn K (.ref ak) "__init__" = some (some (.ref gB))) (jH : PySem.W.isFn K (.ref gB) = true) (oh : iM K "__init__" "Chart.__init__" gu gB xq)
   (x6 : PySem.W.nsIn K mainGlobals "_law_chart" = some (some (.ref xj))) (x8 : iM K "_law_chart" "_law_chart" qU xj K3)
   (x9 : PySem.W.nsIn K mainGlobals "_law_share" = some (some (.ref xm))) (yb : iM K "_law_share" "_law_share" qV xm K4)
   (jI : PySem.W.nsIn K mainGlobals "has_target" = some (some (.ref jB))) (jJ : iM K "has_target" "has_target" gw jB gA)
   (yc : PySem.W.nsIn K mainGlobals "above" = some (some (.ref xo))) (yd : iM K "above" "above" qW xo nQ)
   (tH : PySem.W.nsIn K mainGlobals "within" = some (some (.ref sR))) (tK : iM K "within" "within" nP sR i7)
   (kF : PySem.W.nsIn K mainGlobals "tops_meet" = some (some (.ref kB))) (kG : iM K "tops_meet" "tops_meet" g7 kB kr)
   (Hg : PySem.W.nsIn K mainGlobals "top" = some (some (.ref GX))) (Hh : iM K "top" "top" CJ GX GB)
   (pL : PySem.W.nsIn K mainGlobals "way_top" = some (some (.ref pH))) (pM : iM K "way_top" "way_top" lH pH lI)
   (BI : PySem.W.nsIn K mainGlobals "meet" = some (some (.ref Bw))) (BJ : iM K "meet" "meet" wI Bw wV)
   (tL : PySem.W.nsIn K mainGlobals "_law_stayed" = some (some (.ref sS))) (tM : iM K "_law_stayed" "_law_stayed" nX sS G3)
   (pN : PySem.W.nsIn K mainGlobals "_law_beneath" = some (some (.ref pI))) (pO : iM K "_law_beneath" "_law_beneath" lM pI DU)
   (tN : PySem.W.nsIn K mainGlobals "_law_top" = some (some (.ref sU))) (tO : iM K "_law_top" "_law_top" nY sU G4)
   (BK : PySem.W.nsIn K mainGlobals "_law_span" = some (some (.ref By))) (BL : iM K "_law_span" "_law_span" wJ By Qw)
   (CV : PySem.W.nsIn K mainGlobals "law" = some (some (.ref Nr))) (Hi : iM K "law" "law" CN Nr Nt)
   (Hj : PySem.W.nsIn K mainGlobals "len" = some none)
   (ye : PySem.W.nsIn K mainGlobals "range" = some none)
   (Hl : PySem.W.nsIn K mainGlobals "int" = some none)
   (yf : PySem.W.nsIn K mainGlobals "tuple" = some none)
   (tP : PySem.W.nsIn K mainGlobals "sorted" = some none)
   (BO : PySem.W.nsIn K mainGlobals "list" = some none)
   (Ho : PySem.W.nsIn K mainGlobals "str" = some none)
   {DV : Tok} (tQ : PySem.W.nsIn K mainGlobals "TARGET" = some (some (.int 4 DV)))
   {DW : Tok} (tR : PySem.W.nsIn K mainGlobals "SOURCE" = some (some (.int 0 DW)))
   (jK : PySem.W.nsIn K mainGlobals "isinstance" = some none)
   (y_bool : PySem.W.nsIn K mainGlobals "bool" = some none)
   : ∃ (fd : FuncData) (ts : List (Addr × Str)), (∀ p ∈ ts, p.1 ∈ T0 /\ ts.lookup p.1 = some p.2 /\ K.lookup p.1 = none /\ ∃ c, PySem.W.CodeHd h c p.1) /\ (∀ (s : Shared) (v : Value), BindsTo s fd ⟨[v], []⟩ [("script", v)]) /\ ∀ base : Heap, K.In base -> base.Ns mainGlobals mg -> rQ mg base -> bL l.prog w K mg base fL 6 fa fd ["script"] (spT K ts 1 lN lO lP) := by
 have e := hfa.symm.trans (aaR XX G CV)
 cases e
 have K7 := aaR XX G xE
 have K8 := xF.binds (ps := ["cell", "salt"]) fun _ _ _ _ _ _ us hl => match us, hl with | [_, _], _ => rfl
 have DX := aaR XX G pJ
 have DY := pK.binds (ps := ["script", "k"]) fun _ _ _ _ _ _ us hl => match us, hl with | [_, _], _ => rfl
 have K9 := aaR XX G xG
 have La := xH.binds (ps := ["elders", "mood"]) fun _ _ _ _ _ _ us hl => match us, hl with | [_, _], _ => rfl
 have Hq := aaR XX G tD
 have Hr := tE.binds (ps := ["script"]) fun _ _ _ _ _ _ us hl => match us, hl with | [_], _ => rfl
 have Lb := aaR XX G xJ
 have Lc := xK.binds (ps := ["script"]) fun _ _ _ _ _ _ us hl => match us, hl with | [_], _ => rfl
 have Ld := aaR XX G xM
 have Le := xN.binds (ps := ["lists"]) fun _ _ _ _ _ _ us hl => match us, hl with | [_], _ => rfl
 have Hs := aaR XX G tF
 have Ht := tG.binds (ps := ["cell"]) fun _ _ _ _ _ _ us hl => match us, hl with | [_], _ => rfl
 have Lf := aaR XX G xO
 have Lg := xP.binds (ps := ["script"]) fun _ _ _ _ _ _ us hl => match us, hl with | [_], _ => rfl
 have Qx := aaR XX G BE
 have Qy := BF.binds (ps := ["cell"]) fun _ _ _ _ _ _ us hl => match us, hl with | [_], _ => rfl
 have Lh := aaR XX G xQ
 have Li := xR.binds (ps := ["script"]) fun _ _ _ _ _ _ us hl => match us, hl with | [_], _ => rfl
 have Lj := aaR XX G xS
 have Lk := xT.binds (ps := ["cell"]) fun _ _ _ _ _ _ us hl => match us, hl with | [_], _ => rfl
 have Lp := aaR XX G xU
 have Lq := xV.binds (ps := ["term", "boxes"]) fun _ _ _ _ _ _ us hl => match us, hl with | [_, _], _ => rfl
 have Ue := aaR XX G G5
 have Ug := G6.binds (ps := ["mark", "one", "other"]) fun _ _ _ _ _ _ us hl => match us, hl with | [_, _, _], _ => rfl
 have Uh := aaR XX G G7
 have Ui := G8.binds (ps := ["cell", "opens", "many", "boxes"]) fun _ _ _ _ _ _ us hl => match us, hl with | [_, _, _, _], _ => rfl
 have Uj := aaR XX G G9
 have Uk := Hf.binds (ps := ["cell", "opens", "many", "boxes", "three"]) fun _ _ _ _ _ _ us hl => match us, hl with | [_, _, _, _, _], _ => rfl
 have Qz := aaR XX G BG
 have QB := BH.binds (ps := ["script", "opens", "many", "boxes", "three"]) fun _ _ _ _ _ _ us hl => match us, hl with | [_, _, _, _, _], _ => rfl
 have Ah := qf.binds (ps := ["self", "kinds", "elders", "starts"]) fun _ _ _ _ _ _ us hl => match us, hl with | [_, _, _, _], _ => rfl
 have yg := oh.binds (ps := ["self", "boxes", "names", "tree", "ins", "outs", "ways"]) fun _ _ _ _ _ _ us hl => match us, hl with | [_, _, _, _, _, _, _], _ => rfl
 have Lr := aaR XX G x6
 have Ls := x8.binds (ps := ["lists", "boxes", "ways"]) fun _ _ _ _ _ _ us hl => match us, hl with | [_, _, _], _ => rfl
 have Lv := aaR XX G x9
 have Lw := yb.binds (ps := ["one", "other"]) fun _ _ _ _ _ _ us hl => match us, hl with | [_, _], _ => rfl
 have yh := aaR XX G jI
 have yi := jJ.binds (ps := ["chart", "number"]) fun _ _ _ _ _ _ us hl => match us, hl with | [_, _], _ => rfl
 have Lx := aaR XX G yc
 have Ly := yd.binds (ps := ["tree", "mood"]) fun _ _ _ _ _ _ us hl => match us, hl with | [_, _], _ => rfl
 have Hu := aaR XX G tH
 have Hv := tK.binds (ps := ["tree", "mood", "other"]) fun _ _ _ _ _ _ us hl => match us, hl with | [_, _, _], _ => rfl
 have Ai := aaR XX G kF
 have Aj := kG.binds (ps := ["tree", "one", "other"]) fun _ _ _ _ _ _ us hl => match us, hl with | [_, _, _], _ => rfl
 have Ul := aaR XX G Hg
 have Um := Hh.binds (ps := ["tree", "one", "other"]) fun _ _ _ _ _ _ us hl => match us, hl with | [_, _, _], _ => rfl
 have DZ := aaR XX G pL
 have D0 := pM.binds (ps := ["chart", "number"]) fun _ _ _ _ _ _ us hl => match us, hl with | [_, _], _ => rfl
 have QC := aaR XX G BI
 have QD := BJ.binds (ps := ["chart", "one", "other"]) fun _ _ _ _ _ _ us hl => match us, hl with | [_, _, _], _ => rfl
 have Hw := aaR XX G tL
 have Hx := tM.binds (ps := ["chart", "lists", "ways"]) fun _ _ _ _ _ _ us hl => match us, hl with | [_, _, _], _ => rfl
 have D3 := aaR XX G pN
 have D4 := pO.binds (ps := ["elders", "mood"]) fun _ _ _ _ _ _ us hl => match us, hl with | [_, _], _ => rfl
 have Hy := aaR XX G tN
 have Hz := tO.binds (ps := ["lists", "way"]) fun _ _ _ _ _ _ us hl => match us, hl with | [_, _], _ => rfl
 have QF := aaR XX G BK
 have QG := BL.binds (ps := ["lists", "way"]) fun _ _ _ _ _ _ us hl => match us, hl with | [_, _], _ => rfl
 have Yl := aaR XX G CV
 have Ym := Hi.binds (ps := ["script"]) fun _ _ _ _ _ _ us hl => match us, hl with | [_], _ => rfl
 have Lz := aaR XX G xr
 have cC : tS K ak := ⟨sV, sW, sX, sY⟩
 have oi : tS K ((cl ak aq aF) "Chart") := by rw [fC]; exact cC
 have uf : aV K ((cl ak aq aF) "Chart") "boxes" := by rw [fC]; exact iG
 have ug : aV K ((cl ak aq aF) "Chart") "names" := by rw [fC]; exact iH
 have gC : aV K ((cl ak aq aF) "Chart") "tree" := by rw [fC]; exact jC
 have Ak : aV K ((cl ak aq aF) "Chart") "ins" := by rw [fC]; exact kC
 have yj : aV K ((cl ak aq aF) "Chart") "outs" := by rw [fC]; exact jD
 have gD : aV K ((cl ak aq aF) "Chart") "ways" := by rw [fC]; exact jE
 have QH := aaR XX G BD
 have fj : tS K aq := ⟨xu, xx, xA, xB⟩
 have yk : tS K ((cl ak aq aF) "Tree") := by rw [lQ]; exact fj
 have jL : aV K ((cl ak aq aF) "Tree") "kinds" := by rw [lQ]; exact jF
 have iK : aV K ((cl ak aq aF) "Tree") "elders" := by rw [lQ]; exact iI
 have mw : aV K ((cl ak aq aF) "Tree") "starts" := by rw [lQ]; exact iJ
 have oj := abz XX G Hj
 have gE := abz XX G ye
 have Uo := abz XX G Hl
 have LC := abz XX G yf
 have HB := abz XX G tP
 have BP := abz XX G BO
 have Up := abz XX G Ho
 have Al : ∃ u, mg "TARGET" = some (.int 4 u) := ⟨_, aaR XX G tQ⟩
 have HC : ∃ u, mg "SOURCE" = some (.int 0 u) := ⟨_, aaR XX G tR⟩
 have ym := abz XX G jK
 have QI := abz XX G y_bool
 refine ⟨Nt, [(aF, "_law_ways.<locals>.<lambda>")], ?tabs, ?bind, fun base kb _ bl => ?_⟩
 case tabs =>
   intro p hp
   simp only [aaH, abO, or_false] at hp
   rcases hp with rfl
   . exact ⟨xZ, by simp only [aa7, ab9], xY, pF, PySem.W.codeHd_of_K XX rg⟩
 case bind =>
   obtain ⟨oc, od, kV, doc, pm, an, cS, ct, Ik, rfl, lk, iL⟩ := Hi.ex
   exact fun s v => .of_eq rfl
 have LD : bL l.prog w K mg base fL 1 wW _ ["cell", "salt"] (jO K (cl ak aq aF) 2 dU dW dX) := aX xF zN fun cS Ar outer s H E b a hr hp => by
   obtain ⟨p0, p1⟩ := a; refine J3 ?_ p0 p1 hp
   exact ⟨⟨⟨zN.nd, rfl, rfl⟩, hr.units⟩, bB se 0, bB se 1, bB se 2⟩
 have lR := cH LD K7 xF.kp K8
 have D5 : bL l.prog w K mg base fL 1 pG _ ["script", "k"] (jO K (cl ak aq aF) 2 cT cU cV) := aX pK sf fun cS Ar outer s H E b a hr hp => by
   obtain ⟨p0, p1⟩ := a; refine DM ?_ p0 p1 hp
   exact ⟨⟨⟨sf.nd, rfl, rfl⟩, hr.units⟩, bB mL 0, bB mL 1, dS mL 2, oj⟩
 have jb := cH D5 DX pK.kp DY
 have LJ : bL l.prog w K mg base fL 1 wX _ ["elders", "mood"] (jO K (cl ak aq aF) 2 gG dY gH) := aX xH zO fun cS Ar outer s H E b a hr hp => by
   obtain ⟨p0, p1⟩ := a; refine J5 ?_ p0 p1 hp
   exact ⟨⟨⟨zO.nd, rfl, rfl⟩, hr.units⟩, bB nj 0, bB nj 1, bB nj 2, bB nj 3⟩
 have yo := cH LJ K9 xH.kp La
 have HD : bL l.prog w K mg base fL 2 sP _ ["script"] (jO K (cl ak aq aF) 1 jm jn jo) := aX tE uF fun cS Ar outer s H E b a hr hp => by
   refine Gd ?_ a hp
   exact ⟨⟨⟨uF.nd, rfl, rfl⟩, hr.units⟩, bB dh 0, bB dh 1, bB dh 2, bB dh 3, bB dh 4, dS dh 5, dS dh 6, dS dh 7, dS dh 8, dS dh 9, cN lR hr, cN jb hr, gE, cN yo hr, oj⟩
 have HF := cH HD Hq tE.kp Hr
 have LK : bL l.prog w K mg base fL 3 wY _ ["script"] (jO K (cl ak aq aF) 1 kP kQ kR) := aX xK zP fun cS Ar outer s H E b a hr hp => by
   refine J7 ?_ a hp
   exact ⟨⟨⟨zP.nd, rfl, rfl⟩, hr.units⟩, bB cA 0, FH cA 1, dD cA 1 rfl, bB cA 2, bB cA 3, bB cA 4, FH cA 5, dD cA 5 rfl, bB cA 6, bB cA 7, dS cA 8, dS cA 9, dS cA 10, dS cA 11, dS cA 12, cN HF hr, gE, oj, cN lR hr, cN jb hr⟩
 have LN := cH LK Lb xK.kp Lc
 have LQ : bL l.prog w K mg base fL 1 wZ _ ["lists"] (jO K (cl ak aq aF) 1 kT iU kU) := aX xN zQ fun cS Ar outer s H E b a hr hp => by
   obtain ⟨p0, p1, p2, p3⟩ := a; refine J9 ?_ p0 p1 p2 p3 hp
   exact ⟨⟨⟨zQ.nd, rfl, rfl⟩, hr.units⟩, bB iV 0, bB iV 1, bB iV 2, bB iV 3, dS iV 4, dS iV 5, gE, oj⟩
 have LR := cH LQ Ld xN.kp Le
 have HG : bL l.prog w K mg base fL 1 sQ _ ["cell"] (jO K (cl ak aq aF) 1 jr jt ju) := aX tG uH fun cS Ar outer s H E b a hr hp => by
   refine Gh ?_ a hp
   exact ⟨⟨⟨uH.nd, rfl, rfl⟩, hr.units⟩, bB uG 0, bB uG 1⟩
 have HJ := cH HG Hs tG.kp Ht
 have LV : bL l.prog w K mg base fL 2 w4 _ ["script"] (jO K (cl ak aq aF) 1 kW kX kY) := aX xP zR fun cS Ar outer s H E b a hr hp => by
   refine Kc ?_ a hp
   exact ⟨⟨⟨zR.nd, rfl, rfl⟩, hr.units⟩, FH iW 0, dD iW 0 rfl, bB iW 1, dS iW 2, dS iW 3, dS iW 4, cN lR hr, cN jb hr, gE, cN HJ hr⟩
 have LW := cH LV Lf xP.kp Lg
 have QJ : bL l.prog w K mg base fL 1 Bu _ ["cell"] (jO K (cl ak aq aF) 1 ny nA nB) := aX BF Cu fun cS Ar outer s H E b a hr hp => by
   refine P9 ?_ a hp
   exact ⟨⟨⟨Cu.nd, rfl, rfl⟩, hr.units⟩, bB kZ 0, bB kZ 1, bB kZ 2, bB kZ 3, bB kZ 4, dS kZ 5, gE⟩
 have QK := cH QJ Qx BF.kp Qy
 have LX : bL l.prog w K mg base fL 2 w9 _ ["script"] (jO K (cl ak aq aF) 1 k6 k7 k8) := aX xR zS fun cS Ar outer s H E b a hr hp => by
   refine Ke ?_ a hp
   exact ⟨⟨⟨zS.nd, rfl, rfl⟩, hr.units⟩, bB nE 0, bB nE 1, dS nE 2, dS nE 3, cN QK hr, cN jb hr⟩
 have LY := cH LX Lh xR.kp Li
 have LZ : bL l.prog w K mg base fL 1 xg _ ["cell"] (jO K (cl ak aq aF) 1 k9 lg lq) := aX xT zU fun cS Ar outer s H E b a hr hp => by
   refine Kg ?_ a hp
   exact ⟨⟨⟨zU.nd, rfl, rfl⟩, hr.units⟩, bB zT 0, bB zT 1⟩
 have L0 := cH LZ Lj xT.kp Lk
 have L1 : bL l.prog w K mg base fL 1 xh _ ["term", "boxes"] (jO K (cl ak aq aF) 2 lu ly lz) := aX xV zW fun cS Ar outer s H E b a hr hp => by
   obtain ⟨p0, p1, p2⟩ := a; refine Kl ?_ p0 p1 p2 hp
   exact ⟨⟨⟨zW.nd, rfl, rfl⟩, hr.units⟩, bB zV 0, bB zV 1⟩
 have L4 := cH L1 Lp xV.kp Lq
 have Uq : bL l.prog w K mg base fL 1 GU _ ["mark", "one", "other"] (jO K (cl ak aq aF) 3 qN qO qP) := aX G6 Gm fun cS Ar outer s H E b a hr hp => by
   obtain ⟨p0, p1, p2⟩ := a; refine Tt ?_ p0 p1 p2 hp
   exact ⟨⟨⟨Gm.nd, rfl, rfl⟩, hr.units⟩, bB Bj 0, bB Bj 1, bB Bj 2⟩
 have Ur := cH Uq Ue G6.kp Ug
 have Us : bL l.prog w K mg base fL 2 GV _ ["cell", "opens", "many", "boxes"] (jO K (cl ak aq aF) 4 qQ nF qR) := aX G8 Gq fun cS Ar outer s H E b a hr hp => by
   obtain ⟨p0, p1, p2, p3⟩ := a; refine TH ?_ p0 p1 p2 p3 hp
   exact ⟨⟨⟨Gq.nd, rfl, rfl⟩, hr.units⟩, bB cQ 0, bB cQ 1, bB cQ 2, bB cQ 3, bB cQ 4, FH cQ 5, dD cQ 5 rfl, bB cQ 6, bB cQ 7, bB cQ 8, FH cQ 9, dD cQ 9 rfl, FH cQ 10, dD cQ 10 rfl, bB cQ 11, dS cQ 12, dS cQ 13, dS cQ 14, dS cQ 15, dS cQ 16, cN lR hr, Uo, oj, cN L0 hr, cN L4 hr, cN Ur hr⟩
 have Ut := cH Us Uh G8.kp Ui
 have Uu : bL l.prog w K mg base fL 3 GW _ ["cell", "opens", "many", "boxes", "three"] (jO K (cl ak aq aF) 5 qS nI qT) := aX Hf Gs fun cS Ar outer s H E b a hr hp => by
   obtain ⟨p0, p1, p2, p3, p4⟩ := a; refine TN ?_ p0 p1 p2 p3 p4 hp
   exact ⟨⟨⟨Gs.nd, rfl, rfl⟩, hr.units⟩, bB dO 0, bB dO 1, bB dO 2, bB dO 3, bB dO 4, bB dO 5, bB dO 6, bB dO 7, bB dO 8, bB dO 9, bB dO 10, bB dO 11, dS dO 12, dS dO 13, dS dO 14, dS dO 15, dS dO 16, cN lR hr, oj, gE, cN Ut hr, LC⟩
 have Uv := cH Uu Uj Hf.kp Uk
 have QL : bL l.prog w K mg base fL 4 Bv _ ["script", "opens", "many", "boxes", "three"] (jO K (cl ak aq aF) 5 nJ j6 nK) := FP BH CG fun cS Ar outer s H E b a iL hr hp => by
   obtain ⟨p0, p1, p2, p3, p4⟩ := a; refine Qf ?_ p0 p1 p2 p3 p4 hp
   exact ⟨⟨⟨CG.nd, rfl, rfl⟩, hr.units⟩, bB e9 0, FH e9 1, dD e9 1 rfl, FH e9 2, dD e9 2 rfl, FH e9 3, dD e9 3 rfl, FH e9 4, dD e9 4 rfl, bB e9 5, dS e9 6, HB, cN Uv hr, WV bl kb iL xW (by rw [uM]; exact rg) (by rw [uM]; exact xX), JK hr, hr⟩
 have QM := cH QL Qz BH.kp QB
 have Am : bL l.prog w K mg base fL 1 ig _ ["self", "kinds", "elders", "starts"] (Sy K (cl ak aq aF) "Tree" 4 lY lZ mh) := Cb qf nL fun cS Ar outer s H E b a y hr hp => by
   obtain ⟨p0, p1, p2⟩ := a; refine zY ?_ p0 p1 p2 y hp
   exact ⟨⟨⟨nL.nd, rfl, rfl⟩, hr.units⟩, bB fu 0, bB fu 1, bB fu 2, bB fu 3, dS fu 4, BP, yk, jL, iK, mw⟩
 have yp : bL l.prog w K mg base fL 1 gB _ ["self", "boxes", "names", "tree", "ins", "outs", "ways"] (Sy K (cl ak aq aF) "Chart" 7 j8 j9 kg) := Cb oh mj fun cS Ar outer s H E b a y hr hp => by
   obtain ⟨p0, p1, p2, p3, p4, p5⟩ := a; refine wm ?_ p0 p1 p2 p3 p4 p5 y hp
   exact ⟨⟨⟨mj.nd, rfl, rfl⟩, hr.units⟩, bB cu 0, bB cu 1, bB cu 2, bB cu 3, bB cu 4, bB cu 5, bB cu 6, dS cu 7, BP, oi, uf, ug, gC, Ak, yj, gD⟩
 have L5 : bL l.prog w K mg base fL 3 xj _ ["lists", "boxes", "ways"] (jO K (cl ak aq aF) 3 lB iY lC) := aX x8 z7 fun cS Ar outer s H E b a hr hp => by
   obtain ⟨p0, p1, p2, p3, p4, p5⟩ := a; refine Kw ?_ p0 p1 p2 p3 p4 p5 hp
   exact ⟨⟨⟨z7.nd, rfl, rfl⟩, hr.units⟩, bB dP 0, bB dP 1, bB dP 2, bB dP 3, bB dP 4, bB dP 5, dS dP 6, dS dP 7, dS dP 8, dS dP 9, dS dP 10, gE, oj, ⟨⟨_, _, _, by rw [lQ]; exact ⟨xC, kD, kE, xD⟩, Am, by rw [lQ]; exact QH, Ah⟩, hr.mono (by decide)⟩, BP, ⟨⟨_, _, _, by rw [fC]; exact ⟨sZ, jG, jH, tu⟩, yp, by rw [fC]; exact Lz, yg⟩, hr.mono (by decide)⟩, Up⟩
 have L6 := cH L5 Lr x8.kp Ls
 have L7 : bL l.prog w K mg base fL 1 xm _ ["one", "other"] (jO K (cl ak aq aF) 2 lD lE lF) := aX yb z8 fun cS Ar outer s H E b a hr hp => by
   obtain ⟨p0, p1⟩ := a; refine Ky ?_ p0 p1 hp
   exact ⟨⟨⟨z8.nd, rfl, rfl⟩, hr.units⟩, bB sC 0, bB sC 1, bB sC 2⟩
 have L8 := cH L7 Lv yb.kp Lw
 have yq : bL l.prog w K mg base fL 1 jB _ ["chart", "number"] (jO K (cl ak aq aF) 2 fz cR fB) := aX jJ mq fun cS Ar outer s H E b a hr hp => by
   obtain ⟨p0, p1, p2, p3, p4, p5, p6⟩ := a; refine wF ?_ p0 p1 p2 p3 p4 p5 p6 hp
   exact ⟨⟨⟨mq.nd, rfl, rfl⟩, hr.units⟩, bB iF 0, bB iF 1, dS iF 2, Al, oi, gD⟩
 have yr := cH yq yh jJ.kp yi
 have Ma : bL l.prog w K mg base fL 1 xo _ ["tree", "mood"] (jO K (cl ak aq aF) 2 iZ gI i6) := aX yd z9 fun cS Ar outer s H E b a hr hp => by
   obtain ⟨p0, p1, p2, p3⟩ := a; refine KC ?_ p0 p1 p2 p3 hp
   exact ⟨⟨⟨z9.nd, rfl, rfl⟩, hr.units⟩, bB nO 0, bB nO 1, bB nO 2, bB nO 3, yk, iK⟩
 have CW := cH Ma Lx yd.kp Ly
 have HK : bL l.prog w K mg base fL 2 sR _ ["tree", "mood", "other"] (jO K (cl ak aq aF) 3 gT dQ gU) := aX tK uI fun cS Ar outer s H E b a hr hp => by
   obtain ⟨p0, p1, p2, p3, p4⟩ := a; refine Gy ?_ p0 p1 p2 p3 p4 hp
   exact ⟨⟨⟨uI.nd, rfl, rfl⟩, hr.units⟩, bB lG 0, bB lG 1, bB lG 2, dS lG 3, cN CW hr⟩
 have An := cH HK Hu tK.kp Hv
 have Ao : bL l.prog w K mg base fL 3 kB _ ["tree", "one", "other"] (jO K (cl ak aq aF) 3 fN eG fO) := aX kG nS fun cS Ar outer s H E b a hr hp => by
   obtain ⟨p0, p1, p2, p3, p4⟩ := a; refine Ab ?_ p0 p1 p2 p3 p4 hp
   exact ⟨⟨⟨nS.nd, rfl, rfl⟩, hr.units⟩, bB gy 0, bB gy 1, bB gy 2, dS gy 3, cN An hr⟩
 have Aq := cH Ao Ai kG.kp Aj
 have Uw : bL l.prog w K mg base fL 3 GX _ ["tree", "one", "other"] (jO K (cl ak aq aF) 3 qX nT qY) := aX Hh GA fun cS Ar outer s H E b a hr hp => by
   obtain ⟨p0, p1, p2, p3, p4⟩ := a; refine TY ?_ p0 p1 p2 p3 p4 hp
   exact ⟨⟨⟨GA.nd, rfl, rfl⟩, hr.units⟩, bB pB 0, bB pB 1, bB pB 2, bB pB 3, dS pB 4, dS pB 5, cN CW hr, cN An hr, yk, jL⟩
 have Ux := cH Uw Ul Hh.kp Um
 have D6 : bL l.prog w K mg base fL 4 pH _ ["chart", "number"] (jO K (cl ak aq aF) 2 g8 eV g9) := aX pM sH fun cS Ar outer s H E b a hr hp => by
   obtain ⟨p0, p1, p2, p3, p4, p5, p6, p7, p8⟩ := a; refine DP ?_ p0 p1 p2 p3 p4 p5 p6 p7 p8 hp
   exact ⟨⟨⟨sH.nd, rfl, rfl⟩, hr.units⟩, bB fK 0, bB fK 1, bB fK 2, dS fK 3, dS fK 4, dS fK 5, cN Ux hr, HC, Al, oi, gD, gC⟩
 have D7 := cH D6 DZ pM.kp D0
 have QN : bL l.prog w K mg base fL 5 Bw _ ["chart", "one", "other"] (jO K (cl ak aq aF) 3 nU i9 nV) := aX BJ CK fun cS Ar outer s H E b a hr hp => by
   obtain ⟨p0, p1, p2, p3, p4, p5, p6, p7, p8, p9⟩ := a; refine Qk ?_ p0 p1 p2 p3 p4 p5 p6 p7 p8 p9 hp
   exact ⟨⟨⟨CK.nd, rfl, rfl⟩, hr.units⟩, bB lJ 0, bB lJ 1, bB lJ 2, dS lJ 3, dS lJ 4, dS lJ 5, cN yr hr, cN Aq hr, cN D7 hr, oi, gC⟩
 have QO := cH QN QC BJ.kp QD
 have HL : bL l.prog w K mg base fL 1 sS _ ["chart", "lists", "ways"] (jO K (cl ak aq aF) 3 jx gW jy) := aX tM uK fun cS Ar outer s H E b a hr hp => by
   obtain ⟨p0, p1, p2, p3, p4, p5, p6, p7, p8⟩ := a; refine GH ?_ p0 p1 p2 p3 p4 p5 p6 p7 p8 hp
   exact ⟨⟨⟨uK.nd, rfl, rfl⟩, hr.units⟩, bB lK 0, bB lK 1, bB lK 2, bB lK 3, oi, yk, gC, gD, jL, iK, mw⟩
 have HM := cH HL Hw tM.kp Hx
 have D8 : bL l.prog w K mg base fL 2 pI _ ["elders", "mood"] (jO K (cl ak aq aF) 2 ia fV ic) := aX pO sL fun cS Ar outer s H E b a hr hp => by
   obtain ⟨p0, p1⟩ := a; refine DR ?_ p0 p1 hp
   exact ⟨⟨⟨sL.nd, rfl, rfl⟩, hr.units⟩, bB eO 0, bB eO 1, bB eO 2, bB eO 3, dS eO 4, dS eO 5, dS eO 6, gE, oj, cN yo hr⟩
 have D9 := cH D8 D3 pO.kp D4
 have HN : bL l.prog w K mg base fL 2 sU _ ["lists", "way"] (jO K (cl ak aq aF) 2 jz gX jA) := aX tO uL fun cS Ar outer s H E b a hr hp => by
   obtain ⟨p0, p1, p2, p3, p4⟩ := a; refine GK ?_ p0 p1 p2 p3 p4 hp
   exact ⟨⟨⟨uL.nd, rfl, rfl⟩, hr.units⟩, bB ja 0, bB ja 1, bB ja 2, bB ja 3, dS ja 4, cN yo hr⟩
 have HP := cH HN Hy tO.kp Hz
 have QS : bL l.prog w K mg base fL 3 By _ ["lists", "way"] (jO K (cl ak aq aF) 2 n5 ku n6) := aX BL CM fun cS Ar outer s H E b a hr hp => by
   obtain ⟨p0, p1, p2, p3, p4⟩ := a; refine Qm ?_ p0 p1 p2 p3 p4 hp
   exact ⟨⟨⟨CM.nd, rfl, rfl⟩, hr.units⟩, bB q8 0, bB q8 1, dS q8 2, dS q8 3, cN D9 hr, cN HP hr⟩
 have QT := cH QS QF BL.kp QG
 have Uy : bL l.prog w K mg base fL 6 _ _ ["script"] (jO K (cl ak aq aF) 1 lN lO lP) := aX Hi GR fun cS Ar outer s H E b a hr hp => by
   refine T5 ?_ a hp
   exact ⟨⟨⟨GR.nd, rfl, rfl⟩, hr.units⟩, bB bK 0, FH bK 1, dD bK 1 rfl, bB bK 2, bB bK 3, bB bK 4, bB bK 5, bB bK 6, bB bK 7, bB bK 8, bB bK 9, bB bK 10, bB bK 11, bB bK 12, dS bK 13, dS bK 14, dS bK 15, dS bK 16, dS bK 17, dS bK 18, dS bK 19, dS bK 20, dS bK 21, dS bK 22, dS bK 23, dS bK 24, dS bK 25, dS bK 26, dS bK 27, cN LN hr, cN LR hr, cN LW hr, cN LY hr, cN QM hr, oj, cN L6 hr, gE, cN lR hr, cN jb hr, cN L8 hr, cN QO hr, ym, QI, cN HM hr, cN QT hr⟩
 exact Uy.imp (JG (fun _ => rfl) (fun _ => rfl) fun x hx h0 => KQ hx h0)
theorem walk {l : PySem.W.OpenLaw} {q : Program} {loose : List Str} {XP : (Str -> Option Value) -> Heap -> Prop} {YP : World -> Heap -> Prop} {d : DefRec} {K : Params -> PySem.W.Frag} {T0 : List Addr} (hn : l.most = some 63) (Sd : d.params.defaults = [])
   (hY : ∀ (w : World) (h : Heap), YP w h -> (K w.params).In h) (hT : ∀ (w : World) (h : Heap), YP w h -> ∀ P ∈ T0, h.get? P = some (PySem.W.tabObj #[]))
   (F : ∀ (w : World) (mg : Str -> Option Value) (fa : Addr) (h : Heap), (K w.params).In h -> h.Ns mainGlobals mg -> mg d.name = some (.ref fa) →
     ∃ (fd : FuncData) (ts : List (Addr × Str)), (∀ p ∈ ts, p.1 ∈ T0 /\ ts.lookup p.1 = some p.2 /\ (K w.params).lookup p.1 = none /\ ∃ c, PySem.W.CodeHd h c p.1) /\ (∀ (s : Shared) (u : Value), BindsTo s fd ⟨[u], []⟩ [("script", u)]) /\ ∀ base : Heap, (K w.params).In base -> base.Ns mainGlobals mg -> rQ mg base -> bL l.prog w (K w.params) mg base fL 6 fa fd ["script"] (spT (K w.params) ts 1 lN lO lP)) :
   PySem.W.WalkO q loose XP YP l.row.toRowW d [] (fun f vs => PySem.call f vs) :=
 FQ (n := 63) (k := 6) (x := "script") (sp := fun w ts => spT (K w.params) ts 1 lN lO lP) hn (by decide) Sd ⟨rfl, by decide, by decide⟩ hY hT F (fun _ _ _ a ns hl hS ht => JH rfl hl rfl hS ht)
end Law
open PySem PySem.W PyProof.Rows
set_option maxRecDepth 100000 in
set_option maxHeartbeats 0 in
theorem PySem.Challenge.cw_moodtree_k34_ways_that_meet_holds : PySem.Challenge.rw_moodtree_k34_ways_that_meet.Holds := by
 w_on; o_law; k_head; (case hw => w_witness2)
 k_fill
 refine Law.walk (l := PySem.Challenge.rw_moodtree_k34_ways_that_meet) rfl rfl (fun w h Y => PySem.W.km_in_of Y) (fun w h Y => PySem.W.km_tabs_of Y) ?F
 case F =>
   intro w mg fa h KX G Se
   refine' Law.all_mk KX G Se ?xr ?sV ?sW ?sX ?sY ?sZ ?tu ?iG ?iH ?jC ?kC ?jD ?jE ?BD ?xu ?xx ?xA ?xB ?xC ?xD ?jF ?iI ?iJ ?xE (L2.bC ?aM ?Mb ?Mf) ?pJ (L2.bC ?Ea ?Eb ?Ec) ?xG (L2.bC ?Mg ?Mh ?Mi) ?tD (L2.bC ?bF ?HQ ?sq) ?xJ (L2.bC ?bq ?Mj ?wK) ?xM (L2.bC ?bN ?Ml ?wc) ?tF (L2.bC ?kh ?HR ?HS) ?xO (L2.bC ?bX ?Mm ?wg) ?BE (L2.bC ?iC ?QV ?QW) ?xQ (L2.bC ?Mp ?Mq ?Mr) ?xS (L2.bC ?Ms ?Mt ?Mu) ?xU (L2.bC ?Mv ?Mw ?Mx) ?G5 (L2.bC ?Ae ?Uz ?UA) ?G7 (L2.bC ?UB ?UC ?UD) ?G9 (L2.bC ?ko ?UE ?UG) ?BG (L2.bC ?dB ?QX ?QY) ?xW ?CQ ?CT ?rg ?xX ?xY ?xZ ?kD ?kE (L2.bC ?As ?Au ?Av) ?jG ?jH (L2.bC ?yt ?yu ?yw) ?x6 (L2.bC ?bY ?My ?Mz) ?x9 (L2.bC ?MA ?MB ?MC) ?jI (L2.bC ?yx ?yy ?yz) ?yc (L2.bC ?MD ?MF ?MG) ?tH (L2.bC ?HV ?HW ?HX) ?kF (L2.bC ?Aw ?Ax ?Ay) ?Hg (L2.bC ?UH ?UI ?UJ) ?pL (L2.bC ?Ed ?Ef ?Eg) ?BI (L2.bC ?QZ ?Q0 ?Q5) ?tL (L2.bC ?HY ?HZ ?Ic) ?pN (L2.bC ?Eh ?Ei ?Ej) ?tN (L2.bC ?Ie ?Ig ?Ih) ?BK (L2.bC ?Q6 ?Q7 ?Q8) ?CV (L2.bC ?UK ?UL ?UM) ?Hj ?ye ?Hl ?yf ?tP ?BO ?Ho ?tQ ?tR ?jK ?y_bool
   case xr | sV | sW | sX | sY | sZ | tu | iG | iH | jC | kC | jD | jE | BD | xu | xx | xA | xB | xC | xD | jF | iI | iJ | xE | aM | Mb | Mf | pJ | Ea | Eb | Ec | xG | Mg | Mh | Mi | tD | bF | HQ | sq | xJ | bq | Mj | wK | xM | bN | Ml | wc | tF | kh | HR | HS | xO | bX | Mm | wg | BE | iC | QV | QW | xQ | Mp | Mq | Mr | xS | Ms | Mt | Mu | xU | Mv | Mw | Mx | G5 | Ae | Uz | UA | G7 | UB | UC | UD | G9 | ko | UE | UG | BG | dB | QX | QY => k_is
   case xW => exact rfl
   case CQ => k_is
   case CT => exact rfl
   case rg => kernel_rfl
   case xX => decide
   case xY => kernel_rfl
   case xZ => decide
   case kD | kE | As | Au | Av | jG | jH | yt | yu | yw | x6 | bY | My | Mz | x9 | MA | MB | MC | jI | yx | yy | yz | yc | MD | MF | MG | tH | HV | HW | HX | kF | Aw | Ax | Ay | Hg | UH | UI | UJ | pL | Ed | Ef | Eg | BI | QZ | Q0 | Q5 | tL | HY | HZ | Ic | pN | Eh | Ei | Ej | tN | Ie | Ig | Ih | BK | Q6 | Q7 | Q8 | CV | UK | UL | UM | Hj | ye | Hl | yf | tP | BO | Ho | tQ | tR | jK | y_bool => k_is
