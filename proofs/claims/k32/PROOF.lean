import PyProof.Rows.All
import Wide.All
import OpenK.AllK
import Wide.FinOn
import Lean
import PyProof.EqAt
import PyProof.EqKinds
import PyProof.TupleCall
import PySem.Challenge.RW_moodtree_k32_asks_of_numbers
set_option Elab.async false
set_option linter.all false
set_option maxRecDepth 100000
set_option maxHeartbeats 4000000
namespace L2
open PySem PySem.Spec PyProof.Rows
abbrev Vw := @List.mem_append_right
abbrev Vx := @if_neg
abbrev Vy := @if_pos
abbrev Vz := @Nat.le_refl
abbrev VA := @List.append_assoc
abbrev VB := @Bool.false_ne_true
abbrev VC := @List.mem_cons
abbrev VD := @Heap.get?_push_of_some
abbrev VF := @Nat.le_of_ble_eq_true
abbrev VG := @wpAny_bind
abbrev VH := @List.mem_cons_of_mem
abbrev VJ := @List.mem_cons_self
abbrev VL := @List.length_map
abbrev VM := @Int.emod_lt_of_pos
abbrev VN := @Heap.lt_size
abbrev VP := @of_decide_eq_false
abbrev VQ := @List.mem_append_left
abbrev VR := @Option.some.inj
abbrev VW := @Int.emod_nonneg
abbrev VX := @List.length_cons
abbrev VY := @List.getD_eq_getElem?_getD
abbrev VZ := @List.mem_append
abbrev V0 := @List.size_toArray
abbrev V1 := @List.length_append
abbrev V2 := @List.getElem?_eq_getElem
abbrev V3 := @of_decide_eq_true
abbrev V4 := @PySem.W.mg_of
abbrev V5 := @Heap.get?_push_size
abbrev V6 := @Nat.lt_of_lt_of_le
abbrev V7 := @List.cons_append
abbrev V8 := @List.lookup_cons
abbrev V9 := @List.Sublist.refl
abbrev Wa := @List.Sublist.append
abbrev Wb := @sizeLine_eq
abbrev Wc := @List.mem_map
abbrev Wd := @Nat.ne_of_lt
abbrev Wf := @List.mem_singleton
abbrev Wg := @List.map_cons
abbrev Wh := @wpAny_pure
abbrev Wi := @Nat.zero_le
abbrev Wj := @List.perm_append_comm
abbrev Wk := @Nat.le_trans
abbrev Wm := @List.nodup_append
abbrev Wn := @List.getElem?_map
abbrev Wo := @wpS_bind
abbrev Wq := @List.Perm.append_left
abbrev Wr := @List.mem_of_getElem?
abbrev Ws := @Bool.false_eq_true
abbrev Wt := @Bool.and_eq_true
abbrev Wu := @List.map_map
abbrev Wv := @PySem.mem_of_lookup
abbrev Ww := @Int.toNat_natCast
abbrev Wx := @List.append_nil
abbrev Wy := @List.filterMap_cons
abbrev Wz := @wpS_pure
abbrev WB := @decide_eq_false
abbrev WC := @List.getElem?_eq_some_iff
abbrev WD := @List.sublist_append_right
abbrev WG := @Nat.le_of_lt
abbrev WH := @PySem.W.mg_none_of
abbrev WK := @List.replicate_succ
abbrev WL := @wpAny_mono
abbrev WM := @List.getElem?_append_right
abbrev WN := @List.length_replicate
abbrev WO := @List.length_nil
abbrev WQ := @Int.zero_add
abbrev WR := @Array.length_toList
abbrev WT := @List.nodup_nil
abbrev WU := @List.all_eq_true
abbrev WV := @wpAny_Call_Name_kw
abbrev WW := @List.pairwise_cons
abbrev WX := @List.mem_filter
abbrev WY := @wpAny_passesOwn
abbrev WZ := @List.nodup_cons
abbrev W0 := @if_false
abbrev W2 := @List.flatten_cons
abbrev W3 := @List.reverse_cons
abbrev W4 := @List.not_mem_nil
abbrev W5 := @List.getElem?_range
abbrev W6 := @wpAny_getItem_str_slice
abbrev W7 := @PySem.W.kia_one
abbrev W8 := @List.ext_getElem?
abbrev W9 := @List.mem_range
abbrev Xa := @if_true
abbrev Xb := @List.getElem?_eq_none
abbrev Xc := @Array.getElem?_toList
abbrev Xd := @PyProof.Rows.callWith_type1
abbrev Xe := @beq_self_eq_true
abbrev Xf := @List.getElem_mem
abbrev Xg := @Nat.lt_irrefl
abbrev Xh := @beq_eq_false_iff_ne
abbrev Xi := @List.getElem?_append_left
abbrev Xj := @List.nil_append
abbrev Xk := @wpS_forRange
abbrev Xl := @decide_eq_true
abbrev Xm := @List.Perm.refl
abbrev Xn := @wpAny_holding
abbrev Key := Sum Int Str
def HB : Key -> Value -> Bool
 | .inl k, v => Value.isInt k v
 | .inr x, v => Value.isStrOf x v
def Py (w : World) : Key -> Int
 | .inl k => hashInt k
 | .inr x => hashStr w x
theorem cz : ∀ {k : Key} {v : Value}, HB k v = true -> (∃ i t, k = Sum.inl i /\ v = Value.int i t) \/ (∃ x t, k = Sum.inr x /\ v = Value.str x t)
 | .inl i, v, h => by
   obtain ⟨t, e⟩ := Value.isInt_shape (k := i) (v := v) h
   exact .inl ⟨i, t, rfl, e⟩
 | .inr x, v, h => by
   obtain ⟨t, e⟩ := Value.isStrOf_shape (x := x) (v := v) h
   exact .inr ⟨x, t, rfl, e⟩
theorem Im (a b : Int) : decide ((Sum.inl a : Key) = Sum.inl b) = (a == b) := by
 by_cases e : a = b
 . subst e; simp
 . have h : ¬ (Sum.inl a : Key) = Sum.inl b := fun q => e (Sum.inl.inj q)
   rw [WB h]
   exact (Xh.mpr e).symm
theorem Io (a b : Str) : decide ((Sum.inr a : Key) = Sum.inr b) = decide (a = b) := by
 by_cases e : a = b
 . subst e; simp
 . have h : ¬ (Sum.inr a : Key) = Sum.inr b := fun q => e (Sum.inr.inj q)
   rw [WB h, WB e]
theorem Iq (a : Int) (b : Str) : decide ((Sum.inl a : Key) = Sum.inr b) = false := WB (fun q => nomatch q)
theorem Ir (a : Str) (b : Int) : decide ((Sum.inr a : Key) = Sum.inl b) = false := WB (fun q => nomatch q)
def yF (prog : Program) (w : World) : PySem.KeyKind prog w Key where
 is := HB
 hash := Py w
 inj := fun v a b ha hb => by
   rcases cz ha with ⟨i, t, rfl, rfl⟩ | ⟨x, t, rfl, rfl⟩
   . rcases cz hb with ⟨j, u, rfl, e⟩ | ⟨y, u, rfl, e⟩
     . injection e with e1 _; rw [e1]
     . exact nomatch e
   . rcases cz hb with ⟨j, u, rfl, e⟩ | ⟨y, u, rfl, e⟩
     . exact nomatch e
     . injection e with e1 _; rw [e1]
 byValue := fun k v h => by
   rcases cz h with ⟨i, t, rfl, rfl⟩ | ⟨x, t, rfl, rfl⟩ <;> rfl
 pyHash := fun hv h => by
   rcases cz hv with ⟨i, t, rfl, rfl⟩ | ⟨x, t, rfl, rfl⟩
   . exact wpAny_pyHash_int h
   . exact wpAny_pyHash_str h
 eqBool := fun hu hv h => by
   rcases cz hu with ⟨i, t, rfl, rfl⟩ | ⟨x, t, rfl, rfl⟩
   . rcases cz hv with ⟨j, u, rfl, rfl⟩ | ⟨y, u, rfl, rfl⟩
     . rw [Im] at h; exact wpAny_eqBool_int h
     . rw [Iq] at h; exact SeqAt.EqAt.int_str i t y u _ _ _ _ h
   . rcases cz hv with ⟨j, u, rfl, rfl⟩ | ⟨y, u, rfl, rfl⟩
     . rw [Ir] at h; exact SeqAt.EqAt.str_int x t j u _ _ _ _ h
     . rw [Io] at h; exact wpAny_eqBool_str h
 «strs» := fun k x t v h => by
   rcases cz h with ⟨i, u, rfl, e⟩ | ⟨y, u, rfl, e⟩
   . exact nomatch e
   . injection e with e1 _
     subst e1
     cases v <;> rfl
inductive V where
 | non | bl (b : Bool) | int (i : Int) | str (x : Str) | AQ (b : Array UInt8) | OG (b : UInt64) | ref (a : Addr) | ty (n : String)
 deriving DecidableEq
def RelV : V -> Value -> Prop
 | .non, u => u = Value.none
 | .bl b, u => u = Value.bool b
 | .int i, u => ∃ t, u = Value.int i t
 | .str x, u => ∃ t, u = Value.str x t
 | .AQ b, u => ∃ t, u = Value.bytes b t
 | .OG b, u => ∃ t, u = Value.float b t
 | .ref a, u => u = Value.ref a
 | .ty n, u => u = Value.type n
abbrev Vals : List V -> List Value -> Prop := Paired RelV
theorem Vals.length {xs : List V} {us : List Value} (r : Vals xs us) : xs.length = us.length := Paired.length r
theorem Vals.get : ∀ {xs : List V} {us : List Value} {i : Nat} {x : V}, Vals xs us -> xs[i]? = some x -> ∃ u, us[i]? = some u /\ RelV x u
 | _, _, _, _, .nil, e => by simp at e
 | _, _, 0, _, .cons r _, e => by simp at e; subst e; exact ⟨_, rfl, r⟩
 | _, _, i + 1, x, .cons _ t, e => by
   obtain ⟨u, h1, h2⟩ := Vals.get (i := i) (x := x) t (by simpa using e)
   exact ⟨u, by simpa using h1, h2⟩
theorem Vals.set {x : V} {u : Value} (r : RelV x u) : ∀ {xs : List V} {us : List Value} (i : Nat), Vals xs us -> Vals (xs.set i x) (us.set i u)
 | _, _, _, .nil => .nil
 | _, _, 0, .cons _ t => .cons r t
 | _, _, i + 1, .cons q t => .cons q (Vals.set r i t)
theorem Vals.append : ∀ {xs ys : List V} {us ws : List Value}, Vals xs us -> Vals ys ws -> Vals (xs ++ ys) (us ++ ws)
 | _, _, _, _, .nil, s => s
 | _, _, _, _, .cons r t, s => .cons r (Vals.append t s)
theorem Vals.take : ∀ {xs : List V} {us : List Value} (n : Nat), Vals xs us -> Vals (xs.take n) (us.take n)
 | _, _, 0, _ => .nil
 | _, _, _ + 1, .nil => .nil
 | _, _, n + 1, .cons r t => .cons r (Vals.take n t)
theorem Vals.drop : ∀ {xs : List V} {us : List Value} (n : Nat), Vals xs us -> Vals (xs.drop n) (us.drop n)
 | _, _, 0, r => r
 | _, _, _ + 1, .nil => .nil
 | _, _, n + 1, .cons _ t => Vals.drop n t
def xE : Option V -> Option Value -> Prop
 | some v, some u => RelV v u
 | none, none => True
 | _, _ => False
def KV {κ : Type} : List (κ × V) -> List (κ × Value) -> Prop := Paired fun (p : κ × V) (q : κ × Value) => p.1 = q.1 /\ RelV p.2 q.2
def kV : Key -> V
 | .inl i => .int i
 | .inr x => .str x
inductive HO where
 | lst (xs : List V)
 | tup (xs : List V)
 | dK (jr : List (Key × V)) | dT (jr : List (List Key × V))
 | set (S : Int -> Bool) (n : Nat)
 | ins (C dx : Addr) (fs : List (Str × V))
 | own (x : Addr)
 | xd (fs : List (Str × V))
 | met (f x : Addr)
 | Pz (lo hi : Int)
 | cT (o : Obj) (u : HO)
 | Iu (ps : Array Value)
 | tabs (q : Str)
 | zF (q : Str)
 | ext (φ : Heap -> Prop)
abbrev Hp := Addr -> Option HO
def upd (H : Hp) (a : Addr) (o : HO) : Hp := fun b => if b = a then some o else H b
theorem aK {H : Hp} {a : Addr} {o : HO} : upd H a o a = some o := by unfold upd; rw [Vy rfl]
theorem au {H : Hp} {a b : Addr} {o : HO} (h : b ≠ a) : upd H a o b = H b := by unfold upd; rw [Vx h]
theorem az {H : Hp} {a b : Addr} {o : HO} (h : H a = some o) (h' : H b = none) : a ≠ b := by
 intro e; subst e; rw [h] at h'; cases h'
section
variable (P : Program) (w : World)
def eV (H : Hp) (h : Heap) (a : Addr) : HO -> Prop
 | .lst xs => xs.length <= sizeLine /\ ∃ (its : List Value) (n : Nat), Vals xs its /\ h.get? a = some { cls := .type "list", data := .seq its.toArray n }
 | .tup xs => xs.length <= sizeLine /\ ∃ its : List Value, Vals xs its /\ IsTup h a its.toArray
 | .dK jr => jr.length <= sizeLine /\ (a == sysModules) = false /\ ∃ vs, KV jr vs /\ h.DictOf (yF P w) a vs
 | .dT jr => jr.length <= sizeLine /\ (a == sysModules) = false /\ ∃ xs : List (List Key × Addr × Value),
     Paired (fun (p : List Key × V) (q : List Key × Addr × Value) => p.1 = q.1 /\ H q.2.1 = some (.tup (p.1.map kV)) /\ RelV p.2 q.2.2) jr xs ∧
     ∃ o es ep, h.get? a = some o /\ o.ExactDict /\ o.data = .dict es ep /\ es.toList = xs.map (entryOfKey (tupleKind (yF P w))) /\ (xs.map (·.1)).Nodup
 | .set S n => h.SetOf (intKind P w) a S n
 | .ins C dx fs => H dx = some (.own a) /\ fs.length <= 1000 /\ dx ≠ a /\ h.get? a = some (PySem.W.instObj C dx) ∧
     ∃ mA, h.Ns1 dx mA /\ (∀ f, xE (fs.lookup f) (mA f)) /\ PySem.Within mA (fs.map (·.1))
 | .own _ => ∃ o, h.get? a = some o
 | .xd fs => ∃ mA, h.Ns1 a mA /\ ∀ f, xE (fs.lookup f) (mA f)
 | .Pz lo hi => ∃ t u v, h.get? a = some { cls := .type "range", data := .fields #[.int lo t, .int hi u, .int 1 v] }
 | .cT o u => h.get? a = some o /\ eV H h a u
 | .Iu ps => h.get? a = some { cls := .none, data := .fields ps }
 | .tabs q => ∃ ps : Array Value, h.get? a = some { cls := .none, data := .fields ps } /\ TriplesOk ps.toList /\ ∀ pos cv, codeAmong pos ps.toList = some cv -> ∃ c, cv = .ref c /\ H c = some (.zF q)
 | .zF q => ∃ o vs t, h.get? a = some o /\ o.data = .fields vs /\ vs[1]? = some (.str q t)
 | .met f x => h.get? a = some (PySem.W.methodObj (.ref f) (.ref x))
 | .ext φ => φ h /\ (∃ o, h.get? a = some o) /\ ∀ h1 h2 : Heap, φ h1 -> (∀ o, h1.get? a = some o -> h2.get? a = some o) -> φ h2
def nK (H : Hp) (h : Heap) : Prop := ∀ a o, H a = some o -> eV P w H h a o
end
section
variable {P : Program} {w : World} {H H' : Hp} {h h' : Heap} {a : Addr} {o : HO}
theorem eV.lt (x : eV P w H h a o) : a < h.objs.size := by
 cases o with
 | lst xs => obtain ⟨_, _, _, _, e⟩ := x; exact VN e
 | tup xs => obtain ⟨_, _, _, p⟩ := x; exact p.lt
 | dK jr => obtain ⟨_, _, _, _, o, _, _, e, _⟩ := x; exact VN e
 | dT jr => obtain ⟨_, _, _, _, o, _, _, e, _⟩ := x; exact VN e
 | set S n => obtain ⟨o, _, _, _, e, _⟩ := x; exact VN e
 | ins C dx fs => obtain ⟨_, _, _, e, _⟩ := x; exact VN e
 | own y => obtain ⟨_, e⟩ := x; exact VN e
 | xd fs => obtain ⟨_, ⟨_, _, _, e, _⟩, _⟩ := x; exact VN e
 | Pz lo hi => obtain ⟨_, _, _, e⟩ := x; exact VN e
 | cT ob u => obtain ⟨e, _⟩ := x; exact VN e
 | Iu ps => exact VN (show h.get? a = some _ from x)
 | tabs q => obtain ⟨_, e, _⟩ := x; exact VN e
 | zF q => obtain ⟨_, _, _, e, _⟩ := x; exact VN e
 | met f y => exact VN (show h.get? a = some _ from x)
 | ext φ => obtain ⟨_, ⟨_, e⟩, _⟩ := x; exact VN e
theorem Paired.LQ {α β : Type} {F G : α -> β -> Prop} : ∀ {l₁ : List α} {l₂ : List β}, Paired F l₁ l₂ -> (∀ a b, F a b -> G a b) -> Paired G l₁ l₂
 | _, _, .nil, _ => .nil
 | _, _, .cons r t, f => .cons (f _ _ r) (Paired.LQ t f)
theorem eV.vp (x : eV P w H h a o) (k : ∀ b u, (b = a \/ H b = some (.own a)) -> h.get? b = some u -> h'.get? b = some u)
   (ho : ∀ b, H b = some (.own a) -> H' b = some (.own a)) (ht : ∀ b xs, H b = some (.tup xs) -> H' b = some (.tup xs)) (gY : ∀ b q, H b = some (.zF q) -> H' b = some (.zF q) := by intro _ _ q; exact q) : eV P w H' h' a o := by
 induction o with
 | lst xs => obtain ⟨z, its, n, r, e⟩ := x; exact ⟨z, its, n, r, k _ _ (.inl rfl) e⟩
 | tup xs => obtain ⟨z, its, r, ob, e, c⟩ := x; exact ⟨z, its, r, ob, k _ _ (.inl rfl) e, c⟩
 | dK jr => obtain ⟨z, y, vs, r, ob, es, ep, e, c⟩ := x; exact ⟨z, y, vs, r, ob, es, ep, k _ _ (.inl rfl) e, c⟩
 | dT jr =>
   obtain ⟨z, y, xs, r, ob, es, ep, e, c⟩ := x
   exact ⟨z, y, xs, Paired.LQ r fun p q z => ⟨z.1, ht _ _ z.2.1, z.2.2⟩, ob, es, ep, k _ _ (.inl rfl) e, c⟩
 | set S n => obtain ⟨ob, es, ep, t, e, c⟩ := x; exact ⟨ob, es, ep, t, k _ _ (.inl rfl) e, c⟩
 | ins C dx fs =>
   obtain ⟨d, z, ne, e, mA, ⟨od, es, ep, e2, c⟩, r⟩ := x
   exact ⟨ho _ d, z, ne, k _ _ (.inl rfl) e, mA, ⟨od, es, ep, k _ _ (.inr d) e2, c⟩, r⟩
 | own y => obtain ⟨ob, e⟩ := x; exact ⟨ob, k _ _ (.inl rfl) e⟩
 | xd fs => obtain ⟨mA, ⟨od, es, ep, e, c⟩, r⟩ := x; exact ⟨mA, ⟨od, es, ep, k _ _ (.inl rfl) e, c⟩, r⟩
 | Pz lo hi => obtain ⟨t, u, v, e⟩ := x; exact ⟨t, u, v, k _ _ (.inl rfl) e⟩
 | cT ob u ih => obtain ⟨e, q⟩ := x; exact ⟨k _ _ (.inl rfl) e, ih q⟩
 | Iu ps =>
   have e : h.get? a = some { cls := .none, data := .fields ps } := x
   show h'.get? a = some { cls := .none, data := .fields ps }
   exact k a _ (.inl rfl) e
 | met f y =>
   have e : h.get? a = some (PySem.W.methodObj (.ref f) (.ref y)) := x
   show h'.get? a = some (PySem.W.methodObj (.ref f) (.ref y))
   exact k a _ (.inl rfl) e
 | tabs q => obtain ⟨ps, e, tr, cs⟩ := x; exact ⟨ps, k _ _ (.inl rfl) e, tr, fun pos cv z => let ⟨c, e1, e2⟩ := cs pos cv z; ⟨c, e1, gY _ _ e2⟩⟩
 | zF q => obtain ⟨ob, vs, t, e, r⟩ := x; exact ⟨ob, vs, t, k _ _ (.inl rfl) e, r⟩
 | ext φ => obtain ⟨p, ⟨o, e⟩, st⟩ := x; exact ⟨st _ _ p fun o q => k _ _ (.inl rfl) q, ⟨o, k _ _ (.inl rfl) e⟩, st⟩
theorem nK.lt (x : nK P w H h) (e : H a = some o) : a < h.objs.size := (x a o e).lt
theorem nK.fresh (x : nK P w H h) (e : h.objs.size <= a) : H a = none := by
 cases q : H a with
 | none => rfl
 | some u => exact absurd (V6 (x.lt q) e) (Xg _)
theorem nK.kept (x : nK P w H h) (k : ∀ b u, h.get? b = some u -> h'.get? b = some u) : nK P w H h' := fun a o e =>
 (x a o e).vp (fun b u _ q => k b u q) (fun _ q => q) fun _ _ q => q
theorem nK.laid (x : nK P w H h) (k : ∀ b u, h.get? b = some u -> h'.get? b = some u) (hp : h.objs.size <= a) (new : eV P w (upd H a o) h' a o) : nK P w (upd H a o) h' := fun b u e => by
 have hn := x.fresh hp
 by_cases hb : b = a
 . subst hb; rw [aK] at e; cases e; exact new
 . rw [au hb] at e
   exact (x b u e).vp (fun c v _ q => k c v q) (fun c q => by rw [au (az q hn)]; exact q) (fun c xs q => by rw [au (az q hn)]; exact q) fun c z q => by rw [au (az q hn)]; exact q
end
def Rd (H : Hp) (a : Addr) (u : HO) : Prop := H a = some u \/ ∃ o, H a = some (.cT o u)
theorem Rd.ok {P : Program} {w : World} {H : Hp} {h : Heap} {a : Addr} {u : HO} (r : Rd H a u) (x : nK P w H h) : eV P w H h a u := by
 rcases r with r | ⟨o, r⟩
 . exact x a u r
 . obtain ⟨_, q⟩ := x a _ r
   exact q
def OI : Option HO -> Prop
 | some (.lst _) => True
 | some (.dK _) => True
 | some (.dT _) => True
 | some (.set _ _) => True
 | some (.ins _ _ _) => True
 | some (.ext _) => True
 | some (.tabs _) => True
 | _ => False
section
variable {P : Program} {w : World} {H : Hp} {h h' : Heap} {x e : Addr} {o' : HO}
theorem nK.write (ok : nK P w H h) (mu : OI (H x)) (he : e = x \/ H e = some (.own x)) (k : ∀ b u, b ≠ e -> h.get? b = some u -> h'.get? b = some u) (Lg : ∃ u, h'.get? e = some u)
   (new : eV P w (upd H x o') h' x o') : nK P w (upd H x o') h' := fun b u q => by
 have LR : ∀ c y, H c = some (.own y) -> c ≠ x := fun c y r z => by subst z; rw [r] at mu; exact mu
 have PB : ∀ c xs, H c = some (.tup xs) -> c ≠ x := fun c xs r z => by subst z; rw [r] at mu; exact mu
 have PD : ∀ c q, H c = some (.zF q) -> c ≠ x := fun c q r z => by subst z; rw [r] at mu; exact mu
 by_cases hb : b = x
 . subst hb; rw [aK] at q; cases q; exact new
 . rw [au hb] at q
   by_cases Iv : b = e
   . have q' : H b = some (.own x) := by
       rcases he with z | z
       . exact absurd (Iv.trans z) hb
       . rw [Iv]; exact z
     rw [q] at q'; cases q'
     obtain ⟨v, hv⟩ := Lg
     exact ⟨v, by rw [Iv]; exact hv⟩
   . refine (ok b u q).vp (fun c v hc r => k c v ?_ r) (fun c r => by rw [au (LR c b r)]; exact r) (fun c xs r => by rw [au (PB c xs r)]; exact r) fun c z r => by rw [au (PD c z r)]; exact r
     rcases hc with rfl | hc
     . exact Iv
     . rintro rfl
       rcases he with z | z
       . exact LR c b hc z
       . rw [hc] at z; cases z; exact hb rfl
end
structure Un (fs ex : List Addr) (H H' : Hp) (h h' : Heap) : Prop where
 keep : ∀ b o, h.get? b = some o -> H b = none -> b ∉ fs -> b ∉ ex -> h'.get? b = some o
 slot : ∀ b o, h.get? b = some o -> H b = none -> b ∈ fs -> b ∉ ex -> ∃ sl, h'.get? b = some { o with slots := sl }
 free : ∀ b o, h.get? b = some o -> H b = none -> b ∉ ex -> H' b = none
 there : ∀ b o, h.get? b = some o -> b ∉ ex -> ∃ o', h'.get? b = some o'
 rX : ∀ b xs, H b = some (.tup xs) -> H' b = some (.tup xs)
 fu : ∀ b o u, H b = some (.cT o u) -> H' b = some (.cT o u)
 rY : ∀ b ps, H b = some (.Iu ps) -> ∃ more, H' b = some (.Iu (ps ++ more))
section
variable {fs S6 ex Va : List Addr} {H H1 H2 : Hp} {h h1 h2 h' : Heap} {a x e : Addr} {o : HO}
theorem Un.any (u : Un fs ex H H1 h h1) {b : Addr} {ob : Obj} (q : h.get? b = some ob) (n : H b = none) (hx : b ∉ ex) : ∃ sl, h1.get? b = some { ob with slots := sl } := by
 by_cases hb : b ∈ fs
 . exact u.slot b ob q n hb hx
 . exact ⟨ob.slots, u.keep b ob q n hb hx⟩
theorem Un.kept (k : ∀ b u, h.get? b = some u -> h'.get? b = some u) : Un fs ex H H h h' :=
 ⟨fun b ob q _ _ _ => k b ob q, fun b ob q _ _ _ => ⟨ob.slots, k b ob q⟩, fun _ _ _ n _ => n, fun b ob q _ => ⟨ob, k b ob q⟩, fun _ _ q => q, fun _ _ _ q => q, fun _ ps q => ⟨#[], by rw [q]; simp⟩⟩
theorem Un.refl : Un fs ex H H h h := Un.kept fun _ _ q => q
theorem Un.laid (k : ∀ b u, h.get? b = some u -> h'.get? b = some u) (hp : h.objs.size <= a) (hn : H a = none) : Un fs ex H (upd H a o) h h' where
 keep := fun b u q _ _ _ => k b u q
 slot := fun b u q _ _ _ => ⟨u.slots, k b u q⟩
 free := fun b u q n _ => by rw [au (Wd (V6 (VN q) hp))]; exact n
 there := fun b u q _ => ⟨u, k b u q⟩
 rX := fun b xs q => by rw [au (az q hn)]; exact q
 fu := fun b u xs q => by rw [au (az q hn)]; exact q
 rY := fun b ps q => ⟨#[], by rw [au (az q hn), q]; simp⟩
theorem Un.write (mu : OI (H x)) (he : e = x \/ H e = some (.own x)) (k : ∀ b u, b ≠ e -> h.get? b = some u -> h'.get? b = some u) (Lg : ∃ u, h'.get? e = some u) : Un fs ex H (upd H x o) h h' := by
 have hx : ∀ b, H b = none -> b ≠ x := fun b n z => by subst z; rw [n] at mu; exact mu
 have hb : ∀ b, H b = none -> b ≠ e := fun b n z => by
   subst z
   rcases he with r | r
   . exact hx b n r
   . rw [n] at r; cases r
 have hm : ∀ b u, H b = some u -> ¬ OI (some u) -> b ≠ x := fun b u q nm z => by subst z; rw [q] at mu; exact nm mu
 refine ⟨fun b u q n _ _ => k b u (hb b n) q, fun b u q n _ _ => ⟨u.slots, k b u (hb b n) q⟩, fun b u q n _ => by rw [au (hx b n)]; exact n, fun b u q _ => ?_,
   fun b xs q => by rw [au (hm b _ q fun z => z)]; exact q, fun b u xs q => by rw [au (hm b _ q fun z => z)]; exact q, fun b ps q => ⟨#[], by rw [au (hm b _ q fun z => z), q]; simp⟩⟩
 by_cases Iv : b = e
 . subst Iv; exact Lg
 . exact ⟨u, k b u Iv q⟩
end
def OJ (h : Heap) (H : Hp) : List Addr := (List.range h.objs.size).filter fun a => (H a).isSome
def qy (h : Heap) (H : Hp) : Heap := PySem.W.hideAll h (OJ h H)
theorem zG (h : Heap) (H : Hp) : (qy h H).objs.size = h.objs.size := PySem.W.hideAll_size _ _
theorem AY {h : Heap} {H : Hp} {b : Addr} {o : Obj} (e : h.get? b = some o) (n : H b = none) : (qy h H).get? b = some o :=
 PySem.W.hideAll_get _ e fun hm => by
   have q : (H b).isSome = true := (WX.mp hm).2
   rw [n] at q; simp at q
theorem DP {h : Heap} {H : Hp} {b : Addr} {o : Obj} (e : (qy h H).get? b = some o) : h.get? b = some o /\ H b = none := by
 have e' : h.get? b = some o := PySem.W.of_hideAll (OJ h H) e
 refine ⟨e', ?_⟩
 cases q : H b with
 | none => rfl
 | some x =>
   have hm : b ∈ OJ h H := WX.mpr ⟨W9.mpr (VN e'), by simp [q]⟩
   have z : (qy h H).get? b = none := PySem.W.hideAll_none (OJ h H) hm
   rw [z] at e; cases e
def DQ (g h : Heap) (L : Addr) : List (Addr × Obj) := (List.range h.objs.size).filterMap fun a => if a = L \/ (g.get? a).isSome = true then none else (h.get? a).map fun o => (a, o)
def rest (g h : Heap) (L d : Addr) : List (Addr × Obj) := (DQ g h L).filter fun p => decide (p.1 ≠ d)
structure Mod (K : PySem.W.Frag) (mg : Str -> Option Value) (base : Heap) : Prop where
 OL : K.In base
 glob : base.Ns mainGlobals mg
 blt : ∃ mb, base.Ns builtinsNs mb /\ ∀ x : Str, x ≠ "__name__" -> mb x = bootBuiltins x
 nolimit : base.NoLimit
structure Cx where
 prog : Program
 w : World
 K : PySem.W.Frag
 mg : Str -> Option Value
 base : Heap
 A : Around
 N : List Str
 s₀ : Shared
 H₀ : Hp
 env : Env
 outer : List Env
 stack : List Env
 ex : List Addr
 fn : Str -> Bool
 calm : Bool
 pn : List (Addr × Obj)
 xe : Value -> Shared -> Prop
def AU (l : List Env) : List Addr := l.filterMap (·.frame)
abbrev Cx.fs (X : Cx) : List Addr := AU X.outer
def Iw (sc : Scope) (x : Str) : Prop := sc.names.lookup x = some .local \/ sc.names.lookup x = some .cell \/ sc.names.lookup x = some .free
def Loc (sc : Scope) (x : Str) : Prop := sc.names.lookup x = some .local \/ sc.names.lookup x = some .cell
def Look (env : Env) (h : Heap) (m : Str -> Option Value) (x : Str) (u : Value) : Prop :=
 (env.kindOf x = some .local /\ m x = some u) \/ ((env.kindOf x = some .cell \/ env.kindOf x = some .free) /\ ∃ c, env.cells.lookup x = some c /\ h.IsCell c (some u))
structure Cx.Ok (X : Cx) : Prop where
 mod : Mod X.K X.mg X.base
 kind : X.env.scope.kind = .function
 glob : X.env.globals = mainGlobals
 blt : X.env.builtins = builtinsNs
 above : X.s₀.heap.objs.size <= X.env.locals
 inj : ∀ x y c, X.env.cells.lookup x = some c -> X.env.cells.lookup y = some c -> x = y
 has : ∀ x, (X.env.kindOf x = some .cell \/ X.env.kindOf x = some .free) -> ∃ c, X.env.cells.lookup x = some c
 LV : ∀ x c, X.fn x = true -> X.env.cells.lookup x = some c -> X.s₀.heap.objs.size <= c
 hd : X.calm = true -> X.A.handled = none
 frames : X.A.frames = some X.stack
 OO : X.stack = X.outer \/ (X.stack = X.env :: X.outer /\ X.env.frame = some X.env.locals)
 RA : ∀ b ∈ X.ex, b ≠ X.env.locals /\ ∀ x c, X.env.cells.lookup x = some c -> c ≠ b
 bs : ∀ b o, X.base.get? b = some o -> X.s₀.heap.get? b = some o /\ X.H₀ b = none
 DG : X.base.objs.size <= X.s₀.heap.objs.size
 AZ : ∀ b o, X.base.get? b = some o -> b ∉ X.ex
 DR : ∀ b ∈ X.ex, b ∉ X.fs
 nL : X.s₀.heap.FunFrames X.base X.outer
 Iz : ∀ b ∈ X.fs, X.H₀ b = none
structure Inv (X : Cx) (pins : List (Addr × Obj)) (σ : List (Option V)) (H : Hp) (s : Shared) : Prop where
 ok : X.Ok
 os : s.os = X.s₀.os
 bare : AllBare s.gens
 base : Un X.fs X.ex X.H₀ H X.s₀.heap s.heap
 loc : ∃ m, s.heap.Ns X.env.locals m /\ ∀ (i : Nat) (x : Str) (v : V), X.N[i]? = some x -> σ[i]? = some (some v) -> Iw X.env.scope x -> ∃ u, RelV v u /\ Look X.env s.heap m x u
 cell : ∀ x c, X.env.cells.lookup x = some c -> ∃ v, s.heap.IsCell c v
 free : H X.env.locals = none
 iV : ∀ x c, X.env.cells.lookup x = some c -> H c = none
 pin : ∀ p ∈ X.pn ++ pins, s.heap.get? p.1 = some p.2 /\ H p.1 = none /\ p.1 ≠ X.env.locals /\ p.1 ∉ X.fs /\ ∀ v, p.2.data ≠ .cell v
 cK : nK X.prog X.w H s.heap
 len : σ.length = X.N.length
section
variable {X : Cx} {pins : List (Addr × Obj)} {σ : List (Option V)} {H H' : Hp} {s : Shared} {h' : Heap}
theorem Cx.Ok.PF (ok : X.Ok) {b : Addr} {o : Obj} (e : X.base.get? b = some o) : b ∉ X.fs := fun hb => by
 have := (ok.nL.mem hb).1
 rw [e] at this; cases this
theorem Inv.bs (I : Inv X pins σ H s) : ∀ b o, X.base.get? b = some o -> s.heap.get? b = some o /\ H b = none := fun b o e =>
 ⟨I.base.keep b o (I.ok.bs b o e).1 (I.ok.bs b o e).2 (I.ok.PF e) (I.ok.AZ b o e), I.base.free b o (I.ok.bs b o e).1 (I.ok.bs b o e).2 (I.ok.AZ b o e)⟩
theorem Inv.bk (I : Inv X pins σ H s) : ∀ b o, X.base.get? b = some o -> s.heap.get? b = some o := fun b o e => (I.bs b o e).1
theorem Inv.mod (I : Inv X pins σ H s) : Mod X.K X.mg X.base := I.ok.mod
theorem Inv.vn (I : Inv X pins σ H s) : X.K.In s.heap := I.ok.mod.OL.keeps I.bk
theorem Inv.nolimit (I : Inv X pins σ H s) : s.heap.NoLimit := I.ok.mod.nolimit.keeps I.bk
theorem Inv.lt (I : Inv X pins σ H s) : X.env.locals < s.heap.objs.size := let ⟨_, hn, _⟩ := I.loc; hn.lt
theorem Inv.sz (I : Inv X pins σ H s) : X.s₀.heap.objs.size <= s.heap.objs.size := Wk I.ok.above (WG I.lt)
theorem Inv.PJ (I : Inv X pins σ H s) {a : Addr} (h : s.heap.objs.size <= a) : a ∉ X.fs := fun hb => by
 obtain ⟨_, o, ho, _⟩ := I.ok.nL.mem hb
 exact absurd (V6 (VN ho) (Wk I.sz h)) (Xg _)
theorem Inv.IA (I : Inv X pins σ H s) : ∀ x c, X.env.cells.lookup x = some c -> c ≠ X.env.locals := fun x c e z => by
 obtain ⟨v, o, ho, hd⟩ := I.cell x c e
 obtain ⟨m, ⟨o', es, ep, IB, IC, _⟩, _⟩ := I.loc
 rw [z, IB] at ho; cases ho; rw [IC] at hd; cases hd
theorem Inv.nL (I : Inv X pins σ H s) : s.heap.FunFrames X.base X.outer := by
 have all : ∀ (l : List Env), (∀ b ∈ AU l, b ∈ X.fs) -> X.s₀.heap.FunFrames X.base l -> s.heap.FunFrames X.base l := by
   intro l
   induction l with
   | nil => intro _ _; trivial
   | cons env r ih =>
     intro hs hl
     obtain ⟨hk, ⟨L, o, hf, hn, ho, hd⟩, hr⟩ := hl
     have hL : L ∈ X.fs := hs L (by unfold AU; rw [Wy, hf]; exact VJ)
     obtain ⟨sl, e⟩ := I.base.slot L o ho (I.ok.Iz L hL) hL fun z => I.ok.DR L z hL
     exact ⟨hk, ⟨L, _, hf, hn, e, hd⟩, ih (fun b hb => hs b (by unfold AU; rw [Wy, hf]; exact VH _ hb)) hr⟩
 exact all X.outer (fun _ hb => hb) I.ok.nL
theorem Inv.stack (I : Inv X pins σ H s) : s.heap.FunFrames X.base X.stack := by
 rcases I.ok.OO with e | ⟨e, hf⟩
 . rw [e]; exact I.nL
 . rw [e]
   obtain ⟨m, hn, _⟩ := I.loc
   refine .cons (by rw [I.ok.kind]; decide) hf hn ?_ I.nL
   exact Heap.get?_none_of_le (Wk I.ok.DG I.ok.above)
theorem Inv.rZ (I : Inv X pins σ H s) : ∀ b ∈ AU X.stack, b ∈ X.env.locals :: X.fs := fun b hb => by
 rcases I.ok.OO with e | ⟨e, hf⟩
 . rw [e] at hb; exact VH _ hb
 . rw [e] at hb
   unfold AU at hb
   rw [Wy, hf] at hb
   exact hb
theorem Inv.r6 (I : Inv X pins σ H s) : ∀ b ∈ AU X.stack, H b = none := fun b hb => by
 rcases VC.mp (I.rZ b hb) with e | hb
 . rw [e]; exact I.free
 . obtain ⟨_, o, ho, _⟩ := I.ok.nL.mem hb
   exact I.base.free b o ho (I.ok.Iz b hb) fun z => I.ok.DR b z hb
theorem Inv.step {g' : Array GenState} {t' : Nat} {d' : Drawn} {ch : List Addr} (I : Inv X pins σ H s)
   (HC : ∀ b ∈ ch, (b ∈ X.ex \/ X.s₀.heap.objs.size <= b) /\ b ≠ X.env.locals /\ (∀ x c, X.env.cells.lookup x = some c -> c ≠ b) /\ ∀ p ∈ X.pn ++ pins, p.1 ≠ b)
   (keep : ∀ b o, b ≠ X.env.locals -> b ∉ X.fs -> b ∉ ch -> s.heap.get? b = some o -> H b = none -> h'.get? b = some o)
   (slot : ∀ b o, b ≠ X.env.locals -> b ∈ X.fs -> b ∉ ch -> s.heap.get? b = some o -> H b = none -> ∃ sl, h'.get? b = some { o with slots := sl }) (free : ∀ b o, b ∉ ch -> s.heap.get? b = some o -> H b = none -> H' b = none)
   (there : ∀ b o, b ∉ ch -> s.heap.get? b = some o -> ∃ o', h'.get? b = some o')
   (rX : ∀ b xs, H b = some (.tup xs) -> H' b = some (.tup xs)) (fu : ∀ b o u, H b = some (.cT o u) -> H' b = some (.cT o u)) (rY : ∀ b ps, H b = some (.Iu ps) -> ∃ more, H' b = some (.Iu (ps ++ more)))
   (ns : ∀ m, s.heap.Ns X.env.locals m -> h'.Ns X.env.locals m) (cK : nK X.prog X.w H' h') (hg : AllBare g') :
   Inv X pins σ H' { s with heap := h', gens := g', drawn := d', toks := t' } := by
 have RB : ∀ b o, X.s₀.heap.get? b = some o -> b ≠ X.env.locals := fun b o e => Wd (V6 (VN e) I.ok.above)
 have OQ : ∀ b o, X.s₀.heap.get? b = some o -> b ∉ X.ex -> b ∉ ch := fun b o e hx hb => by
   rcases (HC b hb).1 with z | z
   . exact hx z
   . exact absurd (V6 (VN e) z) (Xg _)
 have cellK : ∀ x c, X.env.cells.lookup x = some c -> ∀ v, s.heap.IsCell c v -> h'.IsCell c v := fun x c e v ⟨o, ho, hd⟩ => by
   have LW : c ∉ ch := fun z => (HC c z).2.2.1 x c e rfl
   by_cases hc : c ∈ X.fs
   . obtain ⟨sl, q⟩ := slot c o (I.IA x c e) hc LW ho (I.iV x c e)
     exact ⟨_, q, hd⟩
   . exact ⟨o, keep c o (I.IA x c e) hc LW ho (I.iV x c e), hd⟩
 refine ⟨I.ok, I.os, hg, ⟨fun b o e n hb hx => ?_, fun b o e n hb hx => ?_, fun b o e n hx => ?_, fun b o e hx => ?_, fun b xs e => rX b xs (I.base.rX b xs e), fun b o xs e => fu b o xs (I.base.fu b o xs e), fun b ps e => ?_⟩, ?_, fun x c e => ?_, ?_, fun x c e => ?_, fun p hp => ?_, cK, I.len⟩
 . exact keep b o (RB b o e) hb (OQ b o e hx) (I.base.keep b o e n hb hx) (I.base.free b o e n hx)
 . obtain ⟨sl, e1⟩ := I.base.slot b o e n hb hx
   obtain ⟨S7, e2⟩ := slot b _ (RB b o e) hb (OQ b o e hx) e1 (I.base.free b o e n hx)
   exact ⟨S7, e2⟩
 . obtain ⟨o', e1⟩ := I.base.there b o e hx
   exact free b o' (OQ b o e hx) e1 (I.base.free b o e n hx)
 . obtain ⟨o', e1⟩ := I.base.there b o e hx
   exact there b o' (OQ b o e hx) e1
 . obtain ⟨m1, e1⟩ := I.base.rY b ps e
   obtain ⟨m2, e2⟩ := rY b _ e1
   exact ⟨m1 ++ m2, by rw [e2, Array.append_assoc]⟩
 . obtain ⟨m, hn, hl⟩ := I.loc
   refine ⟨m, ns m hn, fun i x v e1 e2 e3 => ?_⟩
   obtain ⟨u, r, l⟩ := hl i x v e1 e2 e3
   refine ⟨u, r, ?_⟩
   rcases l with l | ⟨k, c, e, z⟩
   . exact .inl l
   . exact .inr ⟨k, c, e, cellK x c e _ z⟩
 . obtain ⟨v, z⟩ := I.cell x c e
   exact ⟨v, cellK x c e v z⟩
 . obtain ⟨m, ⟨o, _, _, ho, _⟩, _⟩ := I.loc
   exact free _ o (fun z => (HC _ z).2.1 rfl) ho I.free
 . obtain ⟨v, o, ho, hd⟩ := I.cell x c e
   exact free c o (fun z => (HC c z).2.2.1 x c e rfl) ho (I.iV x c e)
 . obtain ⟨e, n, ne, nf, d⟩ := I.pin p hp
   have LW : p.1 ∉ ch := fun z => (HC p.1 z).2.2.2 p hp rfl
   exact ⟨keep p.1 p.2 ne nf LW e n, free p.1 p.2 LW e n, ne, nf, d⟩
theorem Inv.un {t' : Nat} (I : Inv X pins σ H s) (u : Un X.fs [] H H' s.heap h') (cK : nK X.prog X.w H' h') : Inv X pins σ H' { s with heap := h', toks := t' } := by
 obtain ⟨m, ⟨o, es, ep, ho, r⟩, _⟩ := id I.loc
 obtain ⟨sl, hL⟩ := u.any ho I.free (by simp)
 exact I.step (g' := s.gens) (d' := s.drawn) (ch := []) (fun _ z => nomatch z) (fun b o _ hb _ e n => u.keep b o e n hb (by simp)) (fun b o _ hb _ e n => u.slot b o e n hb (by simp)) (fun b o _ e n => u.free b o e n (by simp)) (fun b o _ e => u.there b o e (by simp)) u.rX u.fu u.rY (fun m' hm => by
   obtain ⟨o', PL, PN, IB, r'⟩ := hm
   rw [ho] at IB; cases IB
   exact ⟨_, PL, PN, hL, r'⟩) cK I.bare
theorem Inv.call {g' : Array GenState} {t' : Nat} {d' : Drawn} {ch : List Addr} (I : Inv X pins σ H s) (u : Un (AU X.stack) ch H H' s.heap h') (cK : nK X.prog X.w H' h') (hg : AllBare g')
   (HC : ∀ b ∈ ch, (b ∈ X.ex \/ X.s₀.heap.objs.size <= b) /\ b ≠ X.env.locals /\ (∀ x c, X.env.cells.lookup x = some c -> c ≠ b) /\ ∀ p ∈ X.pn ++ pins, p.1 ≠ b) :
   Inv X pins σ H' { s with heap := h', gens := g', drawn := d', toks := t' } := by
 obtain ⟨m, ⟨o, es, ep, ho, r⟩, _⟩ := id I.loc
 obtain ⟨sl, hL⟩ := u.any ho I.free fun z => (HC _ z).2.1 rfl
 exact I.step (ch := ch) HC (fun b o hL hb hc e n => u.keep b o e n (fun z => (VC.mp (I.rZ b z)).elim hL hb) hc) (fun b o _ _ hc e n => u.any e n hc) (fun b o hc e n => u.free b o e n hc) (fun b o hc e => u.there b o e hc) u.rX u.fu u.rY (fun m' hm => by
   obtain ⟨o', PL, PN, IB, r'⟩ := hm
   rw [ho] at IB; cases IB
   exact ⟨_, PL, PN, hL, r'⟩) cK hg
theorem Inv.turned {t' : Nat} {it : Addr} (I : Inv X pins σ H s) (k : ∀ b o, b ≠ it -> s.heap.get? b = some o -> h'.get? b = some o) (hn : H it = none) (hL : it ≠ X.env.locals)
   (h1 : it ∈ X.ex \/ X.s₀.heap.objs.size <= it) (h2 : ∀ x c, X.env.cells.lookup x = some c -> c ≠ it) (h3 : ∀ p ∈ X.pn ++ pins, p.1 ≠ it) : Inv X pins σ H { s with heap := h', toks := t' } := by
 have RC : ∀ b u, H b = some u -> b ≠ it := fun b u e z => by rw [z, hn] at e; cases e
 refine I.step (g' := s.gens) (d' := s.drawn) (ch := [it]) (fun b hb => ?_) (fun b o _ _ hc e _ => k b o (fun z => hc (by simp [z])) e) (fun b o _ _ hc e _ => ⟨o.slots, k b o (fun z => hc (by simp [z])) e⟩) (fun _ _ _ _ n => n)
   (fun b o hc e => ⟨o, k b o (fun z => hc (by simp [z])) e⟩) (fun _ _ e => e) (fun _ _ _ e => e) (fun b ps e => ⟨#[], by rw [e]; simp⟩) (fun m hm => ?_) (fun b u e => ?_) I.bare
 . have e : b = it := by simpa using hb
   subst e
   exact ⟨h1, hL, h2, h3⟩
 . obtain ⟨o, es, ep, ho, r⟩ := hm
   exact ⟨o, es, ep, k _ o (Ne.symm hL) ho, r⟩
 . refine (I.cK b u e).vp (fun c v hc q => k c v ?_ q) (fun _ q => q) fun _ _ q => q
   rcases hc with z | z
   . rw [z]; exact RC b u e
   . exact RC c _ z
theorem Inv.tok (I : Inv X pins σ H s) (t : Nat) : Inv X pins σ H { s with toks := t } := I.un (h' := s.heap) (t' := t) Un.refl I.cK
theorem Inv.kept {t' : Nat} (I : Inv X pins σ H s) (k : ∀ b u, s.heap.get? b = some u -> h'.get? b = some u) : Inv X pins σ H { s with heap := h', toks := t' } := I.un (Un.kept k) (I.cK.kept k)
theorem Inv.laid {a : Addr} {o : HO} {t' : Nat} (I : Inv X pins σ H s) (k : ∀ b u, s.heap.get? b = some u -> h'.get? b = some u) (hp : s.heap.objs.size <= a) (new : eV X.prog X.w (upd H a o) h' a o) :
   Inv X pins σ (upd H a o) { s with heap := h', toks := t' } := I.un (Un.laid k hp (I.cK.fresh hp)) (I.cK.laid k hp new)
theorem Inv.write {x e : Addr} {o : HO} {t' : Nat} (I : Inv X pins σ H s) (mu : OI (H x)) (he : e = x \/ H e = some (.own x)) (k : ∀ b u, b ≠ e -> s.heap.get? b = some u -> h'.get? b = some u) (Lg : ∃ u, h'.get? e = some u)
   (new : eV X.prog X.w (upd H x o) h' x o) : Inv X pins σ (upd H x o) { s with heap := h', toks := t' } := I.un (Un.write mu he k Lg) (I.cK.write mu he k Lg new)
theorem Inv.nW {fK : List (Addr × Obj)} (I : Inv X pins σ H s) (h : ∀ p ∈ fK, s.heap.get? p.1 = some p.2 /\ H p.1 = none /\ p.1 ≠ X.env.locals /\ p.1 ∉ X.fs /\ ∀ v, p.2.data ≠ .cell v) : Inv X fK σ H s :=
 ⟨I.ok, I.os, I.bare, I.base, I.loc, I.cell, I.free, I.iV, fun p hp => (VZ.mp hp).elim (fun z => I.pin p (VQ _ z)) (h p), I.cK, I.len⟩
theorem vq {N : List Str} (hN : N.Nodup) {i j : Nat} {x : Str} (a : N[i]? = some x) (b : N[j]? = some x) : i = j := by
 obtain ⟨h1, e1⟩ := WC.mp a
 obtain ⟨h2, e2⟩ := WC.mp b
 exact (List.getElem_inj hN).mp (e1.trans e2.symm)
theorem zH {M : Model} {A : Around} {E : Value -> Shared -> Prop} {i : Nat} {x : Str} {v : V} {u : Value} {Q : Unit -> Shared -> Prop} (I : Inv X pins σ H s) (hN : X.N.Nodup) (hi : X.N[i]? = some x) (hx : Loc X.env.scope x) (r : RelV v u)
   (h : ∀ s', Inv X pins (σ.set i (some v)) H s' -> (∃ a, Heap.SameBut a s.heap s'.heap /\ (a = X.env.locals \/ X.env.cells.lookup x = some a)) -> Q () s') (hf : X.fn x = true \/ X.env.scope.names.lookup x = some .local := by first | exact .inl rfl | exact .inr rfl | assumption) : wpAny M A (storeName X.env x u) Q E s := by
 obtain ⟨m, hn, hl⟩ := id I.loc
 have PR : (X.env.scope.kind == .class || (X.env.scope.kind == .module && X.env.locals != X.env.globals)) = false := by rw [I.ok.kind]; rfl
 have LX : i < σ.length := by rw [I.len]; exact (WC.mp hi).1
 have IA := I.IA
 have tracked : ∀ {a : Addr} {h' : Heap}, (∃ o, s.heap.get? a = some o /\ H a = none) -> Heap.SameBut a s.heap h' -> nK X.prog X.w H h' := fun {a h'} ha hs b ob e => by
   obtain ⟨_, _, vt⟩ := ha
   refine (I.cK b ob e).vp (fun c w' hc q => (hs.2 c ?_).trans q) (fun _ q => q) fun _ _ q => q
   rintro rfl
   rcases hc with rfl | hc
   . rw [vt] at e; cases e
   . rw [vt] at hc; cases hc
 rcases hx with hk | hk
 . refine wpAny_storeName_local hk hn (fun h' S8 hs => ?_) PR
   obtain ⟨oL, _, _, OS, _⟩ := id hn
   refine h _ ⟨I.ok, I.os, I.bare, ⟨fun b o e n hb hx => ?_, fun b o e n hb hx => ?_, I.base.free, fun b o e hx => ?_, I.base.rX, I.base.fu, I.base.rY⟩, ⟨_, S8, fun j y v' e1 e2 e3 => ?_⟩, fun y c e => ?_, I.free, I.iV, fun p hp => ?_, tracked ⟨oL, OS, I.free⟩ hs, by simpa using I.len⟩ ⟨_, hs, .inl rfl⟩
   . exact (hs.2 b (Wd (V6 (VN e) I.ok.above))).trans (I.base.keep b o e n hb hx)
   . obtain ⟨sl, e1⟩ := I.base.slot b o e n hb hx
     exact ⟨sl, (hs.2 b (Wd (V6 (VN e) I.ok.above))).trans e1⟩
   . obtain ⟨o', e1⟩ := I.base.there b o e hx
     exact ⟨o', (hs.2 b (Wd (V6 (VN e) I.ok.above))).trans e1⟩
   . by_cases hj : j = i
     . subst hj
       rw [hi] at e1; cases e1
       rw [List.getElem?_set_self LX] at e2
       cases e2
       exact ⟨u, r, .inl ⟨hk, by simp⟩⟩
     . rw [List.getElem?_set_ne (Ne.symm hj)] at e2
       obtain ⟨u', r', q⟩ := hl j y v' e1 e2 e3
       refine ⟨u', r', ?_⟩
       rcases q with ⟨k, e⟩ | ⟨k, c, e, z⟩
       . refine .inl ⟨k, ?_⟩
         have : y ≠ x := fun e => hj (vq hN e1 (e ▸ hi))
         simp [this, e]
       . exact .inr ⟨k, c, e, z.sameBut hs (IA y c e)⟩
   . obtain ⟨w', z⟩ := I.cell y c e
     exact ⟨w', z.sameBut hs (IA y c e)⟩
   . obtain ⟨e, n, ne, nf, d⟩ := I.pin p hp
     exact ⟨(hs.2 p.1 ne).trans e, n, ne, nf, d⟩
 . have PV : X.fn x = true := by
     rcases hf with z | z
     . exact z
     . rw [z] at hk; cases hk
   obtain ⟨c, hc⟩ := I.ok.has x (.inl hk)
   obtain ⟨w', z⟩ := I.cell x c hc
   refine wpAny_storeName_cell I.ok.kind hk hc z (fun h' A0 hs => ?_)
   obtain ⟨oc, Lh, PX⟩ := id z
   refine h { s with heap := h' } ⟨I.ok, I.os, I.bare, ⟨fun b o e n hb hx => ?_, fun b o e n hb hx => ?_, I.base.free, fun b o e hx => ?_, I.base.rX, I.base.fu, I.base.rY⟩, ⟨m, hn.sameBut hs (Ne.symm (IA x c hc)), fun j y v' e1 e2 e3 => ?_⟩, fun y c' e => ?_, I.free, I.iV, fun p hp => ?_, tracked ⟨oc, Lh, I.iV x c hc⟩ hs, by simpa using I.len⟩ ⟨c, hs, .inr hc⟩
   . exact (hs.2 b (Wd (V6 (VN e) (I.ok.LV x c PV hc)))).trans (I.base.keep b o e n hb hx)
   . obtain ⟨sl, e1⟩ := I.base.slot b o e n hb hx
     exact ⟨sl, (hs.2 b (Wd (V6 (VN e) (I.ok.LV x c PV hc)))).trans e1⟩
   . obtain ⟨o', e1⟩ := I.base.there b o e hx
     exact ⟨o', (hs.2 b (Wd (V6 (VN e) (I.ok.LV x c PV hc)))).trans e1⟩
   . by_cases hj : j = i
     . subst hj
       rw [hi] at e1; cases e1
       rw [List.getElem?_set_self LX] at e2
       cases e2
       exact ⟨u, r, .inr ⟨.inl hk, c, hc, A0⟩⟩
     . rw [List.getElem?_set_ne (Ne.symm hj)] at e2
       obtain ⟨u', r', q⟩ := hl j y v' e1 e2 e3
       refine ⟨u', r', ?_⟩
       rcases q with q | ⟨k, c', e, z'⟩
       . exact .inl q
       . refine .inr ⟨k, c', e, z'.sameBut hs ?_⟩
         rintro rfl
         exact hj (vq hN e1 (I.ok.inj _ _ _ e hc ▸ hi))
   . by_cases RD : c' = c
     . subst RD; exact ⟨_, A0⟩
     . obtain ⟨w2, z2⟩ := I.cell y c' e
       exact ⟨w2, z2.sameBut hs RD⟩
   . obtain ⟨e, n, ne, nf, d⟩ := I.pin p hp
     refine ⟨(hs.2 p.1 ?_).trans e, n, ne, nf, d⟩
     intro q
     rw [q, Lh] at e
     have q' : oc = p.2 := VR e
     exact d w' (by rw [← q']; exact PX)
theorem vv {M : Model} {A : Around} {E : Value -> Shared -> Prop} {i : Nat} {x : Str} {v : V} {u : Value} {Q : Unit -> Shared -> Prop} (I : Inv X pins σ H s) (hN : X.N.Nodup) (hi : X.N[i]? = some x) (hx : Loc X.env.scope x) (r : RelV v u)
   (h : ∀ s', Inv X pins (σ.set i (some v)) H s' -> Q () s') (hf : X.fn x = true \/ X.env.scope.names.lookup x = some .local := by first | exact .inl rfl | exact .inr rfl | assumption) : wpAny M A (storeName X.env x u) Q E s :=
 zH I hN hi hx r (fun s' I' _ => h s' I') hf
end
abbrev XK := Value -> Option Addr -> Hp -> Prop
abbrev St := List (Option V)
abbrev VK := V -> Hp -> Prop
abbrev TE := St -> Hp -> VK -> Prop
abbrev TT := St -> Hp -> (Bool -> Hp -> Prop) -> Prop
abbrev TA := St -> Hp -> (List V -> Hp -> Prop) -> Prop
structure Ends where
 nx : St -> Hp -> Prop
 rt : VK
 bk : St -> Hp -> Prop := fun _ _ => False
 ct : St -> Hp -> Prop := fun _ _ => False
abbrev TS := Ends -> St -> Hp -> Prop
def EP (X : Cx) (pins : List (Addr × Obj)) (σ : St) (Q : VK) (u : Value) (s' : Shared) : Prop := ∃ v H', Inv X pins σ H' s' /\ RelV v u /\ Q v H'
def TP (X : Cx) (pins : List (Addr × Obj)) (σ : St) (Q : Bool -> Hp -> Prop) (b : Bool) (s' : Shared) : Prop := ∃ H', Inv X pins σ H' s' /\ Q b H'
def AP (X : Cx) (pins : List (Addr × Obj)) (σ : St) (Q : List V -> Hp -> Prop) (us : List Value) (s' : Shared) : Prop := ∃ vs H', Inv X pins σ H' s' /\ Vals vs us /\ Q vs H'
def SP (X : Cx) (pins : List (Addr × Obj)) (D : Ends) (f : Flow) (s' : Shared) : Prop :=
 match f with
 | .next => ∃ σ' H', Inv X pins σ' H' s' /\ D.nx σ' H'
 | .brk => ∃ σ' H', Inv X pins σ' H' s' /\ D.bk σ' H'
 | .cont => ∃ σ' H', Inv X pins σ' H' s' /\ D.ct σ' H'
 | .ret u => ∃ v σ' H', Inv X pins σ' H' s' /\ RelV v u /\ D.rt v H'
def PE (X : Cx) (e : Expr) (t : TE) : Prop :=
 ∀ (pins : List (Addr × Obj)) (s : Shared) (σ : St) (H : Hp) (Q : VK), Inv X pins σ H s -> t σ H Q -> wpAny (model X.prog X.w) X.A (eval e X.env) (EP X pins σ Q) X.xe s
def PT (X : Cx) (e : Expr) (t : TT) : Prop :=
 ∀ (pins : List (Addr × Obj)) (s : Shared) (σ : St) (H : Hp) (Q : Bool -> Hp -> Prop), Inv X pins σ H s -> t σ H Q -> wpAny (model X.prog X.w) X.A (isTrue e X.env (eval e X.env)) (TP X pins σ Q) X.xe s
def PW (X : Cx) (e : Expr) (t : TT) : Prop :=
 ∀ (whole : Sem Value) (pins : List (Addr × Obj)) (s : Shared) (σ : St) (H : Hp) (Q : Bool -> Hp -> Prop), Inv X pins σ H s -> t σ H Q -> wpAny (model X.prog X.w) X.A (isTrue e X.env whole) (TP X pins σ Q) X.xe s
def PA (X : Cx) (es : List Expr) (t : TA) : Prop :=
 ∀ (pos : Pos) (pins : List (Addr × Obj)) (s : Shared) (σ : St) (H : Hp) (Q : List V -> Hp -> Prop), Inv X pins σ H s -> t σ H Q -> wpAny (model X.prog X.w) X.A (spliced (backTo pos (starEach es X.env))) (AP X pins σ Q) X.xe s
def PS (X : Cx) (st : Stmt) (t : TS) : Prop :=
 ∀ (pins : List (Addr × Obj)) (s : Shared) (σ : St) (H : Hp) (D : Ends), Inv X pins σ H s -> t D σ H -> wpAny (model X.prog X.w) X.A (exec st X.env) (SP X pins D) X.xe s
def xF (X : Cx) (st : List Stmt) (t : TS) : Prop :=
 ∀ (pins : List (Addr × Obj)) (s : Shared) (σ : St) (H : Hp) (D : Ends), Inv X pins σ H s -> t D σ H -> wpAny (model X.prog X.w) X.A (execs st X.env) (SP X pins D) X.xe s
theorem cR {α : Type} {t : Sem α} {Q Q' : α -> Shared -> Prop} {M : Model} {A : Around} {E : Value -> Shared -> Prop} {s : Shared} (h : wpAny M A t Q E s) (hQ : ∀ a s, Q a s -> Q' a s) : wpAny M A t Q' E s := WL h hQ fun _ _ x => x
section
variable {X : Cx}
theorem bin {a b : Expr} {ta tb : TE} (ha : PE X a ta) (hb : PE X b tb) {pins : List (Addr × Obj)} {s : Shared} {σ : St} {H : Hp} {R : V -> V -> Hp -> Prop} (I : Inv X pins σ H s) (h : ta σ H fun x H1 => tb σ H1 fun y H2 => R x y H2)
   {α : Type} {Q : α -> Shared -> Prop} {f : Value -> Value -> Sem α}
   (hf : ∀ v u s2 x y H2, Inv X pins σ H2 s2 -> RelV x v -> RelV y u -> R x y H2 -> wpAny (model X.prog X.w) X.A (f v u) Q X.xe s2) :
   wpAny (model X.prog X.w) X.A (eval a X.env) (fun v s₁ => wpAny (model X.prog X.w) X.A (eval b X.env) (fun u s₂ => wpAny (model X.prog X.w) X.A (f v u) Q X.xe s₂) X.xe s₁) X.xe s := by
 refine cR (ha pins s σ H _ I h) fun v s1 ⟨x, H1, I1, r1, q1⟩ => ?_
 refine cR (hb pins s1 σ H1 _ I1 q1) fun u s2 ⟨y, H2, I2, r2, q2⟩ => ?_
 exact hf v u s2 x y H2 I2 r1 r2 q2
def PY (i : Nat) : TE := fun σ H Q => ∃ v, σ[i]? = some (some v) /\ Q v H
def tC (v : V) : TE := fun _ H Q => Q v H
theorem lY {i : Nat} {x : Str} {pos : Pos} (hN : X.N[i]? = some x) (hv : Iw X.env.scope x) (hd : (x == ("__debug__" : Str)) = false := by decide) (gY : (x == ("__classdict__" : Str)) = false := by decide) : PE X (.Name x pos) (PY i) := by
 intro pins s σ H Q I h
 obtain ⟨v, e, h⟩ := h
 obtain ⟨m, hn, hl⟩ := I.loc
 obtain ⟨u, r, l⟩ := hl i x v hN e hv
 have fin : EP X pins σ Q u s := ⟨v, H, I, r, h⟩
 rcases l with ⟨hk, hm⟩ | ⟨hk, c, hc, m8⟩
 . exact wpAny_Name (wpAny_loadName_local I.ok.kind hk hn hm fin) hd
 . rcases hk with hk | hk
   . exact wpAny_Name (wpAny_loadName_cell I.ok.kind hk hc m8 fin) hd
   . exact wpAny_Name (wpAny_loadName_free I.ok.kind hk hc m8 fin gY) hd
theorem IE {i j pos} : PE X (.Constant (.int i) j pos) (tC (.int i)) := fun _ _ _ H _ I h => wpAny_Constant_int ⟨.int i, H, I.tok _, ⟨_, rfl⟩, h⟩
theorem IG {x j pos} : PE X (.Constant (.str x) j pos) (tC (.str x)) := fun _ _ _ H _ I h => Calls.Constant_str ⟨.str x, H, I.tok _, ⟨_, rfl⟩, h⟩
def Gl (X : Cx) (x : Str) : Prop := X.env.kindOf x = some .globalImplicit
theorem nX {E : Value -> Shared -> Prop} {pins : List (Addr × Obj)} {s : Shared} {σ : St} {H : Hp} {x : Str} {u : Value} {pos : Pos} {Q : Value -> Shared -> Prop} (I : Inv X pins σ H s) (hg : Gl X x) (hm : X.mg x = some u) (h : Q u s)
   (hd : (x == ("__debug__" : Str)) = false := by decide) : wpAny (model X.prog X.w) X.A (eval (.Name x pos) X.env) Q E s :=
 Calls.Name_function_global I.ok.kind hg (Calls.loadGlobal_global (by rw [I.ok.glob]; exact I.mod.glob.keeps I.bk) hm h) hd
theorem lZ {E : Value -> Shared -> Prop} {pins : List (Addr × Obj)} {s : Shared} {σ : St} {H : Hp} {x : Str} {u : Value} {pos : Pos} {Q : Value -> Shared -> Prop} (I : Inv X pins σ H s) (hg : Gl X x) (hm : X.mg x = none) (hv : bootBuiltins x = some u) (h : Q u s)
   (hn : x ≠ "__name__" := by decide) (hd : (x == ("__debug__" : Str)) = false := by decide) : wpAny (model X.prog X.w) X.A (eval (.Name x pos) X.env) Q E s := by
 obtain ⟨mb, h1, h2⟩ := I.mod.blt
 exact Calls.Name_function_global I.ok.kind hg (Calls.loadGlobal_builtin (by rw [I.ok.glob]; exact I.mod.glob.keeps I.bk) hm (by rw [I.ok.blt]; exact h1.keeps I.bk) ((h2 x hn).trans hv) h) hd
theorem DS {x : Str} {v : V} {u : Value} {pos : Pos} (hg : Gl X x) (hm : X.mg x = some u) (r : RelV v u) (hd : (x == ("__debug__" : Str)) = false := by decide) : PE X (.Name x pos) (tC v) :=
 fun _ _ _ H _ I h => nX I hg hm ⟨v, H, I, r, h⟩ hd
theorem DT {x : Str} {v : V} {u : Value} {pos : Pos} (hg : Gl X x) (hm : X.mg x = none) (hv : bootBuiltins x = some u) (r : RelV v u) (hn : x ≠ "__name__" := by decide) (hd : (x == ("__debug__" : Str)) = false := by decide) : PE X (.Name x pos) (tC v) :=
 fun _ _ _ H _ I h => lZ I hg hm hv ⟨v, H, I, r, h⟩ hn hd
variable {a b : Expr} {ta tb : TE} {pos : Pos}
def PC (X : Cx) (op : CmpOp) (a b : Expr) (t : TE) : Prop :=
 ∀ (pins : List (Addr × Obj)) (s : Shared) (σ : St) (H : Hp) (Q : VK), Inv X pins σ H s -> t σ H Q →
   wpAny (model X.prog X.w) X.A (eval a X.env) (fun v s₁ => wpAny (model X.prog X.w) X.A (eval b X.env) (fun u s₂ => wpAny (model X.prog X.w) X.A (compareOp op v u) (EP X pins σ Q) X.xe s₂) X.xe s₁) X.xe s
theorem A1 (b : Expr) {op : CmpOp} (h : op ≠ .In) (h2 : op ≠ .NotIn) : behindInMarks op b = false := by
 have e1 : (op == CmpOp.In) = false := by cases op <;> first | rfl | exact absurd rfl h
 have e2 : (op == CmpOp.NotIn) = false := by cases op <;> first | rfl | exact absurd rfl h2
 cases b <;> simp [behindInMarks, e1, e2]
def tB (t : TE) : TT := fun σ H Q => t σ H fun x H1 => ∃ c, x = .bl c /\ Q c H1
theorem PZ {op : CmpOp} {t : TE} (h : PC X op a b t) (h1 : behindInMarks op b = false := by first | exact A1 _ (by decide) (by decide) | rfl) : PT X (.Compare a [op] [b] pos) (tB t) := by
 intro pins s σ H Q I hw
 refine wpAny_isTrue_Compare1 (cR (h pins s σ H _ I hw) fun v s1 h1 => cR h1 fun u s2 h2 => cR h2 fun c s3 ⟨x, H1, I1, r1, q1⟩ => ?_) h1
 obtain ⟨d, rfl, q⟩ := q1
 cases r1
 exact wpAny_truthy_bool ⟨H1, I1, q⟩
theorem II {e : Expr} {t : TE} (h : PE X e t) (he : ∀ whole, isTrue e X.env whole = (do let v ← whole; standAt e.pos; holding [v] (truthy v)) := by intro _; rfl) : PT X e (tB t) := by
 intro pins s σ H Q I hw
 refine isTrue_plain (cR (h pins s σ H _ I hw) fun v s1 ⟨x, H1, I1, r1, q1⟩ => ?_) (he _)
 obtain ⟨d, rfl, q⟩ := q1
 cases r1
 exact wpAny_truthy_bool ⟨H1, I1, q⟩
variable {tA OU : TT} {rest : List Expr}
def P0 (t u : TT) : TT := fun σ H Q => t σ H fun c H1 => if c = true then u σ H1 Q else Q false H1
def S9 (t u : TT) : TT := fun σ H Q => t σ H fun c H1 => if c = true then Q true H1 else u σ H1 Q
def P1 (t : TT) : TT := fun σ H Q => t σ H fun c H1 => Q (!c) H1
theorem DU (ha : PT X a tA) : PW X (.BoolOp .And [a] pos) tA := by
 intro wh pins s σ H Q I h
 refine isTrue_and (cR (ha pins s σ H Q I h) fun c s1 e => ?_)
 cases c with
 | true => exact isTrue_and_nil e
 | false => exact e
theorem IJ (ha : PT X a tA) : PW X (.BoolOp .Or [a] pos) tA := by
 intro wh pins s σ H Q I h
 refine isTrue_or (cR (ha pins s σ H Q I h) fun c s1 e => ?_)
 cases c with
 | false => exact isTrue_or_nil e
 | true => exact e
theorem IK (ha : PT X a tA) (hb : PW X (.BoolOp .And (b :: rest) pos) OU) : PW X (.BoolOp .And (a :: b :: rest) pos) (P0 tA OU) := by
 intro wh pins s σ H Q I h
 refine isTrue_and (cR (ha pins s σ H _ I h) fun c s1 ⟨H1, I1, q1⟩ => ?_)
 cases c with
 | true => exact hb wh pins s1 σ H1 Q I1 q1
 | false => exact ⟨H1, I1, q1⟩
theorem LY (ha : PT X a tA) (hb : PW X (.BoolOp .Or (b :: rest) pos) OU) : PW X (.BoolOp .Or (a :: b :: rest) pos) (S9 tA OU) := by
 intro wh pins s σ H Q I h
 refine isTrue_or (cR (ha pins s σ H _ I h) fun c s1 ⟨H1, I1, q1⟩ => ?_)
 cases c with
 | true => exact ⟨H1, I1, q1⟩
 | false => exact hb wh pins s1 σ H1 Q I1 q1
theorem IL (ha : PT X a tA) : PT X (.UnaryOp .Not a pos) (P1 tA) := by
 intro pins s σ H Q I h
 exact isTrue_not (ha pins s σ H (fun c H1 => Q (!c) H1) I h)
end
def kW (K : PySem.W.Frag) (H : Hp) (a : Addr) (xs : List V) : Prop :=
 Rd H a (.lst xs) ∨
   ∃ (o : Obj) (its : Array Value) (n : Nat), K.lookup a = some o /\ o.cls = .type "list" /\ o.dict = none /\ o.data = .seq its n /\ its.size <= sizeLine /\ Vals xs its.toList
def qz (K : PySem.W.Frag) (H : Hp) (a : Addr) (xs : List V) : Prop :=
 Rd H a (.tup xs) ∨
   ∃ (o : Obj) (its : Array Value) (n : Nat), K.lookup a = some o /\ o.cls = .type "tuple" /\ o.data = .seq its n /\ its.size <= sizeLine /\ Vals xs its.toList
def P4 : Value -> Option V
 | .none => some .non
 | .bool b => some (.bl b)
 | .int i _ => some (.int i)
 | .str x _ => some (.str x)
 | .bytes b _ => some (.AQ b)
 | .float b _ => some (.OG b)
 | .ref a => some (.ref a)
 | .type n => some (.ty n)
 | _ => none
theorem RelV.abs {x : V} {u : Value} (r : RelV x u) : P4 u = some x := by
 cases x with
 | non => cases r; rfl
 | bl _ => cases r; rfl
 | int _ => obtain ⟨t, rfl⟩ := r; rfl
 | str _ => obtain ⟨t, rfl⟩ := r; rfl
 | AQ _ => obtain ⟨t, rfl⟩ := r; rfl
 | OG _ => obtain ⟨t, rfl⟩ := r; rfl
 | ref _ => cases r; rfl
 | ty _ => cases r; rfl
theorem RelV.inj {x y : V} {u : Value} (r : RelV x u) (q : RelV y u) : x = y := VR (r.abs.symm.trans q.abs)
theorem Vals.inj : ∀ {xs ys : List V} {us : List Value}, Vals xs us -> Vals ys us -> xs = ys
 | _, _, _, .nil, .nil => rfl
 | _, _, _, .cons r t, .cons r' t' => by rw [r.inj r', Vals.inj t t']
section
variable {X : Cx} {pins : List (Addr × Obj)} {σ : St} {H : Hp} {s : Shared} {a : Addr} {xs ys : List V}
theorem kW.of {K : PySem.W.Frag} (h : H a = some (.lst xs)) : kW K H a xs := .inl (.inl h)
theorem qz.of {K : PySem.W.Frag} (h : H a = some (.tup xs)) : qz K H a xs := .inl (.inl h)
theorem Inv.list (I : Inv X pins σ H s) (h : kW X.K H a xs) : ∃ its : List Value, Vals xs its /\ PlainL s.heap a its.toArray /\ xs.length <= sizeLine := by
 rcases h with h | ⟨o, its, n, hk, hc, hd, hs, hz, r⟩
 . obtain ⟨z, its, n, r, e⟩ := h.ok I.cK
   exact ⟨its, r, ⟨_, n, e, rfl, rfl, rfl⟩, z⟩
 . refine ⟨its.toList, r, ⟨o, n, I.vn a o hk, hc, hd, by simpa using hs⟩, ?_⟩
   have e := r.length
   simp only [WR] at e
   omega
theorem Inv.tuple (I : Inv X pins σ H s) (h : qz X.K H a xs) : ∃ its : List Value, Vals xs its /\ IsTup s.heap a its.toArray /\ xs.length <= sizeLine := by
 rcases h with h | ⟨o, its, n, hk, hc, hs, hz, r⟩
 . obtain ⟨z, its, r, p⟩ := h.ok I.cK
   exact ⟨its, r, p, z⟩
 . refine ⟨its.toList, r, ⟨o, I.vn a o hk, hc, n, by simpa using hs⟩, ?_⟩
   have e := r.length
   simp only [WR] at e
   omega
theorem Inv.A2 (I : Inv X pins σ H s) (h : kW X.K H a xs) (h' : kW X.K H a ys) : xs = ys := by
 obtain ⟨its, r, ⟨o, n, e, _, _, d⟩, _⟩ := I.list h
 obtain ⟨its', r', ⟨o', n', e', _, _, d'⟩, _⟩ := I.list h'
 rw [e] at e'; cases e'
 rw [d] at d'
 injection d' with d1 _
 have : its = its' := by simpa using congrArg Array.toList d1
 subst this
 exact r.inj r'
theorem Inv.zI (I : Inv X pins σ H s) (h : qz X.K H a xs) (h' : qz X.K H a ys) : xs = ys := by
 obtain ⟨its, r, ⟨o, e, _, n, d⟩, _⟩ := I.tuple h
 obtain ⟨its', r', ⟨o', e', _, n', d'⟩, _⟩ := I.tuple h'
 rw [e] at e'; cases e'
 rw [d] at d'
 injection d' with d1 _
 have : its = its' := by simpa using congrArg Array.toList d1
 subst this
 exact r.inj r'
end
abbrev Cx.wish (X : Cx) (E : Value -> Shared -> Prop) : Cx := { X with xe := E }
abbrev Cx.DH (X : Cx) : Cx := X.wish fun _ _ => False
theorem Cx.Ok.wish {X : Cx} (ok : X.Ok) (E : Value -> Shared -> Prop) : (X.wish E).Ok :=
 ⟨ok.mod, ok.kind, ok.glob, ok.blt, ok.above, ok.inj, ok.has, ok.LV, ok.hd, ok.frames, ok.OO, ok.RA, ok.bs, ok.DG, ok.AZ, ok.DR, ok.nL, ok.Iz⟩
theorem Cx.Ok.iW {X : Cx} {E : Value -> Shared -> Prop} (ok : (X.wish E).Ok) : X.Ok :=
 ⟨ok.mod, ok.kind, ok.glob, ok.blt, ok.above, ok.inj, ok.has, ok.LV, ok.hd, ok.frames, ok.OO, ok.RA, ok.bs, ok.DG, ok.AZ, ok.DR, ok.nL, ok.Iz⟩
section
variable {X : Cx} {pins : List (Addr × Obj)} {σ : St} {H : Hp} {s : Shared} {E : Value -> Shared -> Prop}
theorem Inv.wish (I : Inv X pins σ H s) (E : Value -> Shared -> Prop) : Inv (X.wish E) pins σ H s := ⟨I.ok.wish E, I.os, I.bare, I.base, I.loc, I.cell, I.free, I.iV, I.pin, I.cK, I.len⟩
theorem Inv.iW (I : Inv (X.wish E) pins σ H s) : Inv X pins σ H s := ⟨I.ok.iW, I.os, I.bare, I.base, I.loc, I.cell, I.free, I.iV, I.pin, I.cK, I.len⟩
theorem SP.iW {D : Ends} {f : Flow} {s' : Shared} (h : SP (X.wish E) pins D f s') : SP X pins D f s' := by
 cases f with
 | next => obtain ⟨σ', H', I, q⟩ := h; exact ⟨σ', H', I.iW, q⟩
 | brk => obtain ⟨σ', H', I, q⟩ := h; exact ⟨σ', H', I.iW, q⟩
 | cont => obtain ⟨σ', H', I, q⟩ := h; exact ⟨σ', H', I.iW, q⟩
 | ret u => obtain ⟨v, σ', H', I, r, q⟩ := h; exact ⟨v, σ', H', I.iW, r, q⟩
theorem xF.DH {st : List Stmt} {t : TS} (h : xF X.DH st t) : xF X st t := fun pins s σ H D I hw =>
 WL (h pins s σ H D (I.wish _) hw) (fun _ _ q => q.iW) fun _ _ z => False.elim z
end
section
variable {X : Cx} {st : Stmt} {rest : List Stmt} {t u : TS} {e : Expr} {te : TE} {pos : Pos}
def LZ : TS := fun D σ H => D.nx σ H
def P5 (t u : TS) : TS := fun D σ H => t { D with nx := u D } σ H
theorem DV : xF X [] LZ := fun _ _ σ H _ I h => wpAny_execs_nil ⟨σ, H, I, h⟩
theorem A3 (h1 : PS X st t) (h2 : xF X rest u) : xF X (st :: rest) (P5 t u) := by
 intro pins s σ H D I h
 refine wpAny_execs_cons (cR (h1 pins s σ H { D with nx := u D } I h) fun f s1 q => ?_)
 cases f with
 | next =>
   obtain ⟨σ', H', I', q⟩ := q
   exact h2 pins s1 σ' H' D I' q
 | ret v => exact q
 | brk => exact q
 | cont => exact q
theorem Inv.quiet {pins : List (Addr × Obj)} {σ : St} {H : Hp} {s : Shared} (I : Inv X pins σ H s) : interactive X.env = false := by simp [interactive, I.ok.kind]
def L0 (te : TE) : TS := fun D σ H => te σ H fun _ H1 => D.nx σ H1
theorem DW (he : PE X e te) (hs : swapsWith e none pos.line X.env = pure false := by rfl) : PS X (.Expr e pos) (L0 te) := by
 intro pins s σ H D I h
 exact wpAny_Expr_any (cR (he pins s σ H _ I h) fun v s1 ⟨x, H1, I1, r1, q1⟩ => ⟨σ, H1, I1, q1⟩) I.quiet hs
def P6 (te : TE) : TS := fun D σ H => te σ H D.rt
theorem IQ (he : PE X e te) : PS X (.Return (some e) pos) (P6 te) := by
 intro pins s σ H D I h
 exact wpAny_Return_some (cR (he pins s σ H _ I h) fun v s1 ⟨x, H1, I1, r1, q1⟩ => ⟨x, σ, H1, I1, r1, q1⟩)
def P7 (c : TT) (t u : TS) : TS := fun D σ H => c σ H fun b H1 => if b = true then t D σ H1 else u D σ H1
theorem L1 {c : Expr} {a b : List Stmt} {tc : TT} (hc : PT X c tc) (ha : xF X a t) (hb : xF X b u) : PS X (.If c a b pos) (P7 tc t u) := by
 intro pins s σ H D I h
 refine wpAny_If (cR (hc pins s σ H _ I h) fun d s1 ⟨H1, I1, q1⟩ => ?_)
 cases d with
 | true => exact ha pins s1 σ H1 D I1 q1
 | false => exact hb pins s1 σ H1 D I1 q1
end
abbrev TG := V -> St -> Hp -> (St -> Hp -> Prop) -> Prop
def PG (X : Cx) (target : Expr) (t : TG) : Prop :=
 ∀ (pins : List (Addr × Obj)) (s : Shared) (σ : St) (H : Hp) (v : V) (u : Value) (Q : St -> Hp -> Prop), Inv X pins σ H s -> RelV v u -> t v σ H Q →
   wpAny (model X.prog X.w) X.A (assign target X.env u) (fun _ s' => ∃ σ' H', Inv X pins σ' H' s' /\ Q σ' H') X.xe s
abbrev IU := V -> V -> V -> Hp -> (Hp -> Prop) -> Prop
def L4 (X : Cx) (t : IU) : Prop :=
 ∀ (pins : List (Addr × Obj)) (s : Shared) (σ : St) (H : Hp) (o i v : V) (ov iv u : Value) (Q : Hp -> Prop), Inv X pins σ H s -> RelV o ov -> RelV i iv -> RelV v u -> t o i v H Q →
   wpAny (model X.prog X.w) X.A (setItem ov iv u) (fun _ s' => ∃ H', Inv X pins σ H' s' /\ Q H') X.xe s
section
variable {X : Cx} {pos : Pos}
def yG (i : Nat) : TG := fun v σ H Q => Q (σ.set i (some v)) H
theorem r9 {i : Nat} {x : Str} (hN : X.N.Nodup) (hi : X.N[i]? = some x) (hx : Loc X.env.scope x) (hf : X.fn x = true \/ X.env.scope.names.lookup x = some .local := by first | exact .inl rfl | exact .inr rfl | assumption) : PG X (.Name x pos) (yG i) := by
 intro pins s σ H v u Q I r h
 exact wpAny_assign_Name (vv I hN hi hx r (fun s' I' => ⟨_, H, I', h⟩) hf)
def P8 (to ti : TE) (t : IU) : TG := fun v σ H Q => to σ H fun o H1 => ti σ H1 fun i H2 => t o i v H2 fun H3 => Q σ H3
theorem IV {o i : Expr} {to ti : TE} {t : IU} (ho : PE X o to) (hi : PE X i ti) (hs : L4 X t)
   (ha : ∀ v, assign (.Subscript o i pos) X.env v = (do
     let ov ← holding [v] (eval o X.env)
     let iv ← holding [v, ov] (eval i X.env)
     standAt pos
     holding [v, ov, iv] (setItem ov iv v)
     release [v, ov, iv] []) := by intro _; rfl) : PG X (.Subscript o i pos) (P8 to ti t) := by
 intro pins s σ H v u Q I r h
 rw [ha]
 refine VG (Xn (cR (ho pins s σ H _ I h) fun ov s1 ⟨x, H1, I1, r1, q1⟩ => ?_))
 refine VG (Xn (cR (hi pins s1 σ H1 _ I1 q1) fun iv s2 ⟨y, H2, I2, r2, q2⟩ => ?_))
 refine VG (wpAny_standAt (VG (Xn (cR (hs pins s2 σ H2 x y v ov iv u _ I2 r1 r2 r q2) fun _ s3 ⟨H3, I3, q3⟩ => ?_))))
 exact wpAny_release ⟨σ, H3, I3, q3⟩
def L5 (te : TE) (g : TG) : TS := fun D σ H => te σ H fun x H1 => g x σ H1 D.nx
theorem IW {tg e : Expr} {te : TE} {g : TG} (he : PE X e te) (hg : PG X tg g) (hs : swapsWithSole [tg] e pos.line X.env = pure false := by rfl) (hw : swappedStores [tg] e X.env = pure none := by rfl)
   (h1 : (assignEach [tg] X.env).map (·.2) = [assign tg X.env] := by rfl) : PS X (.Assign [tg] e pos) (L5 te g) := by
 intro pins s σ H D I h
 refine wpAny_Assign_stores (cR (he pins s σ H _ I h) fun v s1 ⟨x, H1, I1, r1, q1⟩ => ?_) hs hw
 rw [h1]
 exact cR (hg pins s1 σ H1 x v _ I1 r1 q1) fun _ s2 q => q
theorem IX {i : Nat} {x : Str} {e : Expr} {te : TE} {pos' : Pos} (hN : X.N.Nodup) (hi : X.N[i]? = some x) (hx : Loc X.env.scope x) (he : PE X e te) (hs : swapsWith e (some (.Name x pos')) pos.line X.env = pure false := by rfl) (hf : X.fn x = true \/ X.env.scope.names.lookup x = some .local := by first | exact .inl rfl | exact .inr rfl | assumption) :
   PS X (.Assign [.Name x pos'] e pos) (L5 te (yG i)) := by
 intro pins s σ H D I h
 refine wpAny_Assign_Name (cR (he pins s σ H _ I h) fun v s1 ⟨y, H1, I1, r1, q1⟩ => ?_) hs
 exact vv I1 hN hi hx r1 (fun s2 I2 => ⟨_, H1, I2, q1⟩) hf
end
section
variable {X : Cx} {pos : Pos}
def IY (c : TT) (tb : TS) : TS := fun D σ H => ∃ W : Nat -> St -> Hp -> Prop, (∃ m, W m σ H) /\ ∀ m σ H, W m σ H →
 c σ H fun b H1 => if b = true then ∃ N : St -> Hp -> Prop, (∀ σ' H', N σ' H' -> ∃ m', m' < m /\ W m' σ' H') /\ tb { D with nx := N, ct := N, bk := D.nx } σ H1 else D.nx σ H1
theorem A4 {c : Expr} {body : List Stmt} {tc : TT} {tb : TS} (hp : PassesOwn (model X.prog X.w) X.A X.env X.xe) (hc : PT X c tc) (hb : xF X body tb) : PS X (.While c body [] pos) (IY tc tb) := by
 intro pins s σ H D I h
 obtain ⟨W, ⟨m0, w0⟩, turn⟩ := h
 refine wpAny_While (codeAny_whileLoop (fun n s' => ∃ σ' H', Inv X pins σ' H' s' /\ W n σ' H') ?_ m0 ⟨σ, H, I, w0⟩)
 rintro n s1 ⟨σ1, H1, I1, w1⟩
 refine WY hp (cR (hc pins s1 σ1 H1 _ I1 (turn n σ1 H1 w1)) fun b s2 ⟨H2, I2, q2⟩ => ?_)
 cases b with
 | true =>
   obtain ⟨N, hN, q2⟩ := q2
   rw [Vy rfl]
   refine WY hp (cR (hb pins s2 σ1 H2 _ I2 q2) fun f s3 q3 => ?_)
   cases f with
   | next =>
     obtain ⟨σ3, H3, I3, n3⟩ := q3
     obtain ⟨m', hm, w3⟩ := hN σ3 H3 n3
     exact ⟨m', hm, σ3, H3, I3, w3⟩
   | cont =>
     obtain ⟨σ3, H3, I3, n3⟩ := q3
     obtain ⟨m', hm, w3⟩ := hN σ3 H3 n3
     exact ⟨m', hm, σ3, H3, I3, w3⟩
   | brk => exact q3
   | ret v => exact q3
 | false =>
   rw [Vx VB]
   exact wpAny_execs_nil ⟨σ1, H2, I2, q2⟩
end
structure It where
 go : Nat -> Hp -> Prop
 HD : Nat -> Hp -> V -> Hp -> Prop
 stop : Nat -> Hp -> Prop
def fz (X : Cx) (pins : List (Addr × Obj)) (H : Hp) (b : Addr) : Prop :=
 H b = none /\ b ≠ X.env.locals /\ b ∉ X.fs /\ (b ∈ X.ex \/ X.s₀.heap.objs.size <= b) /\ (∀ x c, X.env.cells.lookup x = some c -> c ≠ b) /\ ∀ p ∈ X.pn ++ pins, p.1 ≠ b
theorem Inv.zJ {X : Cx} {pins : List (Addr × Obj)} {σ : St} {H H' : Hp} {s : Shared} {b : Addr} (I : Inv X pins σ H s) (hb : s.heap.objs.size <= b) (hn : H' b = none) : fz X pins H' b := by
 refine ⟨hn, Nat.ne_of_gt (V6 I.lt hb), I.PJ hb, .inr (Wk I.sz hb), fun x c e z => ?_, fun p hp z => ?_⟩
 . obtain ⟨v, q⟩ := I.cell x c e
   exact absurd (V6 q.lt (by rw [z]; exact hb)) (Xg _)
 . exact absurd (V6 (VN (I.pin p hp).1) (by rw [z]; exact hb)) (Xg _)
structure Turn (P : Program) (w : World) (K : PySem.W.Frag) (tg : Expr) (J : It) (fp : List Addr) (it : Addr) (tn : Nat -> Heap -> Prop) : Prop where
 mem : it ∈ fp
 obj : ∀ i h, tn i h -> ∀ b ∈ fp, ∃ o, h.get? b = some o /\ ∀ v, o.data ≠ .cell v
 keep : ∀ i h h', tn i h -> (∀ b ∈ fp, ∀ o, h.get? b = some o -> h'.get? b = some o) -> tn i h'
 item : ∀ (X : Cx), X.prog = P -> X.w = w -> X.K = K -> X.calm = true -> ∀ (i : Nat) (pins : List (Addr × Obj)) (s : Shared) (σ : St) (H : Hp) (E : Value -> Shared -> Prop), Inv X pins σ H s -> (∀ b ∈ fp, fz X pins H b) -> tn i s.heap -> J.go i H →
   wpAny (model P w) X.A (pyNext (.ref it)) (fun r s1 => ∃ u, r = some u ∧
     wpAny (model P w) X.A (letOwnedTupleGo tg (.ref it) u) (fun _ s2 => ∃ x H', Inv X pins σ H' s2 /\ RelV x u /\ J.HD i H x H' /\ tn (i + 1) s2.heap /\ ∀ b ∈ fp, H' b = none) E s1) E s
 done : ∀ (X : Cx), X.prog = P -> X.w = w -> X.K = K -> X.calm = true -> ∀ (i : Nat) (pins : List (Addr × Obj)) (s : Shared) (σ : St) (H : Hp) (E : Value -> Shared -> Prop), Inv X pins σ H s -> (∀ b ∈ fp, fz X pins H b) -> tn i s.heap -> J.stop i H →
   wpAny (model P w) X.A (pyNext (.ref it)) (fun r s1 => r = none /\ Inv X pins σ H s1) E s
 self : ∀ (A : Around) (i : Nat) (s : Shared) (Q : Value -> Shared -> Prop) (E : Value -> Shared -> Prop), tn i s.heap -> Q (.ref it) s -> wpAny (model P w) A (pyIter (.ref it)) Q E s
abbrev TI := St -> Hp -> (It -> Hp -> Prop) -> Prop
def RG (X : Cx) (pins : List (Addr × Obj)) (σ : St) (tg : Expr) (R : It -> Hp -> Prop) (OV : Value) (s2 : Shared) : Prop :=
 ∃ (it : Addr) (fp : List Addr) (tn : Nat -> Heap -> Prop) (J : It) (H' : Hp), OV = .ref it /\ Inv X pins σ H' s2 /\ Turn X.prog X.w X.K tg J fp it tn /\ tn 0 s2.heap /\ (∀ b ∈ fp, fz X pins H' b) /\ R J H'
def PI (X : Cx) (tg iter : Expr) (wi : TI) : Prop :=
 ∀ (pins : List (Addr × Obj)) (s : Shared) (σ : St) (H : Hp) (R : It -> Hp -> Prop), Inv X pins σ H s -> wi σ H R →
   wpAny (model X.prog X.w) X.A (eval iter X.env) (fun v s1 => wpAny (model X.prog X.w) X.A (pyIter v) (RG X pins σ tg R) X.xe s1) X.xe s
theorem A5 {M : Model} {A : Around} {E : Value -> Shared -> Prop} {s : Shared} {tg : Expr} {it : Addr} {u : Value} {o : Obj} {n : String} {vs : Array Value} {Q : Unit -> Shared -> Prop} (ho : s.heap.get? it = some o) (hc : o.cls = .type n) (hd : o.data = .fields vs)
   (hn : ["enumerate", "zip", "dict_itemiterator", "dict_reverseitemiterator", "odict_iterator", "itertools.zip_longest", "itertools.pairwise"].contains n = false) (hQ : Q () s) : wpAny M A (letOwnedTupleGo tg (.ref it) u) Q E s := by
 unfold letOwnedTupleGo
 cases tg <;> first
   | exact Wh hQ
   | (cases u <;> first
       | exact Wh hQ
       | (refine VG (wpAny_load ho ?_)
          rw [hc, hd]
          show wpAny M A (if (["enumerate", "zip", "dict_itemiterator", "dict_reverseitemiterator", "odict_iterator", "itertools.zip_longest", "itertools.pairwise"].contains n && vs[0]? == some (rawInt _)) = true then _ else _) Q E s
          rw [Vx (by intro h; rw [hn, Bool.false_and] at h; cases h)]
          exact Wh hQ))
def RH (K : PySem.W.Frag) (a : Addr) : It :=
 ⟨fun i H => ∃ xs x, kW K H a xs /\ xs[i]? = some x, fun i H x H' => H' = H /\ ∀ xs, kW K H a xs -> xs[i]? = some x, fun i H => ∃ xs, kW K H a xs /\ xs.length <= i⟩
def RJ (K : PySem.W.Frag) (a : Addr) : It :=
 ⟨fun i H => ∃ xs x, qz K H a xs /\ xs[i]? = some x, fun i H x H' => H' = H /\ ∀ xs, qz K H a xs -> xs[i]? = some x, fun i H => ∃ xs, qz K H a xs /\ xs.length <= i⟩
def OW (lo : Int) (n : Nat) : It := ⟨fun i _ => i < n, fun i H x H' => H' = H /\ x = .int (lo + i), fun i _ => n <= i⟩
theorem zK {P : Program} {w : World} {K : PySem.W.Frag} {tg : Expr} (a it : Addr) : Turn P w K tg (RH K a) [it] it (fun i h => h.IsListIter it a i) where
 mem := by simp
 obj := fun i h st b hb => by
   have e : b = it := by simpa using hb
   subst e
   obtain ⟨o, e, c, d⟩ := st
   exact ⟨o, e, fun v z => by rw [d] at z; cases z⟩
 keep := fun i h h' st k => st.at fun o e => k it (by simp) o e
 item := by
   intro X hP hw hK hc i pins s σ H E I hf st hg
   subst hP hw hK
   obtain ⟨xs, x, hq, hx⟩ := hg
   obtain ⟨its, rv, p, hz⟩ := I.list hq
   obtain ⟨u, hu, ru⟩ := rv.get hx
   obtain ⟨f0, f1, f2, f3, f4, f5⟩ := hf it (by simp)
   refine wpAny_pyNext_list_item st p.isList (x := u) (by simpa using hu) fun h' xG sb => ?_
   have I1 : Inv X pins σ H { s with heap := h' } := I.turned (t' := s.toks) (fun b o hb e => (sb.2 b hb).trans e) f0 f1 f3 f4 f5
   obtain ⟨o, e, c, d⟩ := id xG
   exact ⟨u, rfl, A5 (s := { s with heap := h' }) e c d (by decide) ⟨x, H, I1, ru, ⟨rfl, fun ys hy => by rw [I.A2 hy hq]; exact hx⟩, xG, fun b hb => (hf b hb).1⟩⟩
 done := by
   intro X hP hw hK hc i pins s σ H E I hf st hg
   subst hP hw hK
   obtain ⟨xs, hq, hx⟩ := hg
   obtain ⟨its, rv, p, hz⟩ := I.list hq
   obtain ⟨f0, f1, f2, f3, f4, f5⟩ := hf it (by simp)
   have hl := rv.length
   exact wpAny_pyNext_list_end (I.ok.hd hc) st p.isList (by simp; omega) fun h' eb => ⟨rfl, I.turned (t' := s.toks) (fun b o hb e => eb b o hb e) f0 f1 f3 f4 f5⟩
 self := fun _ _ _ _ _ st h => wpAny_pyIter_listiter st h
theorem xH {P : Program} {w : World} {K : PySem.W.Frag} {tg : Expr} (a it : Addr) : Turn P w K tg (RJ K a) [it] it (fun i h => h.IsTupleIter it a i) where
 mem := by simp
 obj := fun i h st b hb => by
   have e : b = it := by simpa using hb
   subst e
   obtain ⟨o, e, c, d⟩ := st
   exact ⟨o, e, fun v z => by rw [d] at z; cases z⟩
 keep := fun i h h' st k => st.at fun o e => k it (by simp) o e
 item := by
   intro X hP hw hK hc i pins s σ H E I hf st hg
   subst hP hw hK
   obtain ⟨xs, x, hq, hx⟩ := hg
   obtain ⟨its, rv, p, hz⟩ := I.tuple hq
   obtain ⟨u, hu, ru⟩ := rv.get hx
   obtain ⟨f0, f1, f2, f3, f4, f5⟩ := hf it (by simp)
   refine wpAny_pyNext_tuple_item st (show s.heap.IsTuple a its.toArray from p) (x := u) (by simpa using hu) fun h' xG sb => ?_
   have I1 : Inv X pins σ H { s with heap := h' } := I.turned (t' := s.toks) (fun b o hb e => (sb.2 b hb).trans e) f0 f1 f3 f4 f5
   obtain ⟨o, e, c, d⟩ := id xG
   exact ⟨u, rfl, A5 (s := { s with heap := h' }) e c d (by decide) ⟨x, H, I1, ru, ⟨rfl, fun ys hy => by rw [I.zI hy hq]; exact hx⟩, xG, fun b hb => (hf b hb).1⟩⟩
 done := by
   intro X hP hw hK hc i pins s σ H E I hf st hg
   subst hP hw hK
   obtain ⟨xs, hq, hx⟩ := hg
   obtain ⟨its, rv, p, hz⟩ := I.tuple hq
   obtain ⟨f0, f1, f2, f3, f4, f5⟩ := hf it (by simp)
   have hl := rv.length
   exact wpAny_pyNext_tuple_end (I.ok.hd hc) st (show s.heap.IsTuple a its.toArray from p) (by simp; omega) fun h' eb => ⟨rfl, I.turned (t' := s.toks) (fun b o hb e => eb b o hb e) f0 f1 f3 f4 f5⟩
 self := fun _ _ _ _ _ st h => wpAny_pyIter_tupleiter st h
theorem xJ {P : Program} {w : World} {K : PySem.W.Frag} {tg : Expr} (it : Addr) (lo : Int) (n : Nat) : Turn P w K tg (OW lo n) [it] it (fun i h => IsRangeIter h it (lo + (i : Nat) * 1) ((n : Int) - (i : Nat)) 1) where
 mem := by simp
 obj := fun i h st b hb => by
   have e : b = it := by simpa using hb
   subst e
   exact ⟨_, st, fun v z => by
     have z' : Data.fields _ = Data.cell v := z
     cases z'⟩
 keep := fun i h h' st k => k it (by simp) _ st
 item := by
   intro X hP hw hK hc i pins s σ H E I hf st hg
   subst hP hw hK
   obtain ⟨f0, f1, f2, f3, f4, f5⟩ := hf it (by simp)
   have W := Walks.range (prog := X.prog) (w := X.w) (I.ok.hd hc) it lo 1 n
   refine W.item i s _ _ hg st fun v h' tk hv xG kk => ?_
   obtain ⟨t, rfl⟩ := hv
   have I1 : Inv X pins σ H { s with heap := h', toks := tk } := I.turned (fun b o hb e => kk b o (by simpa using hb) e) f0 f1 f3 f4 f5
   refine ⟨_, rfl, A5 (s := { s with heap := h', toks := tk }) (n := "range_iterator") xG rfl rfl (by decide) ⟨.int (lo + i), H, I1, ⟨t, ?_⟩, ⟨rfl, rfl⟩, xG, fun b hb => (hf b hb).1⟩⟩
   rw [Int.mul_one]
 done := by
   intro X hP hw hK hc i pins s σ H E I hf st hg
   subst hP hw hK
   obtain ⟨f0, f1, f2, f3, f4, f5⟩ := hf it (by simp)
   exact wpAny_pyNext_range_end (I.ok.hd hc) st (by have : n <= i := hg; omega) fun h' eb => ⟨rfl, I.turned (t' := s.toks) (fun b o hb e => eb b o hb e) f0 f1 f3 f4 f5⟩
 self := fun _ _ _ _ _ st h => wpAny_pyIter_rangeiter st h
section
variable {X : Cx} {tg : Expr}
def L6 (K : PySem.W.Frag) (tl : TE) : TI := fun σ H R => tl σ H fun x H1 => ∃ a, x = .ref a /\ (∃ xs, kW K H1 a xs) /\ R (RH K a) H1
def P9 (K : PySem.W.Frag) (tl : TE) : TI := fun σ H R => tl σ H fun x H1 => ∃ a, x = .ref a /\ (∃ xs, qz K H1 a xs) /\ R (RJ K a) H1
theorem DX {l : Expr} {tl : TE} (hl : PE X l tl) : PI X tg l (L6 X.K tl) := by
 intro pins s σ H R I h
 refine cR (hl pins s σ H _ I h) fun v s1 ⟨x, H1, I1, r1, q1⟩ => ?_
 obtain ⟨a, e, ⟨xs, hq⟩, q⟩ := q1
 subst e
 cases r1
 obtain ⟨its, rv, p, hz⟩ := I1.list hq
 refine wpAny_pyIter_list p.isList ?_
 refine ⟨s1.heap.objs.size, [s1.heap.objs.size], _, _, H1, rfl, I1.kept (t' := s1.toks) fun b o e => VD _ e, zK a _, ⟨_, V5 _ rfl, rfl, rfl⟩, fun b hb => ?_, q⟩
 have e : b = s1.heap.objs.size := by simpa using hb
 subst e
 exact I1.zJ (Vz _) (I1.cK.fresh (Vz _))
theorem IZ {l : Expr} {tl : TE} (hl : PE X l tl) : PI X tg l (P9 X.K tl) := by
 intro pins s σ H R I h
 refine cR (hl pins s σ H _ I h) fun v s1 ⟨x, H1, I1, r1, q1⟩ => ?_
 obtain ⟨a, e, ⟨xs, hq⟩, q⟩ := q1
 subst e
 cases r1
 obtain ⟨its, rv, p, hz⟩ := I1.tuple hq
 refine wpAny_pyIter_tuple (show s1.heap.IsTuple a its.toArray from p) ?_
 refine ⟨s1.heap.objs.size, [s1.heap.objs.size], _, _, H1, rfl, I1.kept (t' := s1.toks) fun b o e => VD _ e, xH a _, ⟨_, V5 _ rfl, rfl, rfl⟩, fun b hb => ?_, q⟩
 have e : b = s1.heap.objs.size := by simpa using hb
 subst e
 exact I1.zJ (Vz _) (I1.cK.fresh (Vz _))
theorem vz {pins : List (Addr × Obj)} {σ : St} {H : Hp} {s : Shared} {R : It -> Hp -> Prop} {E : Value -> Shared -> Prop} {lo hi : Int} {t u v : Tok} {tk : Nat} (I : Inv X pins σ H s) (h1 : -(2 ^ 62) <= lo) (h2 : lo < 2 ^ 62) (h3 : -(2 ^ 62) <= hi) (h4 : hi < 2 ^ 62)
   (q : R (OW lo (hi - lo).toNat) H) : wpAny (model X.prog X.w) X.A (pyIter (.ref s.heap.objs.size)) (RG X pins σ tg R) E { s with heap := s.heap.push { cls := .type "range", data := .fields #[.int lo t, .int hi u, .int 1 v] }, toks := tk } := by
 refine wpAny_pyIter_range (IsRange.new ..) (small_one h1 h2 h3 h4) ?_
 have I1 : Inv X pins σ H { s with heap := s.heap.push { cls := .type "range", data := .fields #[.int lo t, .int hi u, .int 1 v] }, toks := tk } := I.kept fun b o e => VD _ e
 refine ⟨(s.heap.push { cls := .type "range", data := .fields #[.int lo t, .int hi u, .int 1 v] }).objs.size, [(s.heap.push { cls := .type "range", data := .fields #[.int lo t, .int hi u, .int 1 v] }).objs.size], _, _, H, rfl,
   I1.kept (t' := tk) fun b o e => VD _ e, xJ _ lo (hi - lo).toNat, ?_, fun b hb => ?_, q⟩
 . have e1 : lo + ((0 : Nat) : Int) * 1 = lo := by simp
   have e2 : (((hi - lo).toNat : Nat) : Int) - ((0 : Nat) : Int) = Builtin.Range.rangeSize lo hi 1 := by rw [rangeSize_one]; split <;> omega
   show IsRangeIter _ _ (lo + ((0 : Nat) : Int) * 1) ((((hi - lo).toNat : Nat) : Int) - ((0 : Nat) : Int)) 1
   rw [e1, e2]
   exact V5 _ rfl
 . have e : b = (s.heap.push { cls := .type "range", data := .fields #[.int lo t, .int hi u, .int 1 v] }).objs.size := by simpa using hb
   subst e
   exact I1.zJ (Vz _) (I1.cK.fresh (Vz _))
def L7 (ta : TA) : TI := fun σ H R => ta σ H fun vs H1 => ∃ j : Int, vs = [.int j] /\ -(2 ^ 62) <= j /\ j < 2 ^ 62 /\ R (OW 0 j.toNat) H1
def L8 (ta : TA) : TI := fun σ H R => ta σ H fun vs H1 => ∃ i j : Int, vs = [.int i, .int j] /\ (-(2 ^ 62) <= i /\ i < 2 ^ 62 /\ -(2 ^ 62) <= j /\ j < 2 ^ 62) /\ R (OW i (j - i).toNat) H1
theorem zL {a : Expr} {ta : TA} {p pos : Pos} (hg : Gl X "range") (hm : X.mg "range" = none) (ha : PA X [a] ta) (hs : starEach [a] X.env = [(false, eval a X.env)] := by rfl) : PI X tg (.Call (.Name "range" p) [a] [] pos) (L7 ta) := by
 intro pins s σ H R I h
 refine Call_ (lZ I hg hm boot_range (Xd (cR (ha pos pins s σ H _ I h) fun us s1 ⟨vs, H1, I1, r1, q1⟩ => ?_) hs rfl))
 obtain ⟨j, e, q1, q2, q⟩ := q1
 subst e
 cases r1 with
 | cons r rr =>
   cases rr
   obtain ⟨t, rfl⟩ := r
   exact call_range_1 (vz I1 (by omega) (by omega) q1 q2 (by simpa using q))
theorem zM {a b : Expr} {ta : TA} {p pos : Pos} (hg : Gl X "range") (hm : X.mg "range" = none) (ha : PA X [a, b] ta) (hs : starEach [a, b] X.env = [(false, eval a X.env), (false, eval b X.env)] := by rfl) (Ma : starEach [b] X.env = [(false, eval b X.env)] := by rfl) :
   PI X tg (.Call (.Name "range" p) [a, b] [] pos) (L8 ta) := by
 intro pins s σ H R I h
 refine Call_ (lZ I hg hm boot_range (Xd (cR (ha pos pins s σ H _ I h) fun us s1 ⟨vs, H1, I1, r1, q1⟩ => ?_) (by rw [hs, Ma]) (by rw [Ma]; rfl)))
 obtain ⟨i, j, e, ⟨q1, q2, q3, q4⟩, q⟩ := q1
 subst e
 cases r1 with
 | cons r rr =>
   cases rr with
   | cons r' rr =>
     cases rr
     obtain ⟨t, rfl⟩ := r
     obtain ⟨t', rfl⟩ := r'
     exact call_range_2 (vz I1 q1 q2 q3 q4 q)
def Qa (wi : TI) (g : TG) (tb : TS) : TS := fun D σ H => wi σ H fun J H1 => ∃ W : Nat -> Nat -> St -> Hp -> Prop, (∃ m, W 0 m σ H1) /\ ∀ i m σ H, W i m σ H →
 (J.stop i H /\ D.nx σ H) \/ (J.go i H /\ ∃ N : St -> Hp -> Prop, (∀ σ' H', N σ' H' -> ∃ m', m' < m /\ W (i + 1) m' σ' H') /\ ∀ x H', J.HD i H x H' -> g x σ H' fun σ2 H2 => tb { D with nx := N, ct := N, bk := D.nx } σ2 H2)
def oR (fp : List Addr) (h : Heap) : List (Addr × Obj) := fp.filterMap fun b => (h.get? b).map fun o => (b, o)
theorem eH {fp : List Addr} {h : Heap} {b : Addr} {o : Obj} (hb : b ∈ fp) (e : h.get? b = some o) : (b, o) ∈ oR fp h := List.mem_filterMap.mpr ⟨b, hb, by rw [e]; rfl⟩
theorem zN {fp : List Addr} {h : Heap} {p : Addr × Obj} (hp : p ∈ oR fp h) : p.1 ∈ fp /\ h.get? p.1 = some p.2 := by
 obtain ⟨b, hb, e⟩ := List.mem_filterMap.mp hp
 cases q : h.get? b with
 | none => rw [q] at e; cases e
 | some o =>
   rw [q] at e
   have e' : (b, o) = p := VR e
   subst e'
   exact ⟨hb, q⟩
theorem Inv.pinned {pins : List (Addr × Obj)} {σ : St} {H : Hp} {s : Shared} {fp : List Addr} (I : Inv X pins σ H s) (hf : ∀ b ∈ fp, fz X pins H b) (ho : ∀ b ∈ fp, ∃ o, s.heap.get? b = some o /\ ∀ v, o.data ≠ .cell v) : Inv X (pins ++ oR fp s.heap) σ H s :=
 I.nW fun p hp => (VZ.mp hp).elim (fun z => I.pin p (Vw _ z)) fun z => by
   obtain ⟨hb, e⟩ := zN z
   obtain ⟨f0, f1, f2, _⟩ := hf p.1 hb
   obtain ⟨o, e', d⟩ := ho p.1 hb
   rw [e] at e'; cases e'
   exact ⟨e, f0, f1, f2, d⟩
theorem Inv.iX {pins pl : List (Addr × Obj)} {σ : St} {H : Hp} {s : Shared} (I : Inv X (pins ++ pl) σ H s) : Inv X pins σ H s := I.nW fun p hp => I.pin p (Vw _ (VQ _ hp))
theorem I0 {iter : Expr} {body : List Stmt} {wi : TI} {g : TG} {tb : TS} {pos : Pos} (hp : PassesOwn (model X.prog X.w) X.A X.env X.xe) (hc : X.calm = true) (hi : PI X tg iter wi) (hg : PG X tg g) (hb : xF X body tb)
   (hs : ∀ x, foldedSetIterable iter X.env x = pure x := by intro _; rfl) : PS X (.For tg iter body [] pos) (Qa wi g tb) := by
 intro pins s σ H D I h
 refine wpAny_For (cR (hi pins s σ H _ I h) fun v s1 h1 => cR h1 fun OV s2 h2 => ?_) hs
 obtain ⟨it, fp, tn, J, H2, e, I2, T, Tc, f2, W, ⟨m0, w0⟩, turn⟩ := h2
 subst e
 have stat : ∀ {H' : Hp}, (∀ b ∈ fp, H' b = none) -> ∀ b ∈ fp, fz X pins H' b := fun hn b hb => ⟨hn b hb, (f2 b hb).2⟩
 refine codeAny_forLoop_any (fun n s' => ∃ i σ' H', Inv X pins σ' H' s' /\ tn i s'.heap /\ (∀ b ∈ fp, H' b = none) /\ W i n σ' H') ?_ m0 ⟨0, σ, H2, I2, Tc, fun b hb => (f2 b hb).1, w0⟩
 rintro n s3 ⟨i, σ3, H3, I3, Mb, RK, w3⟩
 rcases turn i n σ3 H3 w3 with ⟨stop, qn⟩ | ⟨go, N, hN, step⟩
 . refine WY hp (cR (T.done X rfl rfl rfl hc i pins s3 σ3 H3 X.xe I3 (stat RK) Mb stop) fun r s4 ⟨hr, I4⟩ => ?_)
   subst hr
   exact wpAny_execs_nil ⟨σ3, H3, I4, qn⟩
 . refine WY hp (cR (T.item X rfl rfl rfl hc i pins s3 σ3 H3 X.xe I3 (stat RK) Mb go) fun r s4 ⟨u, hr, h4⟩ => ?_)
   subst hr
   refine WY hp (cR h4 fun _ s5 ⟨x, H5, I5, r5, y5, Li, OX⟩ => ?_)
   have Td := I5.pinned (stat OX) (T.obj _ _ Li)
   refine WY hp (cR (hg _ s5 σ3 H5 x u _ Td r5 (step x H5 y5)) fun _ s6 ⟨σ6, H6, I6, q6⟩ => ?_)
   refine WY hp (cR (hb _ s6 σ6 H6 _ I6 q6) fun f s7 q7 => ?_)
   have again : ∀ {σ7 : St} {H7 : Hp}, Inv X (pins ++ oR fp s5.heap) σ7 H7 s7 -> N σ7 H7 -> ∃ m, m < n /\ ∃ i σ' H', Inv X pins σ' H' s7 /\ tn i s7.heap /\ (∀ b ∈ fp, H' b = none) /\ W i m σ' H' := fun {σ7 H7} I7 n7 => by
     obtain ⟨m', hm, w7⟩ := hN σ7 H7 n7
     refine ⟨m', hm, i + 1, σ7, H7, I7.iX, T.keep _ _ _ Li fun b hb o e => (I7.pin (b, o) (Vw _ (Vw _ (eH hb e)))).1, fun b hb => ?_, w7⟩
     obtain ⟨o, e, d⟩ := T.obj _ _ Li b hb
     exact (I7.pin (b, o) (Vw _ (Vw _ (eH hb e)))).2.1
   cases f with
   | next => obtain ⟨σ7, H7, I7, n7⟩ := q7; exact again I7 n7
   | cont => obtain ⟨σ7, H7, I7, n7⟩ := q7; exact again I7 n7
   | brk => obtain ⟨σ7, H7, I7, q7⟩ := q7; exact ⟨σ7, H7, I7.iX, q7⟩
   | ret v => obtain ⟨x7, σ7, H7, I7, r7, q7⟩ := q7; exact ⟨x7, σ7, H7, I7.iX, r7, q7⟩
end
abbrev R2 := V -> V -> Hp -> VK -> Prop
def mh (X : Cx) (f : Value -> Value -> Sem Value) (r : R2) : Prop :=
 ∀ (pins : List (Addr × Obj)) (s : Shared) (σ : St) (H : Hp) (x y : V) (v u : Value) (Q : VK), Inv X pins σ H s -> RelV x v -> RelV y u -> r x y H Q →
   wpAny (model X.prog X.w) X.A (f v u) (EP X pins σ Q) X.xe s
def Qc (X : Cx) (f : Value -> Sem Value) (r : V -> Hp -> VK -> Prop) : Prop :=
 ∀ (pins : List (Addr × Obj)) (s : Shared) (σ : St) (H : Hp) (x : V) (v : Value) (Q : VK), Inv X pins σ H s -> RelV x v -> r x H Q →
   wpAny (model X.prog X.w) X.A (f v) (EP X pins σ Q) X.xe s
def m9 (X : Cx) (f : Value) (r : List V -> Hp -> VK -> Prop) : Prop :=
 ∀ (pins : List (Addr × Obj)) (s : Shared) (σ : St) (H : Hp) (xs : List V) (us : List Value) (Q : VK), Inv X pins σ H s -> Vals xs us -> r xs H Q →
   wpAny (model X.prog X.w) X.A (call f us) (EP X pins σ Q) X.xe s
def OY (r : R2) (ta tb : TE) : TE := fun σ H Q => ta σ H fun x H1 => tb σ H1 fun y H2 => r x y H2 Q
def Te (r : V -> Hp -> VK -> Prop) (ta : TE) : TE := fun σ H Q => ta σ H fun x H1 => r x H1 Q
def rI (C : Int -> Int -> Prop) (g : Int -> Int -> V) : R2 := fun x y H Q => ∃ i j, x = .int i /\ y = .int j /\ C i j /\ Q (g i j) H
def Ja (g : Int -> Int -> V) : R2 := fun x y H Q => ∃ i j, x = .int i /\ y = .int j /\ Q (g i j) H
def rU (g : Int -> V) : V -> Hp -> VK -> Prop := fun x H Q => ∃ i, x = .int i /\ Q (g i) H
section
variable {X : Cx} {a b c : Expr} {ta tb tc : TE} {pos : Pos}
theorem Jb (ha : PE X a ta) (hb : PE X b tb) {pins : List (Addr × Obj)} {s : Shared} {σ : St} {H : Hp} {R : V -> V -> Hp -> Prop} (I : Inv X pins σ H s)
   (h : ta σ H fun x H1 => tb σ H1 fun y H2 => R x y H2) {Q : Value -> Shared -> Prop} {f : Value -> Value -> Sem Value}
   (hf : ∀ v u s2 x y H2, Inv X pins σ H2 s2 -> RelV x v -> RelV y u -> R x y H2 -> wpAny (model X.prog X.w) X.A (f v u) Q X.xe s2) :
   wpAny (model X.prog X.w) X.A (eval a X.env) (fun v s₁ => wpAny (model X.prog X.w) X.A (eval b X.env) (fun u s₂ => wpAny (model X.prog X.w) X.A (f v u) Q X.xe s₂) X.xe s₁) X.xe s := by
 refine cR (ha pins s σ H _ I h) fun v s1 ⟨x, H1, I1, r1, q1⟩ => ?_
 refine cR (hb pins s1 σ H1 _ I1 q1) fun u s2 ⟨y, H2, I2, r2, q2⟩ => ?_
 exact hf v u s2 x y H2 I2 r1 r2 q2
theorem A6 {op : Operator} {r : R2} (ho : mh X (binaryOp op) r) (ha : PE X a ta) (hb : PE X b tb) : PE X (.BinOp a op b pos) (OY r ta tb) := by
 intro pins s σ H Q I h
 exact wpAny_BinOp (Jb ha hb I h fun v u s2 x y H2 I2 rx ry q => ho pins s2 σ H2 x y v u Q I2 rx ry q)
theorem Mf {op : UnaryOp} {r : V -> Hp -> VK -> Prop} (ho : Qc X (unaryOp op) r) (ha : PE X a ta) : PE X (.UnaryOp op a pos) (Te r ta) := by
 intro pins s σ H Q I h
 exact UnaryOp_ (cR (ha pins s σ H _ I h) fun v s1 ⟨x, H1, I1, r1, q1⟩ => ho pins s1 σ H1 x v Q I1 r1 q1)
theorem OZ {f : Value -> Value -> Sem Value} {C : Int -> Int -> Prop} {g : Int -> Int -> Int}
   (rule : ∀ (i j : Int) (t u : Tok) (s : Shared) (Q : Value -> Shared -> Prop) (E : Value -> Shared -> Prop), C i j -> Q (.int (g i j) s.toks) { s with toks := s.toks + 1 } -> wpAny (model X.prog X.w) X.A (f (.int i t) (.int j u)) Q E s) :
   mh X f (rI C fun i j => .int (g i j)) := by
 intro pins s σ H x y v u Q I rx ry h
 obtain ⟨i, j, rfl, rfl, hc, q⟩ := h
 obtain ⟨t, rfl⟩ := rx
 obtain ⟨t', rfl⟩ := ry
 exact rule i j t t' s _ _ hc ⟨.int (g i j), H, I.tok _, ⟨_, rfl⟩, q⟩
theorem Mg {f : Value -> Value -> Sem Value} {g : Int -> Int -> Int}
   (rule : ∀ (i j : Int) (t u : Tok) (s : Shared) (Q : Value -> Shared -> Prop) (E : Value -> Shared -> Prop), Q (.int (g i j) s.toks) { s with toks := s.toks + 1 } -> wpAny (model X.prog X.w) X.A (f (.int i t) (.int j u)) Q E s) :
   mh X f (Ja fun i j => .int (g i j)) := by
 intro pins s σ H x y v u Q I rx ry h
 obtain ⟨i, j, rfl, rfl, q⟩ := h
 obtain ⟨t, rfl⟩ := rx
 obtain ⟨t', rfl⟩ := ry
 exact rule i j t t' s _ _ ⟨.int (g i j), H, I.tok _, ⟨_, rfl⟩, q⟩
theorem Jc {f : Value -> Value -> Sem Value} {g : Int -> Int -> Bool}
   (rule : ∀ (i j : Int) (t u : Tok) (s : Shared) (Q : Value -> Shared -> Prop) (E : Value -> Shared -> Prop), Q (.bool (g i j)) s -> wpAny (model X.prog X.w) X.A (f (.int i t) (.int j u)) Q E s) :
   mh X f (Ja fun i j => .bl (g i j)) := by
 intro pins s σ H x y v u Q I rx ry h
 obtain ⟨i, j, rfl, rfl, q⟩ := h
 obtain ⟨t, rfl⟩ := rx
 obtain ⟨t', rfl⟩ := ry
 exact rule i j t t' s _ _ ⟨.bl (g i j), H, I, rfl, q⟩
def Mh (i j : Int) : Prop := 0 < j /\ j < 1073741824
def Mi (i j : Int) : Prop := 0 <= j /\ j <= 1000000 /\ i.natAbs < 2 ^ 64
def DY (i j : Int) : Prop := (-(2 ^ 64) < i /\ i < 2 ^ 64) \/ (-(2 ^ 64) < j /\ j < 2 ^ 64)
theorem DY.ok {i j : Int} (h : DY i j) : IntMulOk i j := by
 rcases h with ⟨h1, h2⟩ | ⟨h1, h2⟩
 . exact .of_left (intBits_le_64 h1 h2)
 . exact .of_right (intBits_le_64 h1 h2)
theorem Jd : mh X (binaryOp .Add) (Ja fun i j => .int (i + j)) := Mg fun _ _ _ _ _ _ _ q => add_int q
theorem Je : mh X (binaryOp .Sub) (Ja fun i j => .int (i - j)) := Mg fun _ _ _ _ _ _ _ q => sub_int q
theorem Jf : mh X (binaryOp .Mult) (rI DY fun i j => .int (i * j)) := OZ fun _ _ _ _ _ _ _ hc q => mul_int q hc.ok
theorem DZ : mh X (binaryOp .FloorDiv) (rI Mh fun i j => .int (i / j)) := OZ fun i j _ _ _ _ _ hc q => by
 have h1 : (0 : Int) < j := hc.1
 have h2 : j < 1073741824 := hc.2
 exact floordiv_int (by omega) (by rw [Int.fdiv_eq_ediv_of_nonneg i (by omega)]; exact q) (.inl (PyProof.noPylong_small (by omega)))
theorem Jg : mh X (binaryOp .Mod) (rI (fun _ j => 0 < j) fun i j => .int (i % j)) := OZ fun i j _ _ _ _ _ hc q => by
 have h1 : (0 : Int) < j := hc
 exact mod_int' (by omega) (by rw [Int.fmod_eq_emod_of_nonneg i (by omega)]; exact q)
theorem Jh : mh X (binaryOp .Pow) (rI Mi fun i j => .int (i ^ j.toNat)) := OZ fun _ _ _ _ _ _ _ hc q => pow_int_small hc.1 hc.2.1 hc.2.2 q
theorem Tf {f : Value -> Sem Value} {g : Int -> Int}
   (rule : ∀ (i : Int) (t : Tok) (s : Shared) (Q : Value -> Shared -> Prop) (E : Value -> Shared -> Prop), Q (.int (g i) s.toks) { s with toks := s.toks + 1 } -> wpAny (model X.prog X.w) X.A (f (.int i t)) Q E s) :
   Qc X f (rU fun i => .int (g i)) := by
 intro pins s σ H x v Q I rx h
 obtain ⟨i, rfl, q⟩ := h
 obtain ⟨t, rfl⟩ := rx
 exact rule i t s _ _ ⟨.int (g i), H, I.tok _, ⟨_, rfl⟩, q⟩
theorem Ji : Qc X (unaryOp .USub) (rU fun i => .int (-i)) := Tf fun _ _ _ _ _ q => neg_int q
end
def Mj : V -> V -> Bool
 | .non, .non => true | .non, .int _ => true | .int _, .non => true | .non, .bl _ => true | .bl _, .non => true | .non, .str _ => true | .str _, .non => true
 | .int _, .int _ => true | .bl _, .bl _ => true | .str _, .str _ => true | .AQ _, .AQ _ => true
 | .int _, .str _ => true | .str _, .int _ => true | .bl _, .str _ => true | .str _, .bl _ => true
 | _, _ => false
def Tg : R2 := fun x y H Q => Mj x y = true /\ Q (.bl (decide (x = y))) H
def Ti : R2 := fun x y H Q => Mj x y = true /\ Q (.bl (!decide (x = y))) H
theorem yH {i j : Int} : decide (V.int i = V.int j) = (i == j) := by
 rw [Bool.eq_iff_iff]
 simp
theorem A7 {i j : Bool} : decide (V.bl i = V.bl j) = (i == j) := by
 rw [Bool.eq_iff_iff]
 simp
theorem yI {i j : Str} : decide (V.str i = V.str j) = (i == j) := by
 rw [Bool.eq_iff_iff]
 simp
theorem yJ {i j : Array UInt8} : decide (V.AQ i = V.AQ j) = (i.toList == j.toList) := by
 rw [Bool.eq_iff_iff]
 cases i
 cases j
 simp
section
variable {X : Cx} {a b c : Expr} {ta tb tc : TE} {pos : Pos}
theorem bu {pins : List (Addr × Obj)} {σ : St} {H : Hp} {s : Shared} {Q : VK} {k k' : Bool} (I : Inv X pins σ H s) (q : Q (.bl k) H) (e : k = k') : EP X pins σ Q (.bool k') s := by
 subst e
 exact ⟨.bl k, H, I, rfl, q⟩
theorem A8 : mh X (compareOp .Eq) Tg := by
 intro pins s σ H x y v u Q I rx ry h
 obtain ⟨hs, q⟩ := h
 cases x with
 | non =>
   cases rx
   cases y with
   | non => cases ry; exact PySem.EqNone.eq_none_none (bu I q (by simp))
   | bl j => cases ry; exact PySem.EqNone.eq_none_bool (bu I q (by simp))
   | int j => obtain ⟨t', rfl⟩ := ry; exact PySem.EqNone.eq_none_int (bu I q (by simp))
   | str j => obtain ⟨t', rfl⟩ := ry; exact PySem.EqNone.eq_none_str (bu I q (by simp))
   | _ => exact absurd (show false = true from hs) VB
 | bl i =>
   cases rx
   cases y with
   | non => cases ry; exact PySem.EqNone.eq_bool_none (bu I q (by simp))
   | bl j => cases ry; exact eq_bool (bu I q A7)
   | str j => obtain ⟨t', rfl⟩ := ry; exact PySem.EqMixed.eq_bool_str (bu I q (by simp))
   | _ => exact absurd (show false = true from hs) VB
 | int i =>
   obtain ⟨t, rfl⟩ := rx
   cases y with
   | non => cases ry; exact PySem.EqNone.eq_int_none (bu I q (by simp))
   | int j => obtain ⟨t', rfl⟩ := ry; exact eq_int (bu I q yH)
   | str j => obtain ⟨t', rfl⟩ := ry; exact PySem.EqMixed.eq_int_str (bu I q (by simp))
   | _ => exact absurd (show false = true from hs) VB
 | str i =>
   obtain ⟨t, rfl⟩ := rx
   cases y with
   | non => cases ry; exact PySem.EqNone.eq_str_none (bu I q (by simp))
   | bl j => cases ry; exact PySem.EqMixed.eq_str_bool (bu I q (by simp))
   | int j => obtain ⟨t', rfl⟩ := ry; exact PySem.EqMixed.eq_str_int (bu I q (by simp))
   | str j => obtain ⟨t', rfl⟩ := ry; exact eq_str (bu I q yI)
   | _ => exact absurd (show false = true from hs) VB
 | AQ i =>
   obtain ⟨t, rfl⟩ := rx
   cases y with
   | AQ j => obtain ⟨t', rfl⟩ := ry; exact PySem.W.eq_bytes (bu I q yJ)
   | _ => exact absurd (show false = true from hs) VB
 | _ => cases y <;> exact absurd (show false = true from hs) VB
theorem Ml : mh X (compareOp .NotEq) Ti := by
 intro pins s σ H x y v u Q I rx ry h
 obtain ⟨hs, q⟩ := h
 cases x with
 | non =>
   cases rx
   cases y with
   | non => cases ry; exact PySem.EqNone.ne_none_none (bu I q (by simp))
   | bl j => cases ry; exact PySem.EqNone.ne_none_bool (bu I q (by simp))
   | int j => obtain ⟨t', rfl⟩ := ry; exact PySem.EqNone.ne_none_int (bu I q (by simp))
   | str j => obtain ⟨t', rfl⟩ := ry; exact PySem.EqNone.ne_none_str (bu I q (by simp))
   | _ => exact absurd (show false = true from hs) VB
 | bl i =>
   cases rx
   cases y with
   | non => cases ry; exact PySem.EqNone.ne_bool_none (bu I q (by simp))
   | bl j => cases ry; exact ne_bool (bu I q (congrArg not A7))
   | str j => obtain ⟨t', rfl⟩ := ry; exact PySem.EqMixed.ne_bool_str (bu I q (by simp))
   | _ => exact absurd (show false = true from hs) VB
 | int i =>
   obtain ⟨t, rfl⟩ := rx
   cases y with
   | non => cases ry; exact PySem.EqNone.ne_int_none (bu I q (by simp))
   | int j => obtain ⟨t', rfl⟩ := ry; exact ne_int (bu I q (congrArg not yH))
   | str j => obtain ⟨t', rfl⟩ := ry; exact PySem.EqMixed.ne_int_str (bu I q (by simp))
   | _ => exact absurd (show false = true from hs) VB
 | str i =>
   obtain ⟨t, rfl⟩ := rx
   cases y with
   | non => cases ry; exact PySem.EqNone.ne_str_none (bu I q (by simp))
   | bl j => cases ry; exact PySem.EqMixed.ne_str_bool (bu I q (by simp))
   | int j => obtain ⟨t', rfl⟩ := ry; exact PySem.EqMixed.ne_str_int (bu I q (by simp))
   | str j => obtain ⟨t', rfl⟩ := ry; exact ne_str (bu I q (congrArg not yI))
   | _ => exact absurd (show false = true from hs) VB
 | AQ i =>
   obtain ⟨t, rfl⟩ := rx
   cases y with
   | AQ j => obtain ⟨t', rfl⟩ := ry; exact PySem.W.ne_bytes (bu I q (congrArg not yJ))
   | _ => exact absurd (show false = true from hs) VB
 | _ => cases y <;> exact absurd (show false = true from hs) VB
theorem Mm : mh X (compareOp .Lt) (Ja fun i j => .bl (decide (i < j))) := Jc fun _ _ _ _ _ _ _ q => lt_int q
theorem Mp : mh X (compareOp .LtE) (Ja fun i j => .bl (decide (i <= j))) := Jc fun _ _ _ _ _ _ _ q => le_int q
theorem Mq : mh X (compareOp .Gt) (Ja fun i j => .bl (decide (j < i))) := Jc fun _ _ _ _ _ _ _ q => gt_int q
theorem gZ (b : Expr) {op : CmpOp} (h : op ≠ .In := by decide) (h2 : op ≠ .NotIn := by decide) : behindInMarks op b = false := by
 have e1 : (op == CmpOp.In) = false := by cases op <;> first | rfl | exact absurd rfl h
 have e2 : (op == CmpOp.NotIn) = false := by cases op <;> first | rfl | exact absurd rfl h2
 cases b <;> simp [behindInMarks, e1, e2]
theorem jt {op : CmpOp} {r : R2} (ho : mh X (compareOp op) r) (ha : PE X a ta) (hb : PE X b tb) (hm : behindInMarks op b = false) : PE X (.Compare a [op] [b] pos) (OY r ta tb) := by
 intro pins s σ H Q I h
 exact wpAny_Compare1 (Jb ha hb I h fun v u s2 x y H2 I2 rx ry q => ho pins s2 σ H2 x y v u Q I2 rx ry q) hm
def Mr (t : TE) : TT := fun σ H Q => t σ H fun x H' => ∃ k, x = .bl k /\ Q k H'
theorem ju {op : CmpOp} {r : R2} (ho : mh X (compareOp op) r) (ha : PE X a ta) (hb : PE X b tb) (hm : behindInMarks op b = false) : PT X (.Compare a [op] [b] pos) (Mr (OY r ta tb)) := by
 intro pins s σ H Q I h
 refine wpAny_isTrue_Compare1 (cR (ha pins s σ H _ I h) fun v s1 ⟨x, H1, I1, r1, q1⟩ => cR (hb pins s1 σ H1 _ I1 q1) fun u s2 ⟨y, H2, I2, r2, q2⟩ =>
   cR (ho pins s2 σ H2 x y v u _ I2 r1 r2 q2) fun c s3 ⟨z, H3, I3, r3, k, e, q3⟩ => ?_) hm
 subst e
 cases r3
 exact wpAny_truthy_bool ⟨H3, I3, q3⟩
theorem oS : (sizeLine : Nat) < 2 ^ 63 := by rw [Wb]; decide
theorem xK : mh X (binaryOp .Add) (fun x y H Q => ∃ i j, x = .str i /\ y = .str j /\ i.length + j.length <= sizeLine /\ Q (.str (i ++ j)) H) := by
 intro pins s σ H x y v u Q I rx ry h
 obtain ⟨i, j, rfl, rfl, hz, q⟩ := h
 obtain ⟨t, rfl⟩ := rx
 obtain ⟨t', rfl⟩ := ry
 exact add_str (fun t' tk => ⟨.str (i ++ j), H, I.tok _, ⟨_, rfl⟩, q⟩) hz
theorem vals1 {x : V} {us : List Value} (r : Vals [x] us) : ∃ u, us = [u] /\ RelV x u := by
 cases r with
 | cons r1 r2 => cases r2; exact ⟨_, rfl, r1⟩
theorem zO : m9 X (.type "int") (fun xs H Q => (∃ i, xs = [.int i] /\ Q (.int i) H) \/ ∃ k, xs = [.bl k] /\ Q (.int (if k then 1 else 0)) H) := by
 intro pins s σ H xs us Q I r h
 rcases h with ⟨i, rfl, q⟩ | ⟨k, rfl, q⟩
 . obtain ⟨u, rfl, t, rfl⟩ := vals1 r
   exact call_int_int ⟨.int i, H, I, ⟨_, rfl⟩, q⟩
 . obtain ⟨u, rfl, r1⟩ := vals1 r
   cases r1
   exact call_int_bool ⟨.int (if k then 1 else 0), H, I.tok _, ⟨_, rfl⟩, q⟩
theorem se : m9 X (.type "str") (fun xs H Q => ∃ i, xs = [.int i] /\ i.natAbs.log2 < 1920 /\ Q (.str (toString i)) H) := by
 intro pins s σ H xs us Q I r h
 obtain ⟨i, rfl, hz, q⟩ := h
 obtain ⟨u, rfl, t, rfl⟩ := vals1 r
 exact PySem.P.str_of_int hz ⟨.str _, H, I.tok _, ⟨_, rfl⟩, q⟩
end
structure zP (h : Heap) (x dx C : Addr) (mA : Str -> Option Value) : Prop where
 obj : h.get? x = some (PySem.W.instObj C dx)
 ns : h.Ns1 dx mA
 ne : dx ≠ x
theorem zQ {h : Heap} {dx : Addr} {mA : Str -> Option Value} (n : h.Ns1 dx mA) : ∃ od, h.get? dx = some od /\ ∀ name, PySem.W.lookIn name od = some (mA name) := by
 obtain ⟨o, es, ep, ho, hd, hk, _, hm⟩ := n
 refine ⟨o, ho, fun name => ?_⟩
 have e := hm name
 unfold nsFind findBy at e
 rw [← Array.find?_toList] at e
 unfold PySem.W.lookIn
 rw [hd]
 dsimp only
 split
 . rename_i y q
   rw [q] at e
   exact congrArg some e
 . rename_i q
   rw [q] at e
   have a : es.toList.any (·.refKey) = false := by
     rw [List.any_eq_false]
     intro y hy
     obtain ⟨z, t, Qd⟩ := hk y (Array.mem_toList_iff.mp hy)
     simp [DictEntry.refKey, Qd]
   have a' : ¬ es.toList.any (·.refKey) = true := by rw [a]; exact VB
   rw [Vx a']
   exact congrArg some e
theorem zP.look {h : Heap} {x dx C : Addr} {mA : Str -> Option Value} (I : zP h x dx C mA) : ∃ od, PySem.W.InstAt h x (PySem.W.instObj C dx) C (some od) /\ ∀ name, PySem.W.lookIn name od = some (mA name) :=
 let ⟨od, ho, hl⟩ := zQ I.ns
 ⟨od, ⟨I.obj, rfl, rfl, ho⟩, hl⟩
section
variable {prog : Program} {w : World} {A : Around} {E : Value -> Shared -> Prop} {s : Shared} {K : PySem.W.Frag} {x dx C f : Addr} {mA : Str -> Option Value} {name : Str} {v : Value}
theorem get_map {expr : Bool} {Q : Value -> Shared -> Prop} (X : K.In s.heap) (I : zP s.heap x dx C mA) (hg : PySem.W.plainGet K C name = true) (hh : PySem.W.hasDictIn K C = true)
   (ha : PySem.W.findIn K (.ref C) name = some none) (hv : mA name = some v) (Tj : PySem.W.handedIn v = true) (h : Q v { s with toks := s.toks + 1 }) :
   wpAny (model prog w) A (getAttr (.ref x) name expr) Q E s := by
 obtain ⟨od, J, hl⟩ := I.look
 exact PySem.W.get_value X J (PySem.W.plainGet_of hg).1 (PySem.W.findObj_own hh ha rfl (by rw [hl, hv])) Tj h
theorem D0 {ns : List Str} {Q : Unit -> Shared -> Prop} (X : K.In s.heap) (I : zP s.heap x dx C mA)
   (hs : PySem.W.findIn K (.ref C) "__setattr__" = some (some (.builtin "object.__setattr__"))) (hp : PySem.W.plainOver K C = true) (ht : PySem.W.takerIn K C name = some none) (hh : PySem.W.hasDictIn K C = true)
   (hw : PySem.Within mA ns) (A9 : ns.length <= sizeLine)
   (h : ∀ h', zP h' x dx C (fun y => if y = name then some v else mA y) -> Heap.SameBut dx s.heap h' -> Q () { s with heap := h', toks := s.toks + 2 }) :
   wpAny (model prog w) A (setAttr (.ref x) name v) Q E s := by
 obtain ⟨od, J, hl⟩ := I.look
 refine PySem.W.set_plain X J hs (PySem.W.osa_open (s := { s with toks := s.toks + 1 }) (r := none) X J hp ht fun b => ?_)
 obtain ⟨cd, hc, IC⟩ := PySem.W.any_some hh
 have hx : s.heap.get? x = some ⟨.ref C, some dx, .plain, #[]⟩ := I.obj
 refine VG (Wh (VG (VG (wpAny_loadPart hx (VG (PySem.W.Looks.here (s := { s with toks := s.toks + 1 }) (PySem.W.looks_clsIn X hc) ?_))))))
 rw [IC]
 refine Wh (a := some dx) (VG (Wh (VG ?_)))
 refine wpAny_nsSet1 (s := { s with toks := s.toks + 1 }) I.ns fun h' O1 Ma => ?_
 obtain ⟨oD, Vb, Vc, Tp, Tq, Tr⟩ := O1.count (PySem.Within.cons name v hw)
 refine VG (wpAny_lookBehind Tp (by rw [Tq]; exact pastItsLine_dict (Wk Tr (by rw [VX]; omega))) ?_)
 exact Wh (h _ ⟨(Ma.2 _ (Ne.symm I.ne)).trans I.obj, O1, I.ne⟩ Ma)
theorem Ba {R : Result -> Shared -> Prop} {vs : List Value} {kw : List (Str × Value)} (X : K.In s.heap) (hm : PySem.W.makesIn K C = true)
   (hi : PySem.W.findIn K (.ref C) "__init__" = some (some (.ref f))) (hf : PySem.W.typeIn K (.ref f) = some (.type "function"))
   (h : codeAny (model prog w) (A.under (.builtin "type.__call__" ⟨.ref C :: vs, kw⟩)) (.call (.ref f) ⟨.ref (s.heap.objs.size + 1) :: vs, kw⟩) (PySem.W.InitBack (s.heap.objs.size + 1) R)
     { s with heap := (s.heap.push PySem.W.emptyDict).push (PySem.W.instObj C s.heap.objs.size) }) :
   codeAny (model prog w) A (.call (.ref C) ⟨vs, kw⟩) R s := by
 obtain ⟨hh, g, d, t, os⟩ := s
 exact PySem.W.make_core (PySem.W.makes_of X hm) (PySem.W.looks_findIn X hi) (fun self => PySem.W.bind_fn X self hf) (.inl rfl) h
end
def fL (f : Str) (v : V) : List (Str × V) -> List (Str × V)
 | [] => [(f, v)]
 | (g, x) :: r => if g = f then (g, v) :: r else (g, x) :: fL f v r
theorem ng (f g : Str) (v : V) : ∀ fs : List (Str × V), (fL f v fs).lookup g = if g = f then some v else fs.lookup g
 | [] => by
   show List.lookup g [(f, v)] = _
   by_cases h : g = f
   . have hb : (g == f) = true := beq_iff_eq.mpr h
     simp only [List.lookup, hb, Vy h]
   . have hb : (g == f) = false := Xh.mpr h
     simp only [List.lookup, hb, Vx h]
 | (k, x) :: r => by
   have ih := ng f g v r
   rw [show fL f v ((k, x) :: r) = (if k = f then (k, v) :: r else (k, x) :: fL f v r) from rfl]
   by_cases hk : k = f
   . rw [Vy hk]
     by_cases h : g = k
     . have hb : (g == k) = true := beq_iff_eq.mpr h
       simp only [List.lookup, hb, Vy (h.trans hk)]
     . have hb : (g == k) = false := Xh.mpr h
       simp only [List.lookup, hb, Vx (fun e : g = f => h (e.trans hk.symm))]
   . rw [Vx hk]
     by_cases h : g = k
     . have hb : (g == k) = true := beq_iff_eq.mpr h
       simp only [List.lookup, hb, Vx (fun e : g = f => hk (h.symm.trans e))]
     . have hb : (g == k) = false := Xh.mpr h
       simp only [List.lookup, hb]
       exact ih
theorem mj (f : Str) (v : V) : ∀ fs : List (Str × V), f ∈ (fL f v fs).map (·.1) /\ ∀ g, g ∈ fs.map (·.1) -> g ∈ (fL f v fs).map (·.1)
 | [] => ⟨by simp [fL], fun g h => by simp at h⟩
 | (k, x) :: r => by
   obtain ⟨i1, i2⟩ := mj f v r
   rw [show fL f v ((k, x) :: r) = (if k = f then (k, v) :: r else (k, x) :: fL f v r) from rfl]
   by_cases hk : k = f
   . rw [Vy hk]
     subst hk
     exact ⟨by simp, fun g h => by simpa using h⟩
   . rw [Vx hk]
     refine ⟨?_, fun g h => ?_⟩
     . rw [Wg]
       exact VH _ i1
     . rw [Wg] at h ⊢
       rcases VC.mp h with e | e
       . exact VC.mpr (.inl e)
       . exact VH _ (i2 g e)
theorem nh (f : Str) (v : V) : ∀ fs : List (Str × V), (fL f v fs).length <= fs.length + 1
 | [] => by simp [fL]
 | (k, x) :: r => by
   have ih := nh f v r
   rw [show fL f v ((k, x) :: r) = (if k = f then (k, v) :: r else (k, x) :: fL f v r) from rfl]
   by_cases hk : k = f
   . rw [Vy hk, VX, VX]; omega
   . rw [Vx hk, VX, VX]; omega
theorem xE.some_of {v : V} {o : Option Value} (r : xE (some v) o) : ∃ u, o = some u /\ RelV v u := by
 cases o with
 | none => exact (show False from r).elim
 | some u => exact ⟨u, rfl, r⟩
theorem zR {v : V} {u : Value} (r : RelV v u) : PySem.W.handedIn u = true := by
 cases v with
 | non => cases (show u = Value.none from r); rfl
 | bl b => cases (show u = Value.bool b from r); rfl
 | int i => obtain ⟨t, e⟩ := (show ∃ t, u = Value.int i t from r); cases e; rfl
 | str x => obtain ⟨t, e⟩ := (show ∃ t, u = Value.str x t from r); cases e; rfl
 | AQ b => obtain ⟨t, e⟩ := (show ∃ t, u = Value.bytes b t from r); cases e; rfl
 | OG b => obtain ⟨t, e⟩ := (show ∃ t, u = Value.float b t from r); cases e; rfl
 | ref a => cases (show u = Value.ref a from r); rfl
 | ty n => cases (show u = Value.type n from r); rfl
section
variable {P : Program} {w : World} {H H' : Hp} {h h' : Heap} {a C dx : Addr} {fs S6 : List (Str × V)}
theorem yK (cK : nK P w H h) (e : H a = some (.ins C dx fs)) : ∃ mA, zP h a dx C mA /\ (∀ f, xE (fs.lookup f) (mA f)) /\ PySem.Within mA (fs.map (·.1)) /\ fs.length <= 1000 /\ H dx = some (.own a) := by
 obtain ⟨d, z, ne, ob, mA, n, r, q⟩ := (show eV P w H h a (.ins C dx fs) from cK a _ e)
 exact ⟨mA, ⟨ob, n, ne⟩, r, q, z, d⟩
end
structure vo (K : PySem.W.Frag) (C : Addr) : Prop where
 pg : PySem.W.plainGet K C Str.empty = true
 hd : PySem.W.hasDictIn K C = true
 po : PySem.W.plainOver K C = true
 sa : PySem.W.findIn K (.ref C) "__setattr__" = some (some (.builtin "object.__setattr__"))
theorem vo.get {K : PySem.W.Frag} {C : Addr} (c : vo K C) (f : Str) : PySem.W.plainGet K C f = true := c.pg
def aY (K : PySem.W.Frag) (C : Addr) (f : Str) : Prop := PySem.W.findIn K (.ref C) f = some none
theorem aY.Ms {K : PySem.W.Frag} {C : Addr} {f : Str} (n : aY K C f) : PySem.W.takerIn K C f = some none := by
 unfold PySem.W.takerIn
 rw [show PySem.W.findIn K (.ref C) f = some none from n]
 rfl
section
variable {X : Cx} {pins : List (Addr × Obj)} {σ : St} {H : Hp} {s : Shared} {a C dx : Addr} {fs : List (Str × V)} {f : Str} {v : V} {A : Around} {E : Value -> Shared -> Prop}
theorem xM {b : Bool} {Q : Value -> Shared -> Prop} (I : Inv X pins σ H s) (e : H a = some (.ins C dx fs)) (c : vo X.K C) (n : aY X.K C f) (l : fs.lookup f = some v)
   (h : ∀ u s', Inv X pins σ H s' -> RelV v u -> Q u s') : wpAny (model X.prog X.w) A (getAttr (.ref a) f b) Q E s := by
 obtain ⟨mA, O, r, _, _, _⟩ := yK I.cK e
 obtain ⟨u, hu, ru⟩ := xE.some_of (v := v) (o := mA f) (by rw [← l]; exact r f)
 exact get_map I.vn O (c.get f) c.hd n hu (zR ru) (h u _ (I.tok _) ru)
theorem xN {y : V} {u : Value} {Q : Unit -> Shared -> Prop} (I : Inv X pins σ H s) (e : H a = some (.ins C dx fs)) (c : vo X.K C) (n : aY X.K C f) (hl : fs.length < 1000) (ry : RelV y u)
   (h : ∀ s', Inv X pins σ (upd H a (.ins C dx (fL f y fs))) s' -> Q () s') : wpAny (model X.prog X.w) A (setAttr (.ref a) f u) Q E s := by
 obtain ⟨mA, O, r, wi, _, ho⟩ := yK I.cK e
 have hz : (fs.map (·.1)).length <= sizeLine := by rw [VL, Wb]; omega
 refine D0 I.vn O c.sa c.po n.Ms c.hd wi hz fun h' O' sb => h _ ?_
 have hd : ∃ o, h'.get? dx = some o := let ⟨o, _, _, e', _⟩ := O'.ns; ⟨o, e'⟩
 refine I.write (x := a) (e := dx) (by rw [e]; exact True.intro) (.inr ho) (fun b q hb z => (sb.2 b hb).trans z) hd ?_
 refine ⟨by rw [au O.ne]; exact ho, ?_, O.ne, O'.obj, _, O'.ns, fun g => ?_, fun g hg => ?_⟩
 . have := nh f y fs; omega
 . show xE ((fL f y fs).lookup g) (if g = f then some u else mA g)
   rw [ng]
   by_cases q : g = f
   . rw [Vy q, Vy q]; exact ry
   . rw [Vx q, Vx q]; exact r g
 . by_cases q : g = f
   . rw [q]; exact (mj f y fs).1
   . refine (mj f y fs).2 g (wi g fun z => hg ?_)
     show (if g = f then some u else mA g) = none
     rw [Vx q]; exact z
theorem Inv.made (I : Inv X pins σ H s) : Inv X pins σ (upd (upd H s.heap.objs.size (.own (s.heap.objs.size + 1))) (s.heap.objs.size + 1) (.ins C s.heap.objs.size []))
   { s with heap := (s.heap.push PySem.W.emptyDict).push (PySem.W.instObj C s.heap.objs.size) } := by
 have e1 : (s.heap.push PySem.W.emptyDict).get? s.heap.objs.size = some PySem.W.emptyDict := V5 s.heap rfl
 have e2 : ((s.heap.push PySem.W.emptyDict).push (PySem.W.instObj C s.heap.objs.size)).get? (s.heap.objs.size + 1) = some (PySem.W.instObj C s.heap.objs.size) := by
   have := V5 (s.heap.push PySem.W.emptyDict) (o := PySem.W.instObj C s.heap.objs.size) rfl
   rwa [Heap.size_push] at this
 have e3 : (s.heap.push PySem.W.emptyDict).Ns s.heap.objs.size (fun _ => none) := ⟨PySem.W.emptyDict, #[], _, e1, rfl, (fun e he => absurd he (by simp)), fun _ => rfl⟩
 have I1 := I.laid (a := s.heap.objs.size) (o := .own (s.heap.objs.size + 1)) (h' := s.heap.push PySem.W.emptyDict) (t' := s.toks) (fun b u q => VD _ q) (Vz _) ⟨_, e1⟩
 refine I1.laid (a := s.heap.objs.size + 1) (o := .ins C s.heap.objs.size []) (t' := s.toks) (fun b u q => VD _ q) (Nat.le_of_eq (Heap.size_push _ _)) ?_
 have ne : s.heap.objs.size ≠ s.heap.objs.size + 1 := Wd (Nat.lt_succ_self _)
 refine ⟨by rw [au ne, aK], Wi _, ne, e2, fun _ => none, (Heap.Ns1.of_empty e3).at fun o q => VD _ q, fun _ => True.intro, fun y hy => absurd rfl hy⟩
theorem D3 {prog : Program} {w : World} {env : Env} {e : Expr} {f : Str} {pos : Pos} {s : Shared} {Q : Value -> Shared -> Prop} (hb : attributeBase e f env (eval e env) = eval e env)
   (h : wpAny (model prog w) A (eval e env) (fun o s₁ => wpAny (model prog w) A (getAttr o f true) Q E s₁) E s) : wpAny (model prog w) A (eval (.Attribute e f pos) env) Q E s :=
 Attribute_any_ h (by rw [arm_eval_Attribute, hb])
end
def Qe (K : PySem.W.Frag) (ta : TE) (f : Str) : TE := fun σ H Q => ta σ H fun x H1 => ∃ a C dx fs v, x = .ref a /\ H1 a = some (.ins C dx fs) /\ vo K C /\ aY K C f /\ fs.lookup f = some v /\ Q v H1
def Qf (K : PySem.W.Frag) (ta tv : TE) (f : Str) : TS := fun D σ H => tv σ H fun y H1 => ta σ H1 fun x H2 => ∃ a C dx fs, x = .ref a /\ H2 a = some (.ins C dx fs) /\ vo K C /\ aY K C f /\ fs.length < 1000 ∧
 D.nx σ (upd H2 a (.ins C dx (fL f y fs)))
section
variable {X : Cx} {o e value : Expr} {f : Str} {pos pos' Qg : Pos} {ta tv : TE}
theorem Bb (he : PE X e ta) (hb : attributeBase e f X.env (eval e X.env) = eval e X.env) : PE X (.Attribute e f pos) (Qe X.K ta f) := by
 intro pins s σ H Q I h
 refine D3 hb (cR (he pins s σ H _ I h) fun u s1 ⟨x, H1, I1, rx, a, C, dx, fs, v, ex, ea, c, n, l, q⟩ => ?_)
 subst ex
 obtain rfl : u = Value.ref a := rx
 exact xM I1 ea c n l fun u' s2 I2 ru => ⟨v, H1, I2, ru, q⟩
theorem Jj (ha : PE X o ta) (hv : PE X value tv) (hs : swapsWith value (some (.Attribute o f pos')) pos.line X.env = pure false) : PS X (.Assign [.Attribute o f pos'] value pos) (Qf X.K ta tv f) := by
 intro pins s σ H D I h
 refine plainObj_wpAny_Assign_Attribute (cR (hv pins s σ H _ I h) fun u s1 ⟨y, H1, I1, ry, q⟩ => cR (ha pins s1 σ H1 _ I1 q) fun ov s2 ⟨x, H2, I2, rx, a, C, dx, fs, ex, ea, c, n, l, q2⟩ => ?_) hs
 subst ex
 obtain rfl : ov = Value.ref a := rx
 exact xN I2 ea c n l ry fun s3 I3 => ⟨σ, _, I3, q2⟩
end
section
variable {X : Cx} {pins : List (Addr × Obj)} {σ : St} {H : Hp} {s : Shared} {A : Around} {E : Value -> Shared -> Prop} {Q : Value -> Shared -> Prop} {c : Value} {b : Bool}
end
structure dg (k : Nat) (A : Around) : Prop where
 hd : A.handled = none
 dp : A.depth + 3 * k + 5 < recursionLimit
 un : A.units + 16 * k + 200 < cLine
theorem dg.mono {j k : Nat} {A : Around} (r : dg k A) (h : j <= k) : dg j A := ⟨r.hd, by have := r.dp; omega, by have := r.un; omega⟩
theorem dg.deeper {k : Nat} {A : Around} (r : dg (k + 1) A) (env : Env) : dg k (A.deeper env) :=
 ⟨r.hd, by have := r.dp; show A.depth + 1 + 3 * k + 5 < _; omega, by have := r.un; show A.units + 3 + 16 * k + 200 < _; omega⟩
theorem xO {A : Around} {C : Addr} {us : List Value} {kw : List (Str × Value)} : (A.under (.builtin "type.__call__" ⟨.ref C :: us, kw⟩)).depth = A.depth + 1 := by
 first | rfl | simp [Around.under, Code.weight, Code.isCreation, Code.isGuard, Code.isCaller, Code.frames, Code.isFrame, guardIds]
theorem xP {A : Around} {C : Addr} {us : List Value} {kw : List (Str × Value)} : (A.under (.builtin "type.__call__" ⟨.ref C :: us, kw⟩)).units = A.units + 1 := by
 first | rfl | simp [Around.under, Code.cUnits, Code.frames, Code.isFrame]
theorem dg.make {k : Nat} {A : Around} (r : dg (k + 1) A) (C : Addr) (us : List Value) (kw : List (Str × Value)) : dg k (A.under (.builtin "type.__call__" ⟨.ref C :: us, kw⟩)) :=
 ⟨r.hd, by have := r.dp; rw [xO]; omega, by have := r.un; rw [xP]; omega⟩
theorem dg.depth {k : Nat} {A : Around} (r : dg k A) : A.depth < recursionLimit := by have := r.dp; omega
theorem dg.units {k : Nat} {A : Around} (r : dg k A) : A.units + 64 < cLine := by have := r.un; omega
def Bc : TA := fun _ H Q => Q [] H
def yL (ta : TE) (tr : TA) : TA := fun σ H Q => ta σ H fun x H1 => tr σ H1 fun xs H2 => Q (x :: xs) H2
section
variable {X : Cx} {e : Expr} {es : List Expr} {te : TE} {t : TA} {pos : Pos}
theorem eK : PA X [] Bc := fun _ _ _ _ H Q I h => Calls.spliced_nil ⟨[], H, I, .nil, h⟩
theorem cA (ha : PE X e te) (hr : PA X es t) (hs : starEach (e :: es) X.env = (false, eval e X.env) :: starEach es X.env := by rfl) : PA X (e :: es) (yL te t) := by
 intro pos pins s σ H Q I h
 rw [hs]
 show wpAny _ _ (spliced ((false, eval e X.env) :: backTo pos (starEach es X.env))) _ _ s
 refine Calls.spliced_cons (cR (ha pins s σ H _ I h) fun u s1 ⟨x, H1, I1, r1, q1⟩ => ?_)
 exact cR (hr pos pins s1 σ H1 _ I1 q1) fun us s2 ⟨xs, H2, I2, r2, q2⟩ => ⟨x :: xs, H2, I2, .cons r1 r2, q2⟩
def Qh (t : TA) : TE := fun σ H Q => t σ H fun xs H1 => xs.length <= sizeLine /\ ∀ p, H1 p = none -> Q (.ref p) (upd H1 p (.tup xs))
def Qi (t : TA) : TE := fun σ H Q => t σ H fun xs H1 => xs.length <= sizeLine /\ ∀ p, H1 p = none -> Q (.ref p) (upd H1 p (.lst xs))
theorem Jk {x1} (h : PA X es t) : PE X (.Tuple es x1 pos) (Qh t) := by
 intro pins s σ H Q I hq
 refine wpAny_Tuple_spliced (cR (h pos pins s σ H _ I hq) fun us s1 ⟨xs, H1, I1, r, z, q⟩ => ⟨by rw [← r.length]; exact z, ?_⟩)
 have hf : H1 s1.heap.objs.size = none := I1.cK.fresh (Vz _)
 refine ⟨.ref s1.heap.objs.size, upd H1 s1.heap.objs.size (.tup xs), I1.laid (t' := s1.toks) (fun b u e => VD _ e) (Vz _) ?_, rfl, q _ hf⟩
 exact ⟨z, us, r, ⟨_, V5 _ rfl, rfl, _, rfl⟩⟩
theorem Jl (h : PA X es t) : PE X (.List es pos) (Qi t) := by
 intro pins s σ H Q I hq
 refine wpAny_List_spliced (cR (h pos pins s σ H _ I hq) fun us s1 ⟨xs, H1, I1, r, z, q⟩ => ⟨by rw [← r.length]; exact z, ?_⟩)
 have hf : H1 s1.heap.objs.size = none := I1.cK.fresh (Vz _)
 refine ⟨.ref s1.heap.objs.size, upd H1 s1.heap.objs.size (.lst xs), I1.laid (t' := s1.toks) (fun b u e => VD _ e) (Vz _) ?_, rfl, q _ hf⟩
 exact ⟨z, us, 0, r, V5 _ rfl⟩
end
abbrev Sp := List V -> Hp -> VK -> XK -> Prop
abbrev Bd := List Env -> Hp -> Shared -> XK -> Value -> Shared -> Prop
structure xQ (P : Program) (w : World) (K : PySem.W.Frag) (mg : Str -> Option Value) (base : Heap) (A : Around) (outer : List Env) (s : Shared) (H : Hp) : Prop where
 frames : A.frames = some outer
 mod : Mod K mg base
 bs : ∀ b o, base.get? b = some o -> s.heap.get? b = some o /\ H b = none
 DG : base.objs.size <= s.heap.objs.size
 nL : s.heap.FunFrames base outer
 Iz : ∀ b ∈ AU outer, H b = none
 cK : nK P w H s.heap
 bare : AllBare s.gens
def CE (outer : List Env) (P : Program) (w : World) (H : Hp) (s : Shared) (Q : VK) (u : Value) (s' : Shared) : Prop :=
 ∃ v H', s'.os = s.os /\ AllBare s'.gens /\ Un (AU outer) [] H H' s.heap s'.heap /\ nK P w H' s'.heap /\ RelV v u /\ Q v H'
def CR (CX : Bd) (outer : List Env) (P : Program) (w : World) (H : Hp) (s : Shared) (Q : VK) (E : XK) (r : Result) (s' : Shared) : Prop :=
 match r with
 | .ok (.ret u) => CE outer P w H s Q u s'
 | .ok _ => False
 | .error e => CX outer H s E e s'
structure bX (P : Program) (w : World) (K : PySem.W.Frag) (mg : Str -> Option Value) (base : Heap) (CX : Bd) (k : Nat) (f : Addr) (fd : FuncData) (ps : List Str) (sp : Sp) : Prop where
 len : ∀ vs H Q E, sp vs H Q E -> vs.length = ps.length
 run : ∀ (A : Around) (outer : List Env) (s : Shared) (H : Hp) (args : Args) (us : List Value) (vs : List V) (Q : VK) (E : XK), dg k A -> xQ P w K mg base A outer s H -> BindsTo s fd args (ps.zip us) -> Vals vs us -> sp vs H Q E →
   codeAny (model P w) A (.call (.ref f) args) (CR CX outer P w H s Q E) s
theorem bX.imp {P : Program} {w : World} {K : PySem.W.Frag} {mg : Str -> Option Value} {base : Heap} {CX : Bd} {k : Nat} {f : Addr} {fd : FuncData} {ps : List Str} {sp RL : Sp} (F : bX P w K mg base CX k f fd ps sp)
   (h : ∀ vs H Q E, RL vs H Q E -> sp vs H Q E) : bX P w K mg base CX k f fd ps RL :=
 ⟨fun vs H Q E q => F.len vs H Q E (h _ _ _ _ q), fun A outer s H args us vs Q E hr he hb hv hs => F.run A outer s H args us vs Q E hr he hb hv (h _ _ _ _ hs)⟩
theorem xQ.make {P : Program} {w : World} {K : PySem.W.Frag} {mg : Str -> Option Value} {base : Heap} {A : Around} {outer : List Env} {s : Shared} {H : Hp} (e : xQ P w K mg base A outer s H) (C : Addr) (us : List Value) (kw : List (Str × Value)) :
   xQ P w K mg base (A.under (.builtin "type.__call__" ⟨.ref C :: us, kw⟩)) outer s H := ⟨by first | exact e.frames | (simpa [Around.under, Code.envs, Code.isFrame, pushEnvs] using e.frames), e.mod, e.bs, e.DG, e.nL, e.Iz, e.cK, e.bare⟩
section
variable {X : Cx} {pins : List (Addr × Obj)} {σ : St} {H : Hp} {s s' : Shared}
theorem Inv.Mt (I : Inv X pins σ H s) : xQ X.prog X.w X.K X.mg X.base X.A X.stack s H :=
 ⟨I.ok.frames, I.ok.mod, I.bs, Wk I.ok.DG I.sz, I.stack, I.r6, I.cK, I.bare⟩
theorem Inv.after {Q : VK} {u : Value} (I : Inv X pins σ H s) (h : CE X.stack X.prog X.w H s Q u s') : EP X pins σ Q u s' := by
 obtain ⟨v, H', os, bare, un, cK, r, q⟩ := h
 obtain ⟨hh, g, d, t, Lj⟩ := s'
 obtain rfl : Lj = s.os := os
 exact ⟨v, H', I.call (h' := hh) (g' := g) (d' := d) (t' := t) (ch := []) un cK bare (fun b z => absurd z (by simp)), r, q⟩
end
def HF (sp : Sp) (vA : List V) (E : XK) (t : TA) : TE := fun σ H Q => t σ H fun vs H1 => sp (vs ++ vA) H1 Q E
def Mu (C : Addr) (sp : Sp) (vA : List V) (E : XK) (t : TA) : TE := fun σ H Q => t σ H fun vs H1 => ∀ x dx, H1 x = none -> H1 dx = none -> dx ≠ x →
 sp (.ref x :: (vs ++ vA)) (upd (upd H1 dx (.own x)) x (.ins C dx [])) (fun v H2 => v = .non /\ Q (.ref x) H2) E
def Binds (K : PySem.W.Frag) (fd : FuncData) (ps : List Str) (ds : List Value) : Prop :=
 ∀ (s : Shared) (us : List Value), K.In s.heap -> (us ++ ds).length = ps.length -> BindsTo s fd ⟨us, []⟩ (ps.zip (us ++ ds))
theorem Binds.all {K : PySem.W.Frag} {fd : FuncData} {ps : List Str} (h : ∀ us : List Value, us.length = ps.length -> bindArgs fd ⟨us, []⟩ = pure (ps.zip us)) : Binds K fd ps [] := fun s us _ hl => by
 rw [Wx] at hl ⊢
 exact .of_eq (h us hl)
def Passes (CX : Bd) (X : Cx) (E : XK) : Prop := ∀ (pins : List (Addr × Obj)) (σ : St) (H : Hp) (s : Shared) (e : Value) (s' : Shared), Inv X pins σ H s -> CX X.stack H s E e s' -> X.xe e s'
section
variable {X : Cx} {CX : Bd} {k : Nat} {f C : Addr} {fd : FuncData} {ps : List Str} {sp : Sp} {vA : List V} {ds : List Value} {E : XK} {x m : Str} {p pos apos : Pos} {e o : Expr} {es : List Expr} {ta : TE} {t : TA}
theorem Be {pins : List (Addr × Obj)} {σ : St} {H : Hp} {s : Shared} {Q : VK} {us : List Value} {vs : List V} (F : bX X.prog X.w X.K X.mg X.base CX k f fd ps sp) (hr : dg k X.A) (hb : Binds X.K fd ps ds) (hd : Vals vA ds) (hx : Passes CX X E)
   (I : Inv X pins σ H s) (r : Vals vs us) (h : sp (vs ++ vA) H Q E) : wpAny (model X.prog X.w) X.A (call (.ref f) us) (EP X pins σ Q) X.xe s := by
 have r2 : Vals (vs ++ vA) (us ++ ds) := r.append hd
 have hl : (us ++ ds).length = ps.length := by rw [← r2.length]; exact F.len _ _ _ _ h
 refine wpAny_call (codeAny_mono (F.run X.A X.stack s H ⟨us, []⟩ (us ++ ds) (vs ++ vA) Q E hr I.Mt (hb s us I.vn hl) r2 h) fun r s' hq => ?_)
 cases r with
 | error e => exact hx pins σ H s e s' I hq
 | ok fl =>
   cases fl with
   | ret u => exact I.after hq
   | next => exact False.elim hq
   | brk => exact False.elim hq
   | cont => exact False.elim hq
theorem D4 (F : bX X.prog X.w X.K X.mg X.base CX k f fd ps sp) (hr : dg k X.A) (hg : Gl X x) (hm : X.mg x = some (.ref f)) (hk : PySem.W.keepIn X.K (.ref f) = true) (hb : Binds X.K fd ps ds) (hd : Vals vA ds) (hx : Passes CX X E)
   (ha : PA X (e :: es) t) (qA : (x == ("__debug__" : Str)) = false := by decide) (he : starEach (e :: es) X.env = (false, eval e X.env) :: starEach es X.env := by rfl) (qB : (backTo pos (starEach es X.env)).any (·.1) = false := by rfl) :
   PE X (.Call (.Name x p) (e :: es) [] pos) (HF sp vA E t) := by
 intro pins s σ H Q I h
 refine WV (nX I hg hm ?_ qA)
 refine PySem.W.callWith_K (h₀ := X.base) I.ok.mod.OL hk (cR (ha pos pins s σ H _ I h) fun us s1 ⟨vs, H1, I1, r, q⟩ => ⟨I1.vn, ?_⟩) he qB
 exact Be F hr hb hd hx I1 r q
theorem Bf (F : bX X.prog X.w X.K X.mg X.base CX k f fd ps sp) (hr : dg k X.A) (hg : Gl X x) (hm : X.mg x = some (.ref f)) (hk : PySem.W.keepIn X.K (.ref f) = true) (hb : Binds X.K fd ps ds) (hd : Vals vA ds) (hx : Passes CX X E)
   (qA : (x == ("__debug__" : Str)) = false := by decide) : PE X (.Call (.Name x p) [] [] pos) (HF sp vA E Bc) := by
 intro pins s σ H Q I h
 refine WV (nX I hg hm ?_ qA)
 exact PySem.W.callWith_K0 I.vn hk (Be (us := []) F hr hb hd hx I .nil h)
structure Mk (K : PySem.W.Frag) (C f : Addr) : Prop where
 makes : PySem.W.makesIn K C = true
 init : PySem.W.findIn K (.ref C) "__init__" = some (some (.ref f))
 fn : PySem.W.isFn K (.ref f) = true
 kp : PySem.W.keepIn K (.ref C) = true
theorem Bg {pins : List (Addr × Obj)} {σ : St} {H : Hp} {s : Shared} {Q : VK} {us : List Value} {vs : List V} (M : Mk X.K C f) (F : bX X.prog X.w X.K X.mg X.base CX k f fd ps sp) (hr : dg (k + 1) X.A) (hb : Binds X.K fd ps ds) (hd : Vals vA ds)
   (hx : Passes CX X E) (I : Inv X pins σ H s) (r : Vals vs us)
   (h : ∀ x dx, H x = none -> H dx = none -> dx ≠ x -> sp (.ref x :: (vs ++ vA)) (upd (upd H dx (.own x)) x (.ins C dx [])) (fun v H2 => v = .non /\ Q (.ref x) H2) E) :
   wpAny (model X.prog X.w) X.A (call (.ref C) us) (EP X pins σ Q) X.xe s := by
 have hq := h (s.heap.objs.size + 1) s.heap.objs.size (I.cK.fresh (Nat.le_succ _)) (I.cK.fresh (Vz _)) (Wd (Nat.lt_succ_self _))
 have I2 := Inv.made (C := C) I
 have r2 : Vals (V.ref (s.heap.objs.size + 1) :: (vs ++ vA)) (Value.ref (s.heap.objs.size + 1) :: (us ++ ds)) := .cons rfl (r.append hd)
 have hl : (Value.ref (s.heap.objs.size + 1) :: us ++ ds).length = ps.length := by
   have e := r2.length
   rw [F.len _ _ _ _ hq] at e
   exact e.symm
 refine wpAny_call (Ba (f := f) I.vn M.makes M.init (beq_iff_eq.mp M.fn) (codeAny_mono (F.run _ X.stack _ _ ⟨Value.ref (s.heap.objs.size + 1) :: us, []⟩ (Value.ref (s.heap.objs.size + 1) :: (us ++ ds)) _ _ E (hr.make C us [])
   (I2.Mt.make C us []) (hb _ (Value.ref (s.heap.objs.size + 1) :: us) I2.vn hl) r2 hq) fun r s' Mv => ?_))
 cases r with
 | error e => exact hx pins σ _ _ e s' I2 Mv
 | ok fl =>
   cases fl with
   | ret u =>
     obtain ⟨v, H', I3, rv, ev, q3⟩ := I2.after Mv
     subst ev
     exact ⟨rv, ⟨V.ref (s.heap.objs.size + 1), H', I3, rfl, q3⟩⟩
   | next => exact False.elim Mv
   | brk => exact False.elim Mv
   | cont => exact False.elim Mv
theorem yM (M : Mk X.K C f) (F : bX X.prog X.w X.K X.mg X.base CX k f fd ps sp) (hr : dg (k + 1) X.A) (hg : Gl X x) (hm : X.mg x = some (.ref C)) (hb : Binds X.K fd ps ds) (hd : Vals vA ds) (hx : Passes CX X E)
   (ha : PA X (e :: es) t) (qA : (x == ("__debug__" : Str)) = false := by decide) (he : starEach (e :: es) X.env = (false, eval e X.env) :: starEach es X.env := by rfl) (qB : (backTo pos (starEach es X.env)).any (·.1) = false := by rfl) :
   PE X (.Call (.Name x p) (e :: es) [] pos) (Mu C sp vA E t) := by
 intro pins s σ H Q I h
 refine WV (nX I hg hm ?_ qA)
 refine PySem.W.callWith_K (h₀ := X.base) I.ok.mod.OL M.kp (cR (ha pos pins s σ H _ I h) fun us s1 ⟨vs, H1, I1, r, q⟩ => ⟨I1.vn, ?_⟩) he qB
 exact Bg M F hr hb hd hx I1 r q
end
def PK (X : Cx) (kws : List Keyword) (t : TA) : Prop :=
 ∀ (pos : Pos) (pins : List (Addr × Obj)) (s : Shared) (σ : St) (H : Hp) (Q : List V -> Hp -> Prop), Inv X pins σ H s -> t σ H Q -> wpAny (model X.prog X.w) X.A (evalAll ((backToKw pos (keywordEach kws X.env)).map (·.2))) (AP X pins σ Q) X.xe s
section
variable {X : Cx} {CX : Bd} {k : Nat} {f C : Addr} {fd : FuncData} {ps ks : List Str} {sp : Sp} {E : XK} {x m : Str} {p pos apos Qj : Pos} {e o : Expr} {es : List Expr} {kws : List Keyword} {te ta : TE} {t tk : TA} {nm : Option Str}
theorem Jm : PK X [] Bc := fun _ _ _ _ H Q I h => wpAny_evalAll_nil ⟨[], H, I, .nil, h⟩
theorem D5 (ha : PE X e te) (hr : PK X kws t) : PK X (⟨nm, e, Qj⟩ :: kws) (yL te t) := by
 intro pos pins s σ H Q I h
 show wpAny _ _ (evalAll ((do let v ← eval e X.env; standAt pos; pure v) :: (backToKw pos (keywordEach kws X.env)).map (·.2))) _ _ s
 refine wpAny_evalAll_cons (VG (cR (ha pins s σ H _ I h) fun u s1 ⟨x, H1, I1, r1, q1⟩ => VG (wpAny_standAt (Wh ?_))))
 exact cR (hr pos pins s1 σ H1 _ I1 q1) fun us s2 ⟨xs, H2, I2, r2, q2⟩ => ⟨x :: xs, H2, I2, .cons r1 r2, q2⟩
variable {g : List Value -> List Value -> List Value} {gV : List V -> List V -> List V}
end
structure aP (N P : List Str) (sc : Scope) : Prop where
 kind : sc.kind = .function
 co : sc.isCoroutine = false
 gen : sc.isGenerator = false
 nd : N.Nodup
 pre : N.take P.length = P
 par : ∀ x ∈ P, sc.names.lookup x = some .local \/ sc.names.lookup x = some .cell
 Jo : ∀ y ∈ sc.names, y.2 ≠ .free
theorem q8 {kindOf : Str -> Option NameKind} {x : Str} : ∀ {binds : List (Str × Value)} {m : Str -> Option Value}, (∀ v, (x, v) ∉ binds) -> bindL kindOf binds m x = m x
 | [], _, _ => rfl
 | (n, v) :: r, m, h => by
   unfold bindL
   rw [q8 fun w hw => h w (VH _ hw)]
   split
   . have : x ≠ n := by rintro rfl; exact h v VJ
     simp [this]
   . rfl
theorem rg {kindOf : Str -> Option NameKind} {x : Str} : ∀ {binds : List (Str × Value)} {m : Str -> Option Value}, (∀ v, (x, v) ∉ binds) -> bindC kindOf binds m x = m x
 | [], _, _ => rfl
 | (n, v) :: r, m, h => by
   unfold bindC
   rw [rg fun w hw => h w (VH _ hw)]
   split
   . rfl
   . have : x ≠ n := by rintro rfl; exact h v VJ
     simp [this]
theorem rj {kindOf : Str -> Option NameKind} {x : Str} {v : Value} : ∀ {P : List Str} {vs : List Value} {i : Nat} {m : Str -> Option Value}, P.Nodup -> P[i]? = some x -> vs[i]? = some v -> kindOf x = some .local →
   bindL kindOf (P.zip vs) m x = some v
 | [], _, _, _, _, h, _, _ => by simp at h
 | _ :: _, [], _, _, _, _, h, _ => by simp at h
 | p :: P, w :: vs, 0, m, nd, h1, h2, hk => by
   simp at h1 h2; subst h1; subst h2
   show bindL kindOf ((p, w) :: P.zip vs) m p = _
   unfold bindL
   rw [q8 fun v hv => (WZ.mp nd).1 (List.of_mem_zip hv).1, Vy hk]
   simp
 | p :: P, w :: vs, i + 1, m, nd, h1, h2, hk => by
   show bindL kindOf ((p, w) :: P.zip vs) m x = _
   unfold bindL
   exact rj (i := i) (List.nodup_cons.mp nd).2 (by simpa using h1) (by simpa using h2) hk
theorem rq {kindOf : Str -> Option NameKind} {x : Str} {v : Value} : ∀ {P : List Str} {vs : List Value} {i : Nat} {m : Str -> Option Value}, P.Nodup -> P[i]? = some x -> vs[i]? = some v -> kindOf x ≠ some .local →
   bindC kindOf (P.zip vs) m x = some v
 | [], _, _, _, _, h, _, _ => by simp at h
 | _ :: _, [], _, _, _, _, h, _ => by simp at h
 | p :: P, w :: vs, 0, m, nd, h1, h2, hk => by
   simp at h1 h2; subst h1; subst h2
   show bindC kindOf ((p, w) :: P.zip vs) m p = _
   unfold bindC
   rw [rg fun v hv => (WZ.mp nd).1 (List.of_mem_zip hv).1, Vx hk]
   simp
 | p :: P, w :: vs, i + 1, m, nd, h1, h2, hk => by
   show bindC kindOf ((p, w) :: P.zip vs) m x = _
   unfold bindC
   exact rq (i := i) (List.nodup_cons.mp nd).2 (by simpa using h1) (by simpa using h2) hk
def start (N : List Str) (vs : List V) : St := vs.map some ++ List.replicate (N.length - vs.length) none
def oU (CX : Bd) (P : Program) (w : World) (K : PySem.W.Frag) (mg : Str -> Option Value) (base : Heap) (N : List Str) (qual : Str) (scope : Scope) (f : Addr) (cd : Value) (A : Around) (outer : List Env) (s : Shared) (H : Hp) (E : XK) : Cx where
 prog := P
 w := w
 K := K
 mg := mg
 base := base
 A := A.deeper (envOfC qual scope s.heap.objs.size f cd)
 N := N
 s₀ := s
 H₀ := H
 env := envOfC qual scope s.heap.objs.size f cd
 outer := outer
 stack := envOfC qual scope s.heap.objs.size f cd :: outer
 ex := []
 calm := true
 fn := fun _ => true
 pn := []
 xe := fun e s' => wpAny (model P w) (A.deeper (envOfC qual scope s.heap.objs.size f cd)) (leaving (envOfC qual scope s.heap.objs.size f cd) e) (fun _ Lk => CX outer H s E e Lk) (fun e' Lk => CX outer H s E e' Lk) s'
theorem vC {sc : Scope} {n : Nat} {x : Str} (h : sc.names.lookup x = some .cell) : ∃ c, (cellsFrom n sc.names []).lookup x = some c := by
 have q := PySem.W.cellsFrom_some sc.names n [] (.inl h)
 exact Option.isSome_iff_exists.mp q
theorem zS {CX : Bd} {P : Program} {w : World} {K : PySem.W.Frag} {mg : Str -> Option Value} {base : Heap} {N ps : List Str} {qual : Str} {scope : Scope} {f : Addr} {cd : Value} {A : Around} {outer : List Env} {s s1 : Shared} {H : Hp} {E : XK} {us : List Value} {vs : List V}
   (S : aP N ps scope) (hd : A.handled = none) (e0 : xQ P w K mg base A outer s H) (hl : vs.length = ps.length) (r : Vals vs us)
   (x : InCallC s s.heap.objs.size (bindL (envOfC qual scope s.heap.objs.size f cd).kindOf (ps.zip us) fun _ => none) (cellsFrom (s.heap.objs.size + 1) scope.names []) (bindC (envOfC qual scope s.heap.objs.size f cd).kindOf (ps.zip us) fun _ => none) s1) :
   Inv (oU CX P w K mg base N qual scope f cd A outer s H E) [] (start N vs) H s1 := by
 have qB : ps.length <= N.length := by have := congrArg List.length S.pre; rw [List.length_take] at this; omega
 obtain ⟨h1, tk, rfl, hk⟩ := x.done
 have Lp : ∀ b : Addr, b ∉ (oU CX P w K mg base N qual scope f cd A outer s H E).ex := fun b z => absurd (show b ∈ ([] : List Addr) from z) (by simp)
 refine ⟨⟨e0.mod, S.kind, rfl, rfl, Vz _, fun y z c h1 h2 => ?_, fun y hy => ?_, fun y c _ h => ?_, fun _ => hd, Around.frames_deeper e0.frames, .inr ⟨rfl, rfl⟩, fun b z => absurd z (Lp b), e0.bs, e0.DG, fun b _ _ => Lp b, fun b z => absurd z (Lp b), e0.nL, e0.Iz⟩,
   rfl, e0.bare, Un.kept hk, ⟨_, x.toInCall.ns, fun i y v h1 h2 h3 => ?_⟩, fun y c h => ⟨_, x.cell y c h⟩, e0.cK.fresh (Vz _), fun y c h => ?_, fun p hp => absurd (show p ∈ ([] : List (Addr × Obj)) from hp) (by simp), e0.cK.kept hk, ?_⟩
 . exact name_of_addr x.apart (Wv h1) (Wv h2)
 . have hy : scope.names.lookup y = some .cell \/ scope.names.lookup y = some .free := hy
   rcases hy with hy | hy
   . exact vC hy
   . exact absurd rfl (S.Jo _ (Wv hy))
 . exact WG (x.above y c (Wv h))
 . have hi : i < vs.length := by
     unfold start at h2
     by_cases hi : i < vs.length
     . exact hi
     . rw [List.getElem?_append_right (by simpa using hi)] at h2
       rw [List.getElem?_replicate] at h2
       split at h2 <;> cases h2
   have ha : vs[i]? = some v := by
     unfold start at h2
     rw [List.getElem?_append_left (by simpa using hi), List.getElem?_map] at h2
     cases e : vs[i]? with
     | none => rw [e] at h2; cases h2
     | some a => rw [e] at h2; cases h2; rfl
   obtain ⟨u, hu, rv⟩ := r.get ha
   have hp : ps[i]? = some y := by
     rw [← S.pre, List.getElem?_take_of_lt (by omega)]; exact h1
   have RM : ps.Nodup := by rw [← S.pre]; exact S.nd.sublist (List.take_sublist _ _)
   refine ⟨u, rv, ?_⟩
   rcases S.par y (Wr hp) with k | k
   . exact .inl ⟨k, rj RM hp hu k⟩
   . obtain ⟨c, e⟩ := vC (n := s.heap.objs.size + 1) k
     refine .inr ⟨.inl k, c, e, ?_⟩
     have q := x.cell y c e
     rw [rq RM hp hu (by show scope.names.lookup y ≠ _; rw [k]; decide)] at q
     exact q
 . exact e0.cK.fresh (WG (x.above y c (Wv h)))
 . unfold start
   show _ = N.length
   rw [V1, VL, WN]
   omega
theorem HG {CX : Bd} {P : Program} {w : World} {K : PySem.W.Frag} {mg : Str -> Option Value} {base : Heap} {k : Nat} {f : Addr} {name qual : Str} {params : Arguments} {body : List Stmt} {scope : Scope} {dV kV doc pm cS ct oc : Value} {an od : Option Addr}
   {DI : Array (Option Value)} {N ps : List Str} {sp : Sp} (lk : K.lookup f = some ⟨oc, od, .func (PySem.W.fnOf name qual params body scope dV kV doc pm an cS ct), DI⟩) (gY : PySem.W.codeIn K cS qual = true) (S : aP N ps scope)
   (len : ∀ vs H Q E, sp vs H Q E -> vs.length = ps.length)
   (vD : ∀ (A : Around) (outer : List Env) (s : Shared) (H : Hp) (vs : List V) (Q : VK) (E : XK), dg k (A.deeper (envOfC qual scope s.heap.objs.size f cS)) -> sp vs H Q E →
     ∃ t, xF (oU CX P w K mg base N qual scope f cS A outer s H E) body t /\ t { nx := fun _ H' => Q .non H', rt := Q } (start N vs) H) :
   bX P w K mg base CX (k + 1) f (PySem.W.fnOf name qual params body scope dV kV doc pm an cS ct) ps sp := by
 refine ⟨len, fun A outer s H args us vs Q E hr e0 hb r DJ => ?_⟩
 have hl := len _ _ _ _ DJ
 have KX : K.In s.heap := e0.mod.OL.keeps fun b o e => (e0.bs b o e).1
 have lim : s.heap.NoLimit := e0.mod.nolimit.keeps fun b o e => (e0.bs b o e).1
 have oV : ∀ y ∈ ps.zip us, scope.names.lookup y.1 = some .local \/ (scope.names.lookup y.1 = some .cell /\ ((cellsFrom (s.heap.objs.size + 1) scope.names []).lookup y.1).isSome = true) := fun ⟨n, v⟩ hy => by
   rcases S.par n (List.of_mem_zip hy).1 with q | q
   . exact .inl q
   . exact .inr ⟨q, PySem.W.cellsFrom_some _ _ _ (.inl q)⟩
 refine codeAny_call_function hr.depth (KX _ _ lk) rfl S.co S.gen rfl (PySem.W.codeRec_of KX gY) (hb _ _ _ _ ?_)
 refine wpAny_newFunctionEnv_cells S.kind oV fun env he s1 x => ?_
 subst he
 refine ⟨lim.keeps x.toInCall.keep, codeAny_func ?_⟩
 obtain ⟨t, ht, hq⟩ := vD A outer s H vs Q E (hr.deeper _) DJ
 have I : Inv (oU CX P w K mg base N qual scope f cS A outer s H E) [] (start N vs) H s1 := zS S hr.hd e0 hl r x
 refine WL (ht [] s1 (start N vs) H _ I hq) (fun fl s' hs => ?_) fun e s' hs => hs
 have fin : ∀ {σ' : St} {H' : Hp} {v : V} {u : Value}, Inv (oU CX P w K mg base N qual scope f cS A outer s H E) [] σ' H' s' -> RelV v u -> Q v H' -> CE outer P w H s Q u s' :=
   fun {σ' H' v u} J rv q => ⟨v, H', J.os, J.bare, J.base, J.cK, rv, q⟩
 cases fl with
 | ret u =>
   obtain ⟨v, σ', H', J, rv, q⟩ := hs
   exact fin J rv q
 | next =>
   obtain ⟨σ', H', J, q⟩ := hs
   exact fin (v := V.non) (u := Value.none) J rfl q
 | brk =>
   obtain ⟨_, _, _, q⟩ := hs
   exact False.elim q
 | cont =>
   obtain ⟨_, _, _, q⟩ := hs
   exact False.elim q
section
variable {X : Cx} {x : Str} {p pos : Pos} {e : Expr} {es : List Expr} {t : TA} {id T : String} {r : List V -> Hp -> VK -> Prop}
def RN (r : List V -> Hp -> VK -> Prop) (t : TA) : TE := fun σ H Q => t σ H fun vs H1 => r vs H1 Q
theorem oW (hc : m9 X (.builtin id) r) (hg : Gl X x) (hm : X.mg x = none) (hv : bootBuiltins x = some (.builtin id)) (ha : PA X (e :: es) t) (hn : x ≠ "__name__" := by decide) (qA : (x == ("__debug__" : Str)) = false := by decide)
   (he : starEach (e :: es) X.env = (false, eval e X.env) :: starEach es X.env := by rfl) (qB : (backTo pos (starEach es X.env)).any (·.1) = false := by rfl) : PE X (.Call (.Name x p) (e :: es) [] pos) (RN r t) := by
 intro pins s σ H Q I h
 refine WV (lZ I hg hm hv ?_ hn qA)
 exact PyProof.Rows.callWith_builtin1 (cR (ha pos pins s σ H _ I h) fun us s1 ⟨vs, H1, I1, r1, q1⟩ => hc pins s1 σ H1 vs us Q I1 r1 q1) he qB
theorem jv (hc : m9 X (.type T) r) (hg : Gl X x) (hm : X.mg x = none) (hv : bootBuiltins x = some (.type T)) (ha : PA X (e :: es) t) (hn : x ≠ "__name__" := by decide) (qA : (x == ("__debug__" : Str)) = false := by decide)
   (he : starEach (e :: es) X.env = (false, eval e X.env) :: starEach es X.env := by rfl) (qB : (backTo pos (starEach es X.env)).any (·.1) = false := by rfl) : PE X (.Call (.Name x p) (e :: es) [] pos) (RN r t) := by
 intro pins s σ H Q I h
 refine WV (lZ I hg hm hv ?_ hn qA)
 exact Xd (cR (ha pos pins s σ H _ I h) fun us s1 ⟨vs, H1, I1, r1, q1⟩ => hc pins s1 σ H1 vs us Q I1 r1 q1) he qB
end
end L2
namespace HT
open PySem PyProof.Rows
section
open PySem.SeqAt
open PySem.AutoSeq1 (wpAny_loadPart')
open PySem.MeetsSeq PySem.MeetsSeq2 PySem.MeetsSeq3
end
section
variable {prog : Program} {w : World} {A : Around} {E : Value -> Shared -> Prop} {s : Shared}
def nM (n d : Nat) : Option Int -> Nat
 | none => d
 | some v => if v < 0 then (v + (n : Int)).toNat else min v.toNat n
end
end HT
namespace L2
open PySem PySem.Spec PyProof.Rows
abbrev TO := St -> Hp -> (Option Int -> Hp -> Prop) -> Prop
def PO (X : Cx) (e : Option Expr) (t : TO) : Prop :=
 ∀ (pins : List (Addr × Obj)) (s : Shared) (σ : St) (H : Hp) (Q : Option Int -> Hp -> Prop), Inv X pins σ H s -> t σ H Q →
   wpAny (model X.prog X.w) X.A (evalPart e X.env) (fun u s' => ∃ o H', Inv X pins σ H' s' /\ IsPart u o /\ Q o H') X.xe s
def D6 : TO := fun _ H Q => Q none H
def Mw (t : TE) : TO := fun σ H Q => t σ H fun x H1 => ∃ i, x = .int i /\ Q (some i) H1
section
variable {X : Cx} {e : Expr} {te : TE} {lo hi : Option Expr} {tl th : TO} {pos p2 : Pos}
theorem D7 : PO X none D6 := by
 intro pins s σ H Q I h
 rw [evalPart_none]
 exact Wh ⟨none, H, I, .none, h⟩
theorem D8 (h : PE X e te) : PO X (some e) (Mw te) := by
 intro pins s σ H Q I hw
 rw [evalPart_some]
 refine cR (h pins s σ H _ I hw) fun u s1 ⟨x, H1, I1, r1, q1⟩ => ?_
 obtain ⟨i, rfl, q⟩ := q1
 obtain ⟨t, rfl⟩ := r1
 exact ⟨some i, H1, I1, .int i t, q⟩
def Qk (X : Cx) (r : V -> Option Int -> Option Int -> Hp -> VK -> Prop) : Prop :=
 ∀ (pins : List (Addr × Obj)) (s : Shared) (σ : St) (H : Hp) (x : V) (v vl vu : Value) (lo hi : Option Int) (sl : Addr) (Q : VK), Inv X pins σ H s -> RelV x v -> s.heap.IsSliceOf sl vl vu .none -> IsPart vl lo -> IsPart vu hi -> r x lo hi H Q →
   ∃ T id, typeLookup (.type T) "__getitem__" = pure (some (.builtin id)) /\ s.TypeIs v T /\ wpAny (model X.prog X.w) X.A (getItem v (.ref sl)) (EP X pins σ Q) X.xe s
def Tt (r : V -> Option Int -> Option Int -> Hp -> VK -> Prop) (te : TE) (tl th : TO) : TE := fun σ H Q => te σ H fun x H1 => tl σ H1 fun l H2 => th σ H2 fun u H3 => r x l u H3 Q
theorem vF {r : V -> Option Int -> Option Int -> Hp -> VK -> Prop} (hr : Qk X r) (he : PE X e te) (hl : PO X lo tl) (hu : PO X hi th) : PE X (.Subscript e (.Slice lo hi none p2) pos) (Tt r te tl th) := by
 intro pins s σ H Q I h
 refine Subscript_ (cR (he pins s σ H _ I h) fun v s1 ⟨x, H1, I1, r1, q1⟩ => ?_)
 refine wpAny_Slice (cR (hl pins s1 σ H1 _ I1 q1) fun vl s2 ⟨l, H2, I2, pl, q2⟩ => cR (hu pins s2 σ H2 _ I2 q2) fun vu s3 ⟨u, H3, I3, pu, q3⟩ => ?_)
 rw [evalPart_none]
 refine Wh ?_
 have I4 : Inv X pins σ H3 { s3 with heap := s3.heap.push { cls := .type "slice", data := .fields #[vl, vu, .none] } } := I3.kept (t' := s3.toks) fun b ob q => VD _ q
 obtain ⟨T, id, hT, ht, hg⟩ := hr pins { s3 with heap := s3.heap.push { cls := .type "slice", data := .fields #[vl, vu, .none] } } σ H3 x v vl vu l u s3.heap.objs.size Q I4 r1 (Heap.IsSliceOf.new ..) pl pu q3
 show wpAny (model X.prog X.w) X.A (subscriptTail e (.Slice lo hi none p2) v (.ref s3.heap.objs.size)) (EP X pins σ Q) X.xe { s3 with heap := s3.heap.push { cls := .type "slice", data := .fields #[vl, vu, .none] } }
 exact tail_any (ops := [.ref s3.heap.objs.size, v]) ht hT hg (by with_unfolding_all rfl)
def zT (xs : List V) (lo hi : Option Int) : List V := (xs.drop (HT.nM xs.length 0 lo)).take (HT.nM xs.length xs.length hi - HT.nM xs.length 0 lo)
theorem vG (xs : List V) (lo hi : Option Int) : (zT xs lo hi).length <= xs.length := by
 unfold zT
 rw [List.length_take, List.length_drop]
 omega
end
def zU (n : Nat) (i : Int) : Option Nat := if 0 <= i then (if i < n then some i.toNat else none) else if -(n : Int) <= i then some (i + n).toNat else none
def nO {α : Type} (xs : List α) (i : Int) : Option α := (zU xs.length i).bind fun j => xs[j]?
theorem sf {n : Nat} {i : Int} {j : Nat} (h : zU n i = some j) : seqIndex? i n = some j /\ j < n /\ -(n : Int) <= i /\ i < n := by
 unfold zU at h
 by_cases h0 : 0 <= i
 . rw [Vy h0] at h
   by_cases h1 : i < n
   . rw [Vy h1] at h
     have e : i.toNat = j := VR h
     exact ⟨by rw [seqIndex_of h0 h1, e], by omega, by omega, h1⟩
   . rw [Vx h1] at h; cases h
 . rw [Vx h0] at h
   by_cases h1 : -(n : Int) <= i
   . rw [Vy h1] at h
     have e : (i + n).toNat = j := VR h
     exact ⟨by rw [seqIndex_neg (by omega) h1, e], by omega, h1, by omega⟩
   . rw [Vx h1] at h; cases h
theorem sj {α : Type} {xs : List α} {i : Int} {v : α} (h : nO xs i = some v) : ∃ j, seqIndex? i xs.length = some j /\ xs[j]? = some v /\ j < xs.length /\ -(xs.length : Int) <= i /\ i < xs.length := by
 unfold nO at h
 cases e : zU xs.length i with
 | none => rw [e] at h; cases h
 | some j =>
   rw [e] at h
   obtain ⟨h1, h2, h3, h4⟩ := sf e
   exact ⟨j, h1, h, h2, h3, h4⟩
theorem fZ {α : Type} {xs : List α} {j : Nat} {v : α} (h : xs[j]? = some v) : nO xs (j : Int) = some v := by
 have hj : j < xs.length := (WC.mp h).1
 have e : zU xs.length (j : Int) = some j := by
   unfold zU
   rw [Vy (by omega), Vy (by omega)]; simp
 unfold nO; rw [e]; exact h
def jw (b : Expr) : Prop := ∀ o i, subscripted b false o i = operate [o, i] (getItem o i)
def O2 (X : Cx) (r : R2) : Prop :=
 ∀ (value slice : Expr) (pins : List (Addr × Obj)) (s : Shared) (σ : St) (H : Hp) (x y : V) (v u : Value) (Q : VK), Inv X pins σ H s -> RelV x v -> RelV y u -> r x y H Q →
   subscripted slice false v u = operate [v, u] (getItem v u) -> wpAny (model X.prog X.w) X.A (subscriptTail value slice v u) (EP X pins σ Q) X.xe s
def Tv (X : Cx) (id : String) (r : V -> List V -> Hp -> VK -> Prop) : Prop :=
 ∀ (pins : List (Addr × Obj)) (s : Shared) (σ : St) (H : Hp) (x : V) (xs : List V) (v : Value) (us : List Value) (Q : VK), Inv X pins σ H s -> RelV x v -> Vals xs us -> r x xs H Q →
   wpAny (model X.prog X.w) X.A (call (.builtin id) (v :: us)) (EP X pins σ Q) X.xe s
section
variable {X : Cx} {a b : Expr} {ta tb : TE} {pos : Pos}
theorem vH {r : R2} (hr : O2 X r) (ha : PE X a ta) (hb : PE X b tb) (hs : jw b) : PE X (.Subscript a b pos) (OY r ta tb) := by
 intro pins s σ H Q I h
 exact Subscript_ (Jb ha hb I h fun v u s2 x y H2 I2 rx ry q => hr a b pins s2 σ H2 x y v u Q I2 rx ry q (hs _ _))
def Ql (K : PySem.W.Frag) : R2 := fun x y H Q => ∃ p xs i v, x = .ref p /\ y = .int i /\ kW K H p xs /\ nO xs i = some v /\ Q v H
def Qm (K : PySem.W.Frag) : R2 := fun x y H Q => ∃ p xs i v, x = .ref p /\ y = .int i /\ qz K H p xs /\ nO xs i = some v /\ Q v H
def Qn : R2 := fun x y H Q => ∃ z i c, x = .str z /\ y = .int i /\ z.length <= sizeLine /\ nO z.cps.toList i = some c /\ Q (.str ⟨#[c]⟩) H
theorem yN : O2 X (Ql X.K) := by
 intro value slice pins s σ H x y v u Q I rx ry h hs
 obtain ⟨p, xs, i, z, rfl, rfl, hq, he, q⟩ := h
 cases rx
 obtain ⟨t, rfl⟩ := ry
 obtain ⟨its, r, pl, hz⟩ := I.list hq
 obtain ⟨j, h1, h2, h3, h4, h5⟩ := sj he
 obtain ⟨w, ew, Jp⟩ := r.get h2
 have hl := r.length
 have hn := oS
 have fin : EP X pins σ Q w s := ⟨z, H, I, Jp, q⟩
 by_cases h0 : 0 <= i
 . have hj : i.toNat = j := by
     rw [seqIndex_of h0 h5] at h1
     exact VR h1
   exact item_listR pl.isList h0 (by omega) (by rw [hj]; simpa using ew) fin hs
 . have hj : (i + (its.toArray.size : Int)).toNat = j := by
     rw [seqIndex_neg (by omega) h4] at h1
     rw [V0, ← hl]
     exact VR h1
   exact subscriptTail_builtinR (x := w) pl.isList.typeIs slot_list_getitem.lookup
     (wpAny_getItem_list_neg (Q := fun r s' => r = w /\ EP X pins σ Q r s') pl.isList (by omega) (by rw [List.size_toArray] <;> omega) (by omega) (by rw [hj]; simpa using ew) ⟨rfl, fin⟩) hs
theorem Bh : O2 X (Qm X.K) := by
 intro value slice pins s σ H x y v u Q I rx ry h hs
 obtain ⟨p, xs, i, z, rfl, rfl, hq, he, q⟩ := h
 cases rx
 obtain ⟨t, rfl⟩ := ry
 obtain ⟨its, r, pl, hz⟩ := I.tuple hq
 obtain ⟨j, h1, h2, h3, h4, h5⟩ := sj he
 obtain ⟨w, ew, Jp⟩ := r.get h2
 have hl := r.length
 have hn := oS
 have fin : EP X pins σ Q w s := ⟨z, H, I, Jp, q⟩
 exact subscriptTail_builtinR (x := w) pl.typeIs slot_tuple_getitem.lookup
   (getItem_tuple (j := j) (Q := fun r s' => r = w /\ EP X pins σ Q r s') pl (by omega) (by omega) (by rw [List.size_toArray, ← hl]; exact h1) (by simpa using ew) ⟨rfl, fin⟩) hs
theorem Jq : O2 X Qn := by
 intro value slice pins s σ H x y v u Q I rx ry h hs
 obtain ⟨z, i, c, rfl, rfl, hz, he, q⟩ := h
 obtain ⟨t, rfl⟩ := rx
 obtain ⟨t', rfl⟩ := ry
 obtain ⟨j, h1, h2, h3, h4, h5⟩ := sj he
 have hl : z.cps.toList.length = z.length := by simp [Str.length]
 rw [hl] at h1 h4 h5
 have hn := oS
 exact tail_any (typeIs_str s z t) slot_str_getitem.lookup (getItem_str (c := c) (by
   have e1 : decide (i < -(2 ^ 63 : Int)) = false := WB (by omega)
   have e2 : decide (i ≥ 2 ^ 63) = false := WB (by omega)
   rw [e1, e2, Bool.or_false]) (by rw [h1]; simpa using h2) ⟨.str ⟨#[c]⟩, H, I.tok _, ⟨_, rfl⟩, q⟩) hs
theorem xR (its : List Value) (n j : Nat) (u : Value) : Obj.mapSeq (·.setIfInBounds j u) { cls := .type "list", data := .seq its.toArray n } = { cls := .type "list", data := .seq (its.set j u).toArray n } := by
 simp [Obj.mapSeq]
theorem Inv.lst {pins : List (Addr × Obj)} {σ : St} {H : Hp} {s : Shared} {p : Addr} {xs : List V} (I : Inv X pins σ H s) (h : H p = some (.lst xs)) :
   ∃ (its : List Value) (n : Nat), Vals xs its /\ s.heap.get? p = some { cls := .type "list", data := .seq its.toArray n } /\ xs.length <= sizeLine := by
 obtain ⟨z, its, n, r, e⟩ := I.cK p _ h
 exact ⟨its, n, r, e, z⟩
theorem Inv.Jr {pins : List (Addr × Obj)} {σ : St} {H : Hp} {s : Shared} {p : Addr} {xs ys : List V} {its its' : List Value} {n n' : Nat} {f : Obj -> Obj} (I : Inv X pins σ H s) (h : H p = some (.lst xs))
   (ho : s.heap.get? p = some { cls := .type "list", data := .seq its.toArray n }) (hf : f { cls := .type "list", data := .seq its.toArray n } = { cls := .type "list", data := .seq its'.toArray n' }) (r : Vals ys its') (hz : ys.length <= sizeLine) (t : Nat) :
   Inv X pins σ (upd H p (.lst ys)) { s with heap := s.heap.update p f, toks := t } := by
 have e : (s.heap.update p f).get? p = some { cls := .type "list", data := .seq its'.toArray n' } := by
   rw [Heap.get?_update_self f ho (by rw [hf] <;> rfl), hf]
 refine I.write (x := p) (e := p) (by rw [h]; trivial) (.inl rfl) (fun b u hb q => (Heap.get?_update_other _ _ (Ne.symm hb)).trans q) ⟨_, e⟩ ?_
 exact ⟨hz, its', n', r, e⟩
def Mx : V -> V -> V -> Hp -> (Hp -> Prop) -> Prop := fun o i v H Q => ∃ p xs k j, o = .ref p /\ i = .int k /\ H p = some (.lst xs) /\ zU xs.length k = some j /\ Q (upd H p (.lst (xs.set j v)))
theorem set_list : L4 X Mx := by
 intro pins s σ H o i v ov iv u Q I ro ri rv h
 obtain ⟨p, xs, k, j, rfl, rfl, hp, hj, q⟩ := h
 cases ro
 obtain ⟨t, rfl⟩ := ri
 obtain ⟨its, n, r, ho, hz⟩ := I.lst hp
 obtain ⟨h1, h2, h3, h4⟩ := sf hj
 have hl := r.length
 have hn := oS
 have I' : Inv X pins σ (upd H p (.lst (xs.set j v))) { s with heap := s.heap.update p (Obj.mapSeq (·.setIfInBounds j u)) } :=
   I.Jr hp ho (xR its n j u) (r.set rv j) (by rw [List.length_set]; exact hz) s.toks
 by_cases h0 : 0 <= k
 . have hk : k.toNat = j := by
     rw [seqIndex_of h0 h4] at h1
     exact VR h1
   exact PySem.W.ki_setAt ho h0 (by omega) (by rw [V0, ← hl]; exact h4) (by rw [hk]; exact ⟨_, I', q⟩)
 . have hk : (k + (its.toArray.size : Int)).toNat = j := by
     rw [seqIndex_neg (by omega) h3] at h1
     rw [V0, ← hl]
     exact VR h1
   exact PySem.W.ki_setBack ho (by omega) (by rw [V0, ← hl]; exact h3) (by omega) (by rw [hk]; exact ⟨_, I', q⟩)
theorem sq (lo hi : Option Int) (n : Nat) : (sliceBounds lo hi none n).1 = ((HT.nM n 0 lo : Nat) : Int) /\ (sliceBounds lo hi none n).2.1 = ((HT.nM n n hi : Nat) : Int) /\ (sliceBounds lo hi none n).2.2 = 1 := by
 refine ⟨?_, ?_, rfl⟩
 . cases lo with
   | none => simp [sliceBounds, HT.nM]
   | some i =>
     simp only [sliceBounds, HT.nM, Option.getD_none, show (1 : Int) > 0 by decide, Xa]
     by_cases h : i < 0
     . simp only [h, Xa] <;> omega
     . simp only [h, W0] <;> omega
 . cases hi with
   | none => simp [sliceBounds, HT.nM]
   | some i =>
     simp only [sliceBounds, HT.nM, Option.getD_none, show (1 : Int) > 0 by decide, Xa]
     by_cases h : i < 0
     . simp only [h, Xa] <;> omega
     . simp only [h, W0] <;> omega
theorem qC (its : List Value) (lo hi : Option Int) : slicePick its.toArray lo hi none = ((its.drop (HT.nM its.length 0 lo)).take (HT.nM its.length its.length hi - HT.nM its.length 0 lo)).toArray := by
 obtain ⟨h1, h2, h3⟩ := sq lo hi its.toArray.size
 unfold slicePick
 rw [h1, h2, h3]
 simp only [sliceRange_one, pick_run, V0] <;> rfl
def Qo (K : PySem.W.Frag) : V -> Option Int -> Option Int -> Hp -> VK -> Prop := fun x lo hi H Q => ∃ a xs, x = .ref a /\ kW K H a xs /\ ∀ p, H p = none -> Q (.ref p) (upd H p (.lst (zT xs lo hi)))
theorem D9 : Qk X (Qo X.K) := by
 intro pins s σ H x v vl vu lo hi sl Q I rx hs pl pu h
 obtain ⟨a, xs, rfl, hx, q⟩ := h
 cases rx
 obtain ⟨its, r, ht, hz⟩ := I.list hx
 have hlen := r.length
 refine ⟨"list", _, slot_list_getitem.lookup, ht.isList.typeIs, ?_⟩
 refine wpAny_getItem_list_slice ht.isList hs pl pu .none (by simp) ?_ (by rw [V0] <;> omega)
 rw [qC, ← hlen]
 refine ⟨.ref s.heap.objs.size, _, I.laid (t' := s.toks) (o := .lst (zT xs lo hi)) (fun b ob q => VD _ q) (Vz _) ?_, rfl, q _ (I.cK.fresh (Vz _))⟩
 exact ⟨Wk (vG xs lo hi) hz, _, 0, (r.drop (HT.nM xs.length 0 lo)).take (HT.nM xs.length xs.length hi - HT.nM xs.length 0 lo), V5 _ rfl⟩
def ko : V -> Bool
 | .non => true
 | .bl _ => true
 | .int _ => true
 | .str _ => true
 | _ => false
def AV : V -> V -> Bool
 | .non, .non => true
 | .bl a, .bl b => a == b
 | .bl a, .int b => (if a then 1 else 0) == b
 | .int a, .bl b => a == (if b then 1 else 0)
 | .int a, .int b => a == b
 | .str a, .str b => a == b
 | _, _ => false
theorem Js {A : Around} {s : Shared} {y x : V} {u v : Value} (ry : RelV y u) (rx : RelV x v) (fy : ko y = true) (fx : ko x = true) : SeqAt.EqAt A s u v (AV y x) := by
 cases y with
 | non =>
   cases ry
   cases x with
   | non => cases rx; exact SeqAt.EqAt.same _
   | bl b => cases rx; exact SeqAt.EqAt.none_bool b
   | int b => obtain ⟨t, rfl⟩ := rx; exact SeqAt.EqAt.none_int b t
   | str b => obtain ⟨t, rfl⟩ := rx; exact SeqAt.EqAt.none_str b t
   | _ => exact absurd (show false = true from fx) VB
 | bl a =>
   cases ry
   cases x with
   | non => cases rx; exact SeqAt.EqAt.bool_none a
   | bl b => cases rx; exact SeqAt.EqAt.bool_bool a b
   | int b => obtain ⟨t, rfl⟩ := rx; exact SeqAt.EqAt.bool_int a b t
   | str b => obtain ⟨t, rfl⟩ := rx; exact SeqAt.EqAt.bool_str a b t
   | _ => exact absurd (show false = true from fx) VB
 | int a =>
   obtain ⟨t', rfl⟩ := ry
   cases x with
   | non => cases rx; exact SeqAt.EqAt.int_none a t'
   | bl b => cases rx; exact SeqAt.EqAt.int_bool a t' b
   | int b => obtain ⟨t, rfl⟩ := rx; exact SeqAt.EqAt.int_int a t' b t
   | str b => obtain ⟨t, rfl⟩ := rx; exact SeqAt.EqAt.int_str a t' b t
   | _ => exact absurd (show false = true from fx) VB
 | str a =>
   obtain ⟨t', rfl⟩ := ry
   cases x with
   | non => cases rx; exact SeqAt.EqAt.str_none a t'
   | bl b => cases rx; exact SeqAt.EqAt.str_bool a t' b
   | int b => obtain ⟨t, rfl⟩ := rx; exact SeqAt.EqAt.str_int a t' b t
   | str b => obtain ⟨t, rfl⟩ := rx; exact SeqAt.EqAt.str_str a t' b t
   | _ => exact absurd (show false = true from fx) VB
 | _ => exact absurd (show false = true from fy) VB
def xS (x : V) (u : Value) : Bool := match u with
 | .none => AV .non x
 | .bool b => AV (.bl b) x
 | .int i _ => AV (.int i) x
 | .str z _ => AV (.str z) x
 | _ => false
theorem Bj {x y : V} {u : Value} (r : RelV y u) (f : ko y = true) : xS x u = AV y x := by
 cases y with
 | non => cases r; rfl
 | bl b => cases r; rfl
 | int i => obtain ⟨t, rfl⟩ := r; rfl
 | str z => obtain ⟨t, rfl⟩ := r; rfl
 | _ => exact absurd (show false = true from f) VB
theorem kX {x : V} : ∀ {xs : List V} {us : List Value}, Vals xs us -> xs.all ko = true -> us.any (xS x) = xs.any fun y => AV y x
 | _, _, .nil, _ => rfl
 | y :: xs, u :: us, .cons r t, f => by
   rw [List.all_cons, Wt] at f
   rw [List.any_cons, List.any_cons, Bj r f.1, kX t f.2]
theorem iY {A : Around} {s : Shared} {x : V} {v : Value} (rx : RelV x v) (fx : ko x = true) : ∀ {xs : List V} {us : List Value}, Vals xs us -> xs.all ko = true -> ∀ u ∈ us, SeqAt.EqAt A s u v (xS x u)
 | _, _, .nil, _ => fun u hu => by cases hu
 | y :: xs, u :: us, .cons r t, f => fun u' hu => by
   rw [List.all_cons, Wt] at f
   rcases VC.mp hu with rfl | hu
   . rw [Bj r f.1]; exact Js r rx f.1 fx
   . exact iY rx fx t f.2 u' hu
def HJ (x : V) (xs : List V) : Bool := xs.any fun y => AV y x
def RP (K : PySem.W.Frag) (neg : Bool) : R2 := fun x y H Q => ∃ p xs, y = .ref p /\ (kW K H p xs \/ qz K H p xs) /\ ko x = true /\ xs.all ko = true /\ Q (.bl (if neg then !HJ x xs else HJ x xs)) H
theorem fH : mh X (compareOp .In) (RP X.K false) := by
 intro pins s σ H x y v u Q I rx ry h
 obtain ⟨p, xs, rfl, hq, fx, fs, q⟩ := h
 cases ry
 rcases hq with hq | hq
 . obtain ⟨its, r, pl, hz⟩ := I.list hq
   refine SeqAt.in_listAt (xS x) pl.isList (fun w hw => iY rx fx r fs w (by simpa using hw)) ⟨.bl _, H, I, rfl, ?_⟩
   rw [show its.toArray.any (xS x) = its.any (xS x) by simp, kX r fs]
   exact q
 . obtain ⟨its, r, pl, hz⟩ := I.tuple hq
   refine SeqAt.in_tupleAt (xS x) pl (fun w hw => iY rx fx r fs w (by simpa using hw)) ⟨.bl _, H, I, rfl, ?_⟩
   rw [show its.toArray.any (xS x) = its.any (xS x) by simp, kX r fs]
   exact q
theorem kY : mh X (compareOp .NotIn) (RP X.K true) := by
 intro pins s σ H x y v u Q I rx ry h
 obtain ⟨p, xs, rfl, hq, fx, fs, q⟩ := h
 cases ry
 rcases hq with hq | hq
 . obtain ⟨its, r, pl, hz⟩ := I.list hq
   refine SeqAt.notIn_listAt (xS x) pl.isList (fun w hw => iY rx fx r fs w (by simpa using hw)) ⟨.bl _, H, I, rfl, ?_⟩
   rw [show its.toArray.any (xS x) = its.any (xS x) by simp, kX r fs]
   exact q
 . obtain ⟨its, r, pl, hz⟩ := I.tuple hq
   refine SeqAt.notIn_tupleAt (xS x) pl (fun w hw => iY rx fx r fs w (by simpa using hw)) ⟨.bl _, H, I, rfl, ?_⟩
   rw [show its.toArray.any (xS x) = its.any (xS x) by simp, kX r fs]
   exact q
theorem kZ : m9 X (.builtin "len") (fun xs H Q => ∃ p ys, xs = [.ref p] /\ (kW X.K H p ys \/ qz X.K H p ys) /\ Q (.int ys.length) H) := by
 intro pins s σ H xs us Q I r h
 obtain ⟨p, ys, rfl, hq, q⟩ := h
 obtain ⟨u, rfl, rx⟩ := vals1 r
 cases rx
 have hn := oS
 rcases hq with hq | hq
 . obtain ⟨its, r', pl, hz⟩ := I.list hq
   have hlen := r'.length
   exact Calls.call_len_list pl.isList (by simp only [V0] <;> omega) ⟨.int ys.length, H, I.tok _, ⟨s.toks + 1, by rw [V0, hlen]⟩, q⟩
 . obtain ⟨its, r', pl, hz⟩ := I.tuple hq
   have hlen := r'.length
   exact len_tuple pl (by simp only [V0] <;> omega) ⟨.int ys.length, H, I.tok _, ⟨s.toks + 1, by rw [V0, hlen]⟩, q⟩
theorem sr : m9 X (.type "list") (fun xs H Q => ∃ p ys, xs = [.ref p] /\ (kW X.K H p ys \/ qz X.K H p ys) /\ ∀ l, H l = none -> Q (.ref l) (upd H l (.lst ys))) := by
 intro pins s σ H xs us Q I r h
 obtain ⟨p, ys, rfl, hq, q⟩ := h
 obtain ⟨u, rfl, rx⟩ := vals1 r
 cases rx
 have fin : ∀ (its : List Value), Vals ys its -> ys.length <= sizeLine -> ∀ (h' : Heap) (c' : Nat), (∀ b o', s.heap.get? b = some o' -> h'.get? b = some o') →
     h'.get? s.heap.objs.size = some { cls := .type "list", dict := none, data := .seq its.toArray c', slots := #[] } -> EP X pins σ Q (.ref s.heap.objs.size) { s with heap := h' } := fun its r' hz h' c' kp e =>
   ⟨.ref s.heap.objs.size, _, I.laid (t' := s.toks) kp (Vz _) (show eV X.prog X.w _ h' _ (.lst ys) from ⟨hz, its, c', r', e⟩), rfl, q _ (I.cK.fresh (Vz _))⟩
 rcases hq with hq | hq
 . obtain ⟨its, r', pl, hz⟩ := I.list hq
   have hlen := r'.length
   obtain ⟨o, ho, hc, n, hd⟩ := pl.isList
   exact call_list_seq p (.inl rfl) ho hc hd (fun h' c' kp e => fin its r' hz h' c' kp e) (by simp only [V0] <;> omega)
 . obtain ⟨its, r', pl, hz⟩ := I.tuple hq
   have hlen := r'.length
   obtain ⟨o, ho, hc, n, hd⟩ := pl
   exact call_list_seq p (.inr rfl) ho hc hd (fun h' c' kp e => fin its r' hz h' c' kp e) (by simp only [V0] <;> omega)
theorem qD : m9 X (.type "tuple") (fun xs H Q => ∃ p ys, xs = [.ref p] /\ ((kW X.K H p ys /\ ∀ l, H l = none -> Q (.ref l) (upd H l (.tup ys))) \/ (qz X.K H p ys /\ Q (.ref p) H))) := by
 intro pins s σ H xs us Q I r h
 obtain ⟨p, ys, rfl, h⟩ := h
 obtain ⟨u, rfl, rx⟩ := vals1 r
 cases rx
 rcases h with ⟨hq, q⟩ | ⟨hq, q⟩
 . obtain ⟨its, r', pl, hz⟩ := I.list hq
   have hlen := r'.length
   refine call_tuple_list pl.isList (fun h' kp => ?_) (by simp only [V0] <;> omega)
   have I1 : Inv X pins σ H { s with heap := h' } := I.kept (t' := s.toks) kp
   have I2 : Inv X pins σ (upd H h'.objs.size (.tup ys)) { s with heap := h'.push { cls := .type "tuple", data := .seq its.toArray } } :=
     I1.laid (t' := s.toks) (fun b o e => VD _ e) (Vz _) (show eV X.prog X.w _ _ _ (.tup ys) from ⟨hz, its, r', IsTup.new _ _⟩)
   exact ⟨.ref h'.objs.size, _, I2, rfl, q _ (I1.cK.fresh (Vz _))⟩
 . obtain ⟨its, r', pl, hz⟩ := I.tuple hq
   exact call_tuple_same pl ⟨.ref p, H, I, rfl, q⟩
def RQ (K : PySem.W.Frag) (T : String) (x : V) (H : Hp) : Prop := match x with
 | .str _ => T = "str"
 | .int _ => T = "int"
 | .ref p => (T = "list" /\ ∃ xs, kW K H p xs) \/ (T = "tuple" /\ ∃ o, K.lookup p = some o /\ o.cls = .type "tuple" /\ o.dict = none) ∨
     (T = "dict" /\ ((∃ jr, H p = some (.dK jr)) \/ ∃ jr, H p = some (.dT jr))) \/ (T = "set" /\ ∃ S n, H p = some (.set S n))
 | _ => False
theorem Jt {pins : List (Addr × Obj)} {σ : St} {H : Hp} {s : Shared} {T : String} {x : V} {v : Value} (I : Inv X pins σ H s) (r : RelV x v) (ty : RQ X.K T x H) :
   s.TypeIs v T /\ ∀ a, v = .ref a -> ∃ ob, s.heap.get? a = some ob /\ ob.dict = none := by
 cases x with
 | str z =>
   obtain ⟨t, rfl⟩ := r
   cases (show T = "str" from ty)
   exact ⟨typeIs_str s z t, fun _ e => nomatch e⟩
 | int i =>
   obtain ⟨t, rfl⟩ := r
   cases (show T = "int" from ty)
   exact ⟨typeIs_int s i t, fun _ e => nomatch e⟩
 | ref p =>
   cases r
   rcases ty with ⟨rfl, xs, hq⟩ | ⟨rfl, o, hk, hc, hd⟩ | ⟨rfl, hk⟩ | ⟨rfl, S, n, hk⟩
   . obtain ⟨its, _, pl, _⟩ := I.list hq
     refine ⟨pl.isList.typeIs, fun a e => ?_⟩
     cases e
     obtain ⟨o, n, e, c, hd, _⟩ := pl
     exact ⟨o, e, hd⟩
   . refine ⟨⟨o, I.vn p o hk, hc⟩, fun a e => ?_⟩
     cases e
     exact ⟨o, I.vn _ o hk, hd⟩
   . have z : ∃ o, s.heap.get? p = some o /\ o.ExactDict := by
       rcases hk with ⟨jr, hk⟩ | ⟨jr, hk⟩
       . obtain ⟨_, _, _, _, o, _, _, e, ex, _⟩ := I.cK p _ hk
         exact ⟨o, e, ex⟩
       . obtain ⟨_, _, _, _, o, _, _, e, ex, _⟩ := I.cK p _ hk
         exact ⟨o, e, ex⟩
     obtain ⟨o, e, ex⟩ := z
     refine ⟨⟨o, e, ex.1⟩, fun a e2 => ?_⟩
     cases e2
     exact ⟨o, e, ex.2.1⟩
   . obtain ⟨o, _, _, _, e, ex, _⟩ := I.cK p _ hk
     refine ⟨⟨o, e, ex.1⟩, fun a e2 => ?_⟩
     cases e2
     exact ⟨o, e, ex.2.1⟩
 | _ => exact False.elim ty
def Tw (K : PySem.W.Frag) (T : String) (r : V -> List V -> Hp -> VK -> Prop) (to : TE) (t : TA) : TE := fun σ H Q => to σ H fun x H1 => RQ K T x H1 /\ t σ H1 fun xs H2 => r x xs H2 Q
variable {o e : Expr} {es : List Expr} {to : TE} {t : TA} {name : Str} {apos vI : Pos} {T id : String} {r : V -> List V -> Hp -> VK -> Prop}
theorem My (pa : PlainAttrs T) (slot : Slot T name id) (Tz : typeOf (.builtin id) = pure (.type "method_descriptor")) (hm : Tv X id r) (ho : PE X o to) (ha : PA X (e :: es) t)
   (vJ : attributeBase o name X.env (eval o X.env) = eval o X.env := by rfl)
   (Bk : ((backTo vI (starEach (e :: es) X.env)).all (fun x => !x.1) && (backToKw vI (keywordEach [] X.env)).all (fun x => x.1.isSome)
     && decide ((e :: es).length + ([] : List Keyword).length + (if ([] : List Keyword).isEmpty then 0 else 1) < 30)) = true := by rfl)
   (hline : (apos.endLine == vI.line) = true := by rfl) (hs : starEach (e :: es) X.env = (false, eval e X.env) :: starEach es X.env := by rfl) (Ju : (backTo vI (starEach es X.env)).any (·.1) = false := by rfl) :
   PE X (.Call (.Attribute o name apos) (e :: es) [] vI) (Tw X.K T r to t) := by
 intro pins s σ H Q I h
 refine wpAny_Call_method_late vJ Bk hline rfl (cR (ho pins s σ H _ I h) fun v s1 ⟨x, H1, I1, r1, ty, q1⟩ => ?_)
 obtain ⟨h1, h2⟩ := Jt I1 r1 ty
 refine ⟨T, id, pa, slot, Tz, h1, h2, ?_⟩
 have hA := ha vI pins s1 σ H1 _ I1 q1
 rw [hs] at hA ⊢
 refine Calls.callWith_builtin (by show (false || (backTo vI (starEach es X.env)).any (·.1)) = false; rw [Ju] <;> rfl) (Calls.evalArgs_plain ?_)
 exact cR hA fun us s2 ⟨vs, H2, I2, r2, q2⟩ => hm pins s2 σ H2 x vs v us Q I2 r1 r2 q2
end
def TF (X : Cx) (id : String) (r : V -> List V -> Hp -> VK -> Prop) : Prop :=
 ∀ (pins : List (Addr × Obj)) (s : Shared) (σ : St) (H : Hp) (x : V) (xs : List V) (v : Value) (us : List Value) (Q : VK), Inv X pins σ H s -> RelV x v -> Vals xs us -> r x xs H Q →
   wpAny (model X.prog X.w) X.A (call (.builtin id) (v :: us)) (EP X pins σ Q) X.xe s
theorem Vals.one : ∀ {x : V} {us : List Value}, Vals [x] us -> ∃ u, us = [u] /\ RelV x u
 | _, _, .cons r .nil => ⟨_, rfl, r⟩
theorem Vals.two : ∀ {x y : V} {us : List Value}, Vals [x, y] us -> ∃ u v, us = [u, v] /\ RelV x u /\ RelV y v
 | _, _, _, .cons r (.cons q .nil) => ⟨_, _, rfl, r, q⟩
theorem Vals.rep {xs : List V} {us : List Value} (h : Vals xs us) : ∀ k : Nat, Vals (List.replicate k xs).flatten (List.replicate k us).flatten
 | 0 => .nil
 | k + 1 => by
   rw [WK, WK, W2, W2]
   exact Vals.append h (Vals.rep h k)
theorem foldl_rep (its : List Value) : ∀ (k : Nat) (acc : List Value),
   List.foldl (fun x1 x2 => x1 ++ x2) acc.toArray (List.replicate k its.toArray) = (acc ++ (List.replicate k its).flatten).toArray
 | 0, acc => by simp
 | k + 1, acc => by
   have e : acc.toArray ++ its.toArray = (acc ++ its).toArray := by simp
   have e2 : (acc ++ its) ++ (List.replicate k its).flatten = acc ++ (List.replicate (k + 1) its).flatten := by
     rw [WK, W2, VA]
   rw [← e2, ← foldl_rep its k (acc ++ its), ← e, WK, List.foldl_cons]
section
variable {X : Cx} {pins : List (Addr × Obj)} {σ : St} {H : Hp} {s : Shared} {l b : Addr} {xs ys zs : List V}
theorem Inv.Qp {its its' : List Value} {n : Nat} {f : Array Value -> Array Value} {t' : Nat} (I : Inv X pins σ H s) (hH : H l = some (.lst xs))
   (e : s.heap.get? l = some { cls := .type "list", data := .seq its.toArray n }) (hf : f its.toArray = its'.toArray) (hv : Vals ys its') (hz : ys.length <= sizeLine) :
   Inv X pins σ (upd H l (.lst ys)) { s with heap := s.heap.update l (Obj.mapSeq f), toks := t' } := by
 have q := PySem.IsL.update e f
 rw [hf] at q
 refine I.write (x := l) (e := l) (by rw [hH]; exact trivial) (.inl rfl) (fun b' u hb hu => (Heap.get?_update_other s.heap (Obj.mapSeq f) (Ne.symm hb)).trans hu) ⟨_, q⟩ ?_
 exact ⟨hz, its', _, hv, q⟩
theorem Inv.Mz {its : List Value} {t' : Nat} (I : Inv X pins σ H s) (hv : Vals ys its) (hz : ys.length <= sizeLine) :
   Inv X pins σ (upd H s.heap.objs.size (.lst ys)) { s with heap := s.heap.push { cls := .type "list", data := .seq its.toArray }, toks := t' } :=
 I.laid (fun _ _ q => VD _ q) (Vz _) ⟨hz, its, 0, hv, V5 _ rfl⟩
theorem Inv.fresh (I : Inv X pins σ H s) : H s.heap.objs.size = none := I.cK.fresh (Vz _)
theorem Inv.Qq (I : Inv X pins σ H s) (hH : H l = some (.lst xs)) : xs.length <= sizeLine /\ ∃ (its : List Value) (n : Nat), Vals xs its /\ xs.length = its.length /\ s.heap.get? l = some { cls := .type "list", data := .seq its.toArray n } := by
 obtain ⟨z, its, n, r, e⟩ := I.cK l _ hH
 exact ⟨z, its, n, r, r.length, e⟩
theorem Bl {n : Nat} (h : n <= sizeLine) : Builtin.List.listTooLong n = false := by
 unfold Builtin.List.listTooLong
 exact WB (by omega)
end
section
variable {X : Cx}
def Ea : V -> List V -> Hp -> VK -> Prop := fun x vs H Q => ∃ l xs y, x = .ref l /\ vs = [y] /\ H l = some (.lst xs) /\ xs.length < sizeLine /\ Q .non (upd H l (.lst (xs ++ [y])))
theorem rA : TF X "list.append" Ea := by
 intro pins s σ H x vs v us Q I rx rv h
 obtain ⟨l, xs, y, rfl, rfl, hH, hz, q⟩ := h
 cases rx
 obtain ⟨u, rfl, ru⟩ := rv.one
 obtain ⟨z, its, n, r, hl, e⟩ := I.Qq hH
 refine call_meets F.slot_list_append ⟨_, e, rfl⟩ F.entry_list_append (F.args_list_append_2 _ _) (PySem.list_append l its.toArray n u (by rw [V0]; omega)) ⟨e, ?_⟩
 refine ⟨.non, _, I.Qp (its' := its ++ [u]) hH e (by simp) (r.append (.cons ru .nil)) ?_, rfl, q⟩
 rw [V1, List.length_singleton]
 omega
theorem len_rep {α : Type} (xs : List α) (k : Nat) : (List.replicate k xs).flatten.length = k * xs.length := by
 induction k with
 | zero => simp
 | succ k ih => rw [WK, W2, V1, ih, Nat.succ_mul, Nat.add_comm]
end
section
variable {prog : Program} {w : World} {A : Around} {E : Value -> Shared -> Prop} {s : Shared}
set_option maxRecDepth 100000 in
end
section
variable {X : Cx}
end
end L2
namespace RT
open PySem PySem.W PySem.Calls PyProof.Rows
theorem nP {P : Params} {h : Heap} : ∀ (ns : List Int) (vs : List Value), WellAll P h vs (ns.map WData.int) -> IntsAre vs ns := by
 intro ns
 induction ns with
 | nil =>
   intro vs w
   rw [List.map_nil] at w
   cases w
   exact .nil
 | cons n ns ih =>
   intro vs w
   rw [List.map_cons] at w
   cases w with
   | cons a b =>
     cases a
     exact .cons _ _ (ih _ b)
theorem zV {l : OpenLaw} {n : Nat} (hn : l.most = some n) {P : Params} {h : Heap} {args : List WData} {vals : List Value}
   (oX : l.row.toRowW.claim.pre args = true) (MA : WellAll P h vals args) :
   ∃ a vs ns, vals = [Value.ref a] /\ args = [WData.list (ns.map WData.int)] /\ h.get? a = some { cls := .type "list", data := .seq vs.toArray } /\ IntsAre vs ns /\ ns.length <= n := by
 have TH : WShape.hasAll [] args [.list .int] = true := (pre_splitW oX).1
 have hc : l.pre.holds [] { args := args } = true := (pre_splitW oX).2
 obtain ⟨d, r, rfl, h1, h2⟩ := hasAllW_cons TH
 obtain rfl := hasAllW_nil h2
 obtain ⟨xs, rfl, h3⟩ := hasW_list h1
 obtain ⟨ns, rfl⟩ := items_int h3
 have hlen : ns.length <= n := by
   unfold OpenLaw.pre at hc
   have h4 : (WTm.not (.lt (.lit (.int (n : Int))) (.len (.arg 0)))).holds [] { args := [.list (ns.map .int)] } = true := by
     have h4 := (holds_andW hc).1
     rw [hn] at h4
     exact h4
   have h5 := condW_of h4 (w_not (w_lt w_lit (w_len_list (w_arg rfl))))
   rw [List.length_map] at h5
   refine Nat.le_of_not_lt fun q => ?_
   have q' : (n : Int) < ((ns.length : Nat) : Int) := by omega
   first
     | (rw [decide_eq_true q'] at h5; exact absurd h5 (by decide))
     | (simp at h5; omega)
 cases MA with
 | cons w1 w2 =>
   cases w2
   cases w1 with
   | list ho zW => exact ⟨_, _, ns, rfl, rfl, ho, nP ns _ zW, hlen⟩
theorem zX (l : OpenLaw) (args : List WData) : l.row.toRowW.claim.post args (.bool true) args = true :=
 postW_of (r := l.row.toRowW) (X := (true == true))
   (show WShape.has [] (.bool true) .bool = true by first | rfl | decide | simp [WShape.has, WShape.arms, WShape.armsAll])
   (show (WTm.eq .res (.lit (.bool true))).value [] { args := args, res := some (.bool true), after := args } = some (.bool (true == true)) from w_eq_bool (w_res rfl) w_lit) rfl
theorem vK {l : OpenLaw} {n : Nat} {q : Program} {loose : List Str} {XP : (Str -> Option Value) -> Heap -> Prop} {YP : World -> Heap -> Prop} {d : DefRec}
   (hn : l.most = some n) (MB : d.params.defaults = [])
   (call : ∀ (w : World) (s₀ s₁ : Shared) (mg mb : Str -> Option Value) (fa : Addr) (o : Obj) (pm cd doc : Value) (a : Addr) (vs : List Value) (ns : List Int),
     Ground q loose [] XP w s₀ mg mb s₁.heap -> YP w s₁.heap →
     s₁.heap.get? fa = some o -> o.data = .func (docDef d.name d.params d.body d.scope pm cd doc) -> s₁.heap.CodeRec cd d.name -> mg d.name = some (.ref fa) →
     s₁.heap.get? a = some { cls := .type "list", data := .seq vs.toArray } -> IntsAre vs ns -> ns.length <= n -> s₁.gens = #[] →
     codeAny (model l.prog w) callerA (.call (.ref fa) ⟨[.ref a], []⟩) (fun r s' => r = .ok (.ret (.bool true)) /\ OldK s₁.heap s'.heap /\ s'.os = s₁.os /\ AllBare s'.gens) s₁) :
   WalkO q loose XP YP l.row.toRowW d [] (fun f vs => PySem.call f vs) := by
 intro w s₀ s₁ mg mb G Y fa o pm cd doc dV kV ho hd gY hD MC hg args vals as oX hlay Vd MA Ve
 obtain rfl : dV = .none := Dflts.none hD MB
 obtain rfl : kV = .none := Dflts.noKw hD
 obtain ⟨a, vs, ns, rfl, rfl, Jv, hints, hlen⟩ := zV hn oX MA
 refine enter_call (codeAny_mono (call w s₀ s₁ mg mb fa o pm cd doc a vs ns G Y ho (fd_plain hd) gY MC Jv hints hlen hg) fun r s' hq => ?_)
 obtain ⟨rfl, h2, h3, h4⟩ := hq
 exact ⟨.inl ⟨.bool true, .bool true, [], rfl, fun _ => rfl, .bool true, zX l _, fun _ => ⟨List.Pairwise.nil, fun _ hm => (nomatch hm)⟩⟩, h2, h3, h4⟩
section
variable {prog : Program} {w : World} {A : Around} {E : Value -> Shared -> Prop} {s : Shared} {K : Frag}
def ledger (h : Heap) (L d : Addr) : List (Addr × Obj) := (List.range h.objs.size).filterMap fun a => if a = L \/ a = d then none else (h.get? a).map fun o => (a, o)
end
end RT
namespace L2
open PySem PySem.Spec PyProof.Rows
theorem rB : ∀ {vs : List Value} {ns : List Int}, IntsAre vs ns -> Vals (ns.map V.int) vs
 | _, _, .nil => .nil
 | _, _, .cons n t h => .cons ⟨t, rfl⟩ (rB h)
def inClass (s : Stmt) (j : Nat) : Stmt := match s with
 | .ClassDef _ _ _ body _ _ _ _ _ _ _ => body.getD j (.Pass ⟨0, 0, 0, 0⟩)
 | _ => .Pass ⟨0, 0, 0, 0⟩
def nY (s : Stmt) : Arguments := match s with
 | .FunctionDef _ a _ _ _ _ _ _ _ _ => a
 | _ => { posonlyargs := [], args := [], vararg := none, kwonlyargs := [], kw_defaults := [], kwarg := none, defaults := [] }
def dJ (s : Stmt) : List Stmt := match s with
 | .FunctionDef _ _ b _ _ _ _ _ _ _ => b
 | _ => []
def aq (s : Stmt) : Scope := match s with
 | .FunctionDef _ _ _ _ _ _ sc _ _ _ => sc
 | _ => { kind := .function, names := [], isGenerator := false, isCoroutine := false }
abbrev f6 : Bd := fun _ _ _ _ _ _ => False
abbrev E0 : XK := fun _ _ _ => False
theorem yO {X : Cx} : Passes f6 X E0 := fun _ _ _ _ _ _ _ h => h.elim
structure kI (K : PySem.W.Frag) (x qual : Str) (st : Stmt) (f : Addr) (fd : FuncData) : Prop where
 ex : ∃ (oc : Value) (od : Option Addr) (kV doc pm : Value) (an : Option Addr) (cS ct : Value) (DI : Array (Option Value)),
   fd = PySem.W.fnOf x qual (nY st) (dJ st) (aq st) .none kV doc pm an cS ct /\ K.lookup f = some ⟨oc, od, .func fd, DI⟩ /\ PySem.W.codeIn K cS qual = true
 kp : PySem.W.keepIn K (.ref f) = true
section
variable {P : Program} {w : World} {K : PySem.W.Frag} {mg : Str -> Option Value} {base : Heap}
theorem kI.ok {x qual : Str} {st : Stmt} {f : Addr} {fd : FuncData} {N ps : List Str} {k : Nat} {sp : Sp} (F : kI K x qual st f fd) (S : aP N ps (aq st)) (len : ∀ vs H Q E, sp vs H Q E -> vs.length = ps.length)
   (vD : ∀ (cS : Value) (A : Around) (outer : List Env) (s : Shared) (H : Hp) (vs : List V) (Q : VK) (E : XK), dg k (A.deeper (envOfC qual (aq st) s.heap.objs.size f cS)) -> sp vs H Q E →
     ∃ t, xF (oU f6 P w K mg base N qual (aq st) f cS A outer s H E).DH (dJ st) t /\ t { nx := fun _ H' => Q .non H', rt := Q } (start N vs) H) : bX P w K mg base f6 (k + 1) f fd ps sp := by
 obtain ⟨oc, od, kV, doc, pm, an, cS, ct, DI, rfl, lk, gY⟩ := F.ex
 refine HG lk gY S len fun A outer s H vs Q E hr DJ => ?_
 obtain ⟨t, h, q⟩ := vD cS A outer s H vs Q E hr DJ
 exact ⟨t, h.DH, q⟩
theorem kI.binds {x qual : Str} {st : Stmt} {f : Addr} {fd : FuncData} {ps : List Str} (F : kI K x qual st f fd)
   (h : ∀ (kV doc pm : Value) (an : Option Addr) (cS ct : Value) (us : List Value), us.length = ps.length -> bindArgs (PySem.W.fnOf x qual (nY st) (dJ st) (aq st) .none kV doc pm an cS ct) ⟨us, []⟩ = pure (ps.zip us)) : Binds K fd ps [] := by
 obtain ⟨oc, od, kV, doc, pm, an, cS, ct, DI, rfl, lk, gY⟩ := F.ex
 exact .all (h kV doc pm an cS ct)
theorem cj {x qual : Str} {st : Stmt} {f : Addr} {oc : Value} {od an : Option Addr} {DI : Array (Option Value)} {kV doc pm cS ct : Value} (l : K.lookup f = some ⟨oc, od, .func (PySem.W.fnOf x qual (nY st) (dJ st) (aq st) .none kV doc pm an cS ct), DI⟩)
   (c : PySem.W.codeIn K cS qual = true) (k : PySem.W.keepIn K (.ref f) = true) : kI K x qual st f (PySem.W.fnOf x qual (nY st) (dJ st) (aq st) .none kV doc pm an cS ct) := ⟨⟨oc, od, kV, doc, pm, an, cS, ct, DI, rfl, l, c⟩, k⟩
end
theorem dh {n : Nat} (h : n <= 1000) : n < sizeLine := Nat.lt_of_le_of_lt h (by decide)
section
variable {X : Cx}
end
theorem Eb {A B : Prop} (h : B) : if false = true then A else B := by
 rw [Vx VB]
 exact h
theorem Ec {A B : Prop} (h : A) : if true = true then A else B := by
 rw [Vy rfl]
 exact h
def ay (H H' : Hp) : Prop := ∀ b o, H b = some o -> H' b = some o
theorem ay.refl (H : Hp) : ay H H := fun _ _ h => h
theorem ay.trans {H H1 H2 : Hp} (a : ay H H1) (b : ay H1 H2) : ay H H2 := fun c o h => b c o (a c o h)
theorem ay.free {H H' : Hp} (e : ay H H') {l : Addr} (h : H' l = Option.none) : H l = Option.none := by
 cases q : H l with
 | none => rfl
 | some o =>
   rw [e l o q] at h
   cases h
theorem ay.seq {K : PySem.W.Frag} {H H' : Hp} {a : Addr} {xs : List V} (e : ay H H') (h : kW K H a xs) : kW K H' a xs := by
 rcases h with (h | ⟨o, h⟩) | h
 . exact .inl (.inl (e _ _ h))
 . exact .inl (.inr ⟨o, e _ _ h⟩)
 . exact .inr h
section
variable {κ : Type} [DecidableEq κ]
end
section
variable {P : Program} {w : World} {H : Hp} {h : Heap} {a : Addr}
end
section
variable {X : Cx} {pins : List (Addr × Obj)} {σ : St} {H : Hp} {s : Shared} {a : Addr} {y v : V} {u r : Value} {o : Option V} {A : Around} {E : Value -> Shared -> Prop}
end
section
variable {X : Cx} {pins : List (Addr × Obj)} {σ : St} {H : Hp} {s : Shared} {a : Addr} {jr : List (Key × V)} {k : Key} {u : Value} {A : Around} {E : Value -> Shared -> Prop}
end
section
variable {X : Cx} {o i e value : Expr} {pos pos' Qg : Pos} {td ty tv : TE}
end
section
variable {X : Cx} {pos : Pos}
end
section
variable {X : Cx} {pins : List (Addr × Obj)} {σ : St} {H : Hp} {s : Shared} {a : Addr} {y d : V} {u r : Value} {o : Option V} {A : Around} {E : Value -> Shared -> Prop}
end
section
variable {X : Cx} {o e f : Expr} {apos vI : Pos} {td ty tx : TE}
end
section
variable {X : Cx} {pins : List (Addr × Obj)} {σ : St} {H : Hp} {s : Shared} {a : Addr} {jr : List (Key × V)} {A : Around} {E : Value -> Shared -> Prop}
end
section
variable {X : Cx} {pins : List (Addr × Obj)} {σ : St} {H : Hp} {s : Shared} {a : Addr} {y : V} {u : Value} {A : Around} {E : Value -> Shared -> Prop}
end
end L2
namespace L3
open PySem PySem.Spec PyProof.Rows L2
inductive D where
 | non | bl (b : Bool) | int (i : Int) | str (x : Str)
 | tup (ds : List D) | lst (ds : List D) | ins (c : Str) (fs : List (Str × D)) | n5 (jr : List (Key × D))
 | any
 | val (v : V)
inductive T where
 | sh (d : D) | tup (ts : List T) | lst (ts : List T) | ins (c : Str) (fs : List (Str × T)) | n5 (jr : List (Key × D))
 | pin (x : Addr) (t : T)
mutual
def T.cT : T -> D
 | .sh d => d
 | .tup ts => .tup (fu ts)
 | .lst ts => .lst (fu ts)
 | .ins c fs => .ins c (kh fs)
 | .n5 jr => .n5 jr
 | .pin _ t => t.cT
def T.fu : List T -> List D
 | [] => []
 | t :: ts => t.cT :: T.fu ts
def T.kh : List (Str × T) -> List (Str × D)
 | [] => []
 | (x, t) :: fs => (x, t.cT) :: T.kh fs
end
variable (K : PySem.W.Frag) (CL : Str -> Addr)
mutual
inductive aR (Z : Hp) : D -> V -> Prop where
 | non : aR Z .non .non
 | bl (b : Bool) : aR Z (.bl b) (.bl b)
 | int (i : Int) : aR Z (.int i) (.int i)
 | str (x : Str) : aR Z (.str x) (.str x)
 | any (v : V) : aR Z .any v
 | val (v : V) : aR Z (.val v) v
 | tup {a : Addr} {vs : List V} {ds : List D} : qz K Z a vs -> aA Z ds vs -> aR Z (.tup ds) (.ref a)
 | lst {a : Addr} {vs : List V} {ds : List D} : kW K Z a vs -> aA Z ds vs -> aR Z (.lst ds) (.ref a)
 | ins {a dx : Addr} {c : Str} {gs : List (Str × V)} {fs : List (Str × D)} : Z a = some (.ins (CL c) dx gs) -> gM Z fs gs -> aR Z (.ins c fs) (.ref a)
 | n5 {a : Addr} {gs : List (Key × V)} {fs : List (Key × D)} : Z a = some (.dK gs) -> eW Z fs gs -> aR Z (.n5 fs) (.ref a)
inductive aA (Z : Hp) : List D -> List V -> Prop where
 | nil : aA Z [] []
 | cons {d : D} {v : V} {ds : List D} {vs : List V} : aR Z d v -> aA Z ds vs -> aA Z (d :: ds) (v :: vs)
inductive gM (Z : Hp) : List (Str × D) -> List (Str × V) -> Prop where
 | nil : gM Z [] []
 | cons {x : Str} {d : D} {v : V} {ds : List (Str × D)} {vs : List (Str × V)} : aR Z d v -> gM Z ds vs -> gM Z ((x, d) :: ds) ((x, v) :: vs)
inductive eW (Z : Hp) : List (Key × D) -> List (Key × V) -> Prop where
 | nil : eW Z [] []
 | cons {x : Key} {d : D} {v : V} {ds : List (Key × D)} {vs : List (Key × V)} : aR Z d v -> eW Z ds vs -> eW Z ((x, d) :: ds) ((x, v) :: vs)
end
mutual
inductive bV (H Z : Hp) : T -> V -> List Addr -> Prop where
 | sh {d : D} {v : V} : aR K CL Z d v -> bV H Z (.sh d) v []
 | tup {a : Addr} {vs : List V} {ts : List T} {fp : List Addr} : Z a = some (.tup vs) -> aJ H Z ts vs fp -> bV H Z (.tup ts) (.ref a) fp
 | lst {a : Addr} {vs : List V} {ts : List T} {fp : List Addr} : H a = some (.lst vs) -> aJ H Z ts vs fp -> bV H Z (.lst ts) (.ref a) (a :: fp)
 | ins {a dx : Addr} {c : Str} {gs : List (Str × V)} {fs : List (Str × T)} {fp : List Addr} : H a = some (.ins (CL c) dx gs) -> bG H Z fs gs fp -> bV H Z (.ins c fs) (.ref a) (a :: fp)
 | n5 {a : Addr} {gs : List (Key × V)} {jr : List (Key × D)} : H a = some (.dK gs) -> eW K CL Z jr gs -> bV H Z (.n5 jr) (.ref a) [a]
 | pin {x : Addr} {t : T} {fp : List Addr} : bV H Z t (.ref x) fp -> bV H Z (.pin x t) (.ref x) fp
inductive aJ (H Z : Hp) : List T -> List V -> List Addr -> Prop where
 | nil : aJ H Z [] [] []
 | cons {t : T} {v : V} {ts : List T} {vs : List V} {fp gp : List Addr} : bV H Z t v fp -> aJ H Z ts vs gp -> aJ H Z (t :: ts) (v :: vs) (fp ++ gp)
inductive bG (H Z : Hp) : List (Str × T) -> List (Str × V) -> List Addr -> Prop where
 | nil : bG H Z [] [] []
 | cons {x : Str} {t : T} {v : V} {ts : List (Str × T)} {vs : List (Str × V)} {fp gp : List Addr} : bV H Z t v fp -> bG H Z ts vs gp -> bG H Z ((x, t) :: ts) ((x, v) :: vs) (fp ++ gp)
end
inductive dF (H Z : Hp) : List (Option T) -> L2.St -> List Addr -> Prop where
 | nil : dF H Z [] [] []
 | skip {o : Option V} {δ : List (Option T)} {σ : L2.St} {fp : List Addr} : dF H Z δ σ fp -> dF H Z (none :: δ) (o :: σ) fp
 | cons {t : T} {v : V} {δ : List (Option T)} {σ : L2.St} {fp gp : List Addr} : bV K CL H Z t v fp -> dF H Z δ σ gp -> dF H Z (some t :: δ) (some v :: σ) (fp ++ gp)
section
variable {K : PySem.W.Frag} {CL : Str -> Addr}
theorem ay.Lq {H H' : Hp} {a : Addr} {xs : List V} (e : ay H H') (h : qz K H a xs) : qz K H' a xs := by
 rcases h with (h | ⟨o, h⟩) | h
 . exact .inl (.inl (e _ _ h))
 . exact .inl (.inr ⟨o, e _ _ h⟩)
 . exact .inr h
mutual
theorem aR.mono {Z Z' : Hp} (e : ay Z Z') : ∀ {d : D} {v : V}, aR K CL Z d v -> aR K CL Z' d v
 | _, _, .non => .non
 | _, _, .bl b => .bl b
 | _, _, .int b => .int b
 | _, _, .str b => .str b
 | _, _, .any b => .any b
 | _, _, .val b => .val b
 | _, _, .tup h r => .tup (ay.Lq e h) (aA.mono e r)
 | _, _, .lst h r => .lst (e.seq h) (aA.mono e r)
 | _, _, .ins h r => .ins (e _ _ h) (gM.mono e r)
 | _, _, .n5 h r => .n5 (e _ _ h) (eW.mono e r)
theorem aA.mono {Z Z' : Hp} (e : ay Z Z') : ∀ {d : List D} {v : List V}, aA K CL Z d v -> aA K CL Z' d v
 | _, _, .nil => .nil
 | _, _, .cons h r => .cons (aR.mono e h) (aA.mono e r)
theorem gM.mono {Z Z' : Hp} (e : ay Z Z') : ∀ {d : List (Str × D)} {v : List (Str × V)}, gM K CL Z d v -> gM K CL Z' d v
 | _, _, .nil => .nil
 | _, _, .cons h r => .cons (aR.mono e h) (gM.mono e r)
theorem eW.mono {Z Z' : Hp} (e : ay Z Z') : ∀ {d : List (Key × D)} {v : List (Key × V)}, eW K CL Z d v -> eW K CL Z' d v
 | _, _, .nil => .nil
 | _, _, .cons h r => .cons (aR.mono e h) (eW.mono e r)
end
mutual
theorem bV.mono {H H' Z Z' : Hp} (e : ay Z Z') : ∀ {t : T} {v : V} {fp : List Addr}, (∀ a ∈ fp, H' a = H a) -> bV K CL H Z t v fp -> bV K CL H' Z' t v fp
 | _, _, _, _, .sh h => .sh (h.mono e)
 | _, _, _, k, .tup h r => .tup (e _ _ h) (aJ.mono e k r)
 | _, _, _, k, .lst h r => .lst (by rw [k _ VJ]; exact h) (aJ.mono e (fun a ha => k a (VH _ ha)) r)
 | _, _, _, k, .ins h r => .ins (by rw [k _ VJ]; exact h) (bG.mono e (fun a ha => k a (VH _ ha)) r)
 | _, _, _, k, .n5 h r => .n5 (by rw [k _ VJ]; exact h) (eW.mono e r)
 | _, _, _, k, .pin r => .pin (bV.mono e k r)
theorem aJ.mono {H H' Z Z' : Hp} (e : ay Z Z') : ∀ {t : List T} {v : List V} {fp : List Addr}, (∀ a ∈ fp, H' a = H a) -> aJ K CL H Z t v fp -> aJ K CL H' Z' t v fp
 | _, _, _, _, .nil => .nil
 | _, _, _, k, .cons h r => .cons (bV.mono e (fun a ha => k a (VQ _ ha)) h) (aJ.mono e (fun a ha => k a (Vw _ ha)) r)
theorem bG.mono {H H' Z Z' : Hp} (e : ay Z Z') : ∀ {t : List (Str × T)} {v : List (Str × V)} {fp : List Addr}, (∀ a ∈ fp, H' a = H a) -> bG K CL H Z t v fp -> bG K CL H' Z' t v fp
 | _, _, _, _, .nil => .nil
 | _, _, _, k, .cons h r => .cons (bV.mono e (fun a ha => k a (VQ _ ha)) h) (bG.mono e (fun a ha => k a (Vw _ ha)) r)
end
mutual
theorem bV.there {H Z : Hp} : ∀ {t : T} {v : V} {fp : List Addr}, bV K CL H Z t v fp -> ∀ a ∈ fp, ∃ o, H a = some o
 | _, _, _, .sh h => fun a ha => by cases ha
 | _, _, _, .tup h r => aJ.there r
 | _, _, _, .lst h r => fun a ha => by
   rcases VC.mp ha with rfl | ha
   . exact ⟨_, h⟩
   . exact aJ.there r a ha
 | _, _, _, .ins h r => fun a ha => by
   rcases VC.mp ha with rfl | ha
   . exact ⟨_, h⟩
   . exact bG.there r a ha
 | _, _, _, .n5 h r => fun a ha => by
   rcases VC.mp ha with rfl | ha
   . exact ⟨_, h⟩
   . cases ha
 | _, _, _, .pin r => bV.there r
theorem aJ.there {H Z : Hp} : ∀ {t : List T} {v : List V} {fp : List Addr}, aJ K CL H Z t v fp -> ∀ a ∈ fp, ∃ o, H a = some o
 | _, _, _, .nil => fun a ha => by cases ha
 | _, _, _, .cons h r => fun a ha => (VZ.mp ha).elim (bV.there h a) (aJ.there r a)
theorem bG.there {H Z : Hp} : ∀ {t : List (Str × T)} {v : List (Str × V)} {fp : List Addr}, bG K CL H Z t v fp -> ∀ a ∈ fp, ∃ o, H a = some o
 | _, _, _, .nil => fun a ha => by cases ha
 | _, _, _, .cons h r => fun a ha => (VZ.mp ha).elim (bV.there h a) (bG.there r a)
end
mutual
theorem bV.cT {H Z Z' : Hp} (e : ay Z Z') : ∀ {t : T} {v : V} {fp : List Addr}, (∀ a ∈ fp, Z' a = H a) -> bV K CL H Z t v fp -> aR K CL Z' t.cT v
 | _, _, _, _, .sh h => by rw [T.cT]; exact h.mono e
 | _, _, _, k, .tup h r => by rw [T.cT]; exact .tup (qz.of (e _ _ h)) (aJ.cT e k r)
 | _, _, _, k, .lst h r => by rw [T.cT]; exact .lst (kW.of (by rw [k _ VJ]; exact h)) (aJ.cT e (fun a ha => k a (VH _ ha)) r)
 | _, _, _, k, .ins h r => by rw [T.cT]; exact .ins (by rw [k _ VJ]; exact h) (bG.cT e (fun a ha => k a (VH _ ha)) r)
 | _, _, _, k, .n5 h r => by rw [T.cT]; exact .n5 (by rw [k _ VJ]; exact h) (eW.mono e r)
 | _, _, _, k, .pin r => by rw [T.cT]; exact bV.cT e k r
theorem aJ.cT {H Z Z' : Hp} (e : ay Z Z') : ∀ {t : List T} {v : List V} {fp : List Addr}, (∀ a ∈ fp, Z' a = H a) -> aJ K CL H Z t v fp -> aA K CL Z' (T.fu t) v
 | _, _, _, _, .nil => by rw [T.fu]; exact .nil
 | _, _, _, k, .cons h r => by rw [T.fu]; exact .cons (bV.cT e (fun a ha => k a (VQ _ ha)) h) (aJ.cT e (fun a ha => k a (Vw _ ha)) r)
theorem bG.cT {H Z Z' : Hp} (e : ay Z Z') : ∀ {t : List (Str × T)} {v : List (Str × V)} {fp : List Addr}, (∀ a ∈ fp, Z' a = H a) -> bG K CL H Z t v fp -> gM K CL Z' (T.kh t) v
 | _, _, _, _, .nil => by rw [T.kh]; exact .nil
 | _, _, _, k, .cons h r => by rw [T.kh]; exact .cons (bV.cT e (fun a ha => k a (VQ _ ha)) h) (bG.cT e (fun a ha => k a (Vw _ ha)) r)
end
theorem aA.length {Z : Hp} : ∀ {d : List D} {v : List V}, aA K CL Z d v -> d.length = v.length
 | _, _, .nil => rfl
 | _, _, .cons _ r => by rw [VX, VX, aA.length r]
theorem aJ.length {H Z : Hp} : ∀ {d : List T} {v : List V} {fp : List Addr}, aJ K CL H Z d v fp -> d.length = v.length
 | _, _, _, .nil => rfl
 | _, _, _, .cons _ r => by rw [VX, VX, aJ.length r]
theorem aA.get {Z : Hp} : ∀ {ds : List D} {vs : List V} {i : Nat} {d : D}, aA K CL Z ds vs -> ds[i]? = some d -> ∃ v, vs[i]? = some v /\ aR K CL Z d v
 | _, _, _, _, .nil, e => by simp at e
 | _, _, 0, _, .cons r _, e => by simp at e; subst e; exact ⟨_, rfl, r⟩
 | _, _, i + 1, d, .cons _ t, e => by
   obtain ⟨u, h1, h2⟩ := aA.get (i := i) (d := d) t (by simpa using e)
   exact ⟨u, by simpa using h1, h2⟩
theorem aA.Ed {Z : Hp} : ∀ {ds : List D} {vs : List V} {i : Nat} {v : V}, aA K CL Z ds vs -> vs[i]? = some v -> ∃ d, ds[i]? = some d /\ aR K CL Z d v
 | _, _, _, _, .nil, e => by simp at e
 | _, _, 0, _, .cons r _, e => by simp at e; subst e; exact ⟨_, rfl, r⟩
 | _, _, i + 1, d, .cons _ t, e => by
   obtain ⟨u, h1, h2⟩ := aA.Ed (i := i) (v := d) t (by simpa using e)
   exact ⟨u, by simpa using h1, h2⟩
theorem dF.get {H Z : Hp} : ∀ {δ : List (Option T)} {σ : L2.St} {fp : List Addr} {i : Nat} {t : T}, dF K CL H Z δ σ fp -> δ[i]? = some (some t) →
   ∃ v f1 f2 f3, σ[i]? = some (some v) /\ fp = f1 ++ (f2 ++ f3) /\ bV K CL H Z t v f2 ∧
     (∀ {H' Z' : Hp} {t' : T} {v' : V} {g : List Addr}, ay Z Z' -> (∀ a ∈ f1 ++ f3, H' a = H a) -> bV K CL H' Z' t' v' g -> dF K CL H' Z' (δ.set i (some t')) (σ.set i (some v')) (f1 ++ (g ++ f3))) ∧
     (∀ {o : Option V}, dF K CL H Z (δ.set i none) (σ.set i o) (f1 ++ f3)) := by
 intro δ σ fp i t h
 have mono : ∀ {H H' Z Z' : Hp} {δ : List (Option T)} {σ : L2.St} {fp : List Addr}, ay Z Z' -> (∀ a ∈ fp, H' a = H a) -> dF K CL H Z δ σ fp -> dF K CL H' Z' δ σ fp := by
   intro H H' Z Z' δ σ fp e k r
   induction r with
   | nil => exact .nil
   | skip _ ih => exact .skip (ih k)
   | cons r _ ih => exact .cons (r.mono e fun a ha => k a (VQ _ ha)) (ih fun a ha => k a (Vw _ ha))
 induction h generalizing i with
 | nil => intro e; simp at e
 | @skip o δ σ fp r ih =>
   cases i with
   | zero => intro e; simp at e
   | succ i =>
     intro e
     obtain ⟨v, f1, f2, f3, h1, h2, h3, h4, h5⟩ := ih (i := i) (by simpa using e)
     exact ⟨v, f1, f2, f3, by simpa using h1, h2, h3, fun e k q => .skip (h4 e k q), .skip h5⟩
 | @cons t0 v0 δ σ fp gp r0 r ih =>
   cases i with
   | zero =>
     intro e
     simp at e
     subst e
     refine ⟨v0, [], fp, gp, rfl, rfl, r0, fun {H' Z' t' v' g} e k q => dF.cons (fp := g) (gp := gp) q (mono (fp := gp) e (fun a ha => k a (by simpa using ha)) r), .skip (by simpa using r)⟩
   | succ i =>
     intro e
     obtain ⟨v, f1, f2, f3, h1, h2, h3, h4, h5⟩ := ih (i := i) (by simpa using e)
     refine ⟨v, fp ++ f1, f2, f3, by simpa using h1, by rw [h2, List.append_assoc], h3, fun {H' Z' t' v' g} e k q => ?_, fun {o} => ?_⟩
     . rw [VA]
       exact .cons (r0.mono e fun a ha => k a (by simp [ha])) (h4 e (fun a ha => k a (by rw [VA]; exact Vw _ ha)) q)
     . rw [VA]
       exact .cons r0 h5
theorem dF.mono {H H' Z Z' : Hp} {δ : List (Option T)} {σ : L2.St} {fp : List Addr} (e : ay Z Z') (k : ∀ a ∈ fp, H' a = H a) (r : dF K CL H Z δ σ fp) : dF K CL H' Z' δ σ fp := by
 induction r with
 | nil => exact .nil
 | skip _ ih => exact .skip (ih k)
 | cons r _ ih => exact .cons (r.mono e fun a ha => k a (VQ _ ha)) (ih fun a ha => k a (Vw _ ha))
theorem dF.there {H Z : Hp} {δ : List (Option T)} {σ : L2.St} {fp : List Addr} (r : dF K CL H Z δ σ fp) : ∀ a ∈ fp, ∃ o, H a = some o := by
 induction r with
 | nil => intro a ha; cases ha
 | skip _ ih => exact ih
 | cons r _ ih => exact fun a ha => (VZ.mp ha).elim (r.there a) (ih a)
theorem dF.put {H Z : Hp} {δ : List (Option T)} {σ : L2.St} {fp : List Addr} (r : dF K CL H Z δ σ fp) {t : T} {v : V} {g : List Addr} (q : bV K CL H Z t v g) :
   ∀ {i : Nat}, i < δ.length -> ∃ f, dF K CL H Z (δ.set i (some t)) (σ.set i (some v)) f /\ ∃ f', f'.Sublist fp /\ f.Perm (g ++ f') := by
 induction r with
 | nil => intro i hi; simp at hi
 | @skip o δ σ fp r ih =>
   intro i hi
   cases i with
   | zero => exact ⟨g ++ fp, .cons q r, fp, V9 _, Xm _⟩
   | succ i =>
     obtain ⟨f, h1, f', h2, h3⟩ := ih (i := i) (by simpa using hi)
     exact ⟨f, .skip h1, f', h2, h3⟩
 | @cons t0 v0 δ σ fp gp r0 r ih =>
   intro i hi
   cases i with
   | zero => exact ⟨g ++ gp, .cons q r, gp, WD _ _, Xm _⟩
   | succ i =>
     obtain ⟨f, h1, f', h2, h3⟩ := ih (i := i) (by simpa using hi)
     refine ⟨fp ++ f, .cons r0 h1, fp ++ f', Wa (V9 _) h2, ?_⟩
     refine (Wq fp h3).trans ?_
     rw [← VA, ← VA]
     exact List.Perm.append_right f' Wj
end
def vN (X : Cx) (e : Expr) : TE := fun σ H Q => ∀ (pins : List (Addr × Obj)) (s : Shared), Inv X pins σ H s -> wpAny (model X.prog X.w) X.A (eval e X.env) (EP X pins σ Q) X.xe s
def Ef (X : Cx) (e : Expr) : TT := fun σ H Q => ∀ (pins : List (Addr × Obj)) (s : Shared), Inv X pins σ H s -> wpAny (model X.prog X.w) X.A (isTrue e X.env (eval e X.env)) (TP X pins σ Q) X.xe s
def Bm (X : Cx) (es : List Expr) : TA := fun σ H Q => ∀ (pos : Pos) (pins : List (Addr × Obj)) (s : Shared), Inv X pins σ H s -> wpAny (model X.prog X.w) X.A (spliced (backTo pos (starEach es X.env))) (AP X pins σ Q) X.xe s
def Jw (X : Cx) (st : Stmt) : TS := fun D σ H => ∀ (pins : List (Addr × Obj)) (s : Shared), Inv X pins σ H s -> wpAny (model X.prog X.w) X.A (exec st X.env) (SP X pins D) X.xe s
def Jx (X : Cx) (st : List Stmt) : TS := fun D σ H => ∀ (pins : List (Addr × Obj)) (s : Shared), Inv X pins σ H s -> wpAny (model X.prog X.w) X.A (execs st X.env) (SP X pins D) X.xe s
section
variable {X : Cx}
theorem cU {e : Expr} : PE X e (vN X e) := fun pins s _ _ _ I h => h pins s I
theorem Jy {e : Expr} : PT X e (Ef X e) := fun pins s _ _ _ I h => h pins s I
theorem Eg {e : List Expr} : PA X e (Bm X e) := fun pos pins s _ _ _ I h => h pos pins s I
theorem TJ {e : Stmt} : PS X e (Jw X e) := fun pins s _ _ _ I h => h pins s I
theorem HK {e : List Stmt} : xF X e (Jx X e) := fun pins s _ _ _ I h => h pins s I
theorem cL {e : Expr} {t : TE} (h : PE X e t) {σ : L2.St} {H : Hp} {Q : VK} (q : t σ H Q) : vN X e σ H Q := fun pins s I => h pins s σ H Q I q
theorem vO {e : Expr} {t : TT} (h : PT X e t) {σ : L2.St} {H : Hp} {Q : Bool -> Hp -> Prop} (q : t σ H Q) : Ef X e σ H Q := fun pins s I => h pins s σ H Q I q
theorem zY {e : List Expr} {t : TA} (h : PA X e t) {σ : L2.St} {H : Hp} {Q : List V -> Hp -> Prop} (q : t σ H Q) : Bm X e σ H Q := fun pos pins s I => h pos pins s σ H Q I q
theorem vP {e : Stmt} {t : TS} (h : PS X e t) {σ : L2.St} {H : Hp} {D : Ends} (q : t D σ H) : Jw X e D σ H := fun pins s I => h pins s σ H D I q
theorem MD {e : List Stmt} {t : TS} (h : xF X e t) {σ : L2.St} {H : Hp} {D : Ends} (q : t D σ H) : Jx X e D σ H := fun pins s I => h pins s σ H D I q
end
def notStar : Expr -> Bool
 | .Starred _ _ => false
 | _ => true
theorem bR {e : Expr} {es : List Expr} {env : Env} (h : notStar e = true) : starEach (e :: es) env = (false, eval e env) :: starEach es env := by
 cases e <;> first | rfl | (cases h)
structure Bx where
 B : Hp
 Z : Hp
def fW : HO -> Bool
 | .tup _ => true
 | .cT _ _ => true
 | _ => false
def vQ (x : Str) : Bool := x.cps[0]? == some 35
def zZ (x : Str) : Str := ⟨x.cps.extract 1 x.cps.size⟩
def iZ (CL : Str -> Addr) (Z : Hp) : Prop := ∀ x, vQ x = true -> CL x ≠ 0 -> Z (CL x) = some (.tabs (zZ x))
structure bK (K : PySem.W.Frag) (CL : Str -> Addr) (b : Bx) (H Z : Hp) (δ : List (Option T)) (σ : L2.St) (ts : List T) (vs : List V) : Prop where
 rep : ∃ fp gp, dF K CL H Z δ σ fp /\ aJ K CL H Z ts vs gp /\ (fp ++ gp).Nodup /\ ∀ a ∈ fp ++ gp, Z a = none /\ b.B a = none
 bh : ay b.B H
 zz : ay b.Z Z
 zh : ay Z H
 new : ∀ a o, Z a = some o -> b.Z a = none -> b.B a = none
 tp : ∀ a o, H a = some o -> fW o = true -> Z a = some o
 tab : iZ CL b.Z
section
variable {K : PySem.W.Frag} {CL : Str -> Addr} {b : Bx} {H H' Z Z' : Hp} {δ δ' : List (Option T)} {σ σ' : L2.St} {ts TL : List T} {vs Qs : List V} {t : T} {v : V}
theorem iZ.mono {A B : Hp} (h : iZ CL A) (e : ay A B) : iZ CL B := fun x hx h0 => e _ _ (h x hx h0)
theorem bK.MF (S : bK K CL b H Z δ σ ts vs) : iZ CL Z := S.tab.mono S.zz
theorem bK.z0 (S : bK K CL b H Z δ σ ts vs) : iZ CL H := S.MF.mono S.zh
theorem Jz {A B : Hp} (e : ay A B) {a : Addr} (h : B a = none) : A a = none := e.free h
theorem ay.upd {H : Hp} {p : Addr} {o : HO} (h : H p = none) : ay H (upd H p o) := fun b u e => by rw [au (az e h)]; exact e
theorem bK.view (S : bK K CL b H Z δ σ (t :: ts) (v :: vs)) : aR K CL H t.cT v := by
 obtain ⟨fp, gp, _, r, _, _⟩ := S.rep
 cases r with
 | cons r _ => exact r.cT S.zh fun _ _ => rfl
theorem bK.pop (S : bK K CL b H Z δ σ (t :: ts) (v :: vs)) : bK K CL b H Z δ σ ts vs := by
 obtain ⟨fp, gp, e, r, nd, k⟩ := S.rep
 cases r with
 | @cons _ _ _ _ f1 f2 r1 r2 =>
   refine ⟨⟨fp, f2, e, r2, nd.sublist (Wa (V9 _) (WD _ _)), fun a ha => k a ?_⟩, S.bh, S.zz, S.zh, S.new, S.tp, S.tab⟩
   rcases VZ.mp ha with h | h
   . exact VQ _ h
   . exact Vw _ (Vw _ h)
theorem bK.push {d : D} (S : bK K CL b H Z δ σ ts vs) (r : aR K CL Z d v) : bK K CL b H Z δ σ (.sh d :: ts) (v :: vs) := by
 obtain ⟨fp, gp, e, r2, nd, k⟩ := S.rep
 exact ⟨⟨fp, [] ++ gp, e, .cons (.sh r) r2, nd, k⟩, S.bh, S.zz, S.zh, S.new, S.tp, S.tab⟩
theorem bK.Bo (S : bK K CL b H Z δ σ (t :: ts) (v :: vs)) : ∃ Z', ay Z Z' /\ bK K CL b H Z' δ σ (.sh t.cT :: ts) (v :: vs) := by
 classical
 obtain ⟨fp, gp, e, r, nd, k⟩ := S.rep
 cases r with
 | @cons _ _ _ _ f1 f2 r1 r2 =>
   have nZ : ∀ a ∈ f1, Z a = none /\ b.B a = none := fun a ha => k a (Vw _ (VQ _ ha))
   have sz : ay Z (fun a => if a ∈ f1 then H a else Z a) := fun a o q => by
     by_cases ha : a ∈ f1
     . rw [(nZ a ha).1] at q; cases q
     . show (if a ∈ f1 then H a else Z a) = some o
       rw [Vx ha]; exact q
   have MG := Wm.mp nd
   have dj : ∀ a ∈ fp ++ f2, a ∉ f1 := fun a ha h1 => by
     rcases VZ.mp ha with h | h
     . exact MG.2.2 a h a (VQ _ h1) rfl
     . exact (Wm.mp MG.2.1).2.2 a h1 a h rfl
   refine ⟨fun a => if a ∈ f1 then H a else Z a, sz, ⟨⟨fp, [] ++ f2, e.mono sz (fun _ _ => rfl), .cons (.sh (r1.cT sz fun a ha => Vy ha)) (r2.mono sz fun _ _ => rfl), ?_, fun a ha => ?_⟩, S.bh, S.zz.trans sz, fun a o q => ?_, fun a o q z => ?_, fun a o q i => ?_, S.tab⟩⟩
   . exact nd.sublist (Wa (V9 _) (WD _ _))
   . have Bp : a ∈ fp ++ f2 := ha
     refine ⟨?_, (k a ?_).2⟩
     . show (if a ∈ f1 then H a else Z a) = none
       rw [Vx (dj a Bp)]
       refine (k a ?_).1
       rcases VZ.mp Bp with h | h
       . exact VQ _ h
       . exact Vw _ (Vw _ h)
     . rcases VZ.mp Bp with h | h
       . exact VQ _ h
       . exact Vw _ (Vw _ h)
   . have q' : (if a ∈ f1 then H a else Z a) = some o := q
     by_cases ha : a ∈ f1
     . rw [Vy ha] at q'; exact q'
     . rw [Vx ha] at q'; exact S.zh a o q'
   . have q' : (if a ∈ f1 then H a else Z a) = some o := q
     by_cases ha : a ∈ f1
     . exact (nZ a ha).2
     . rw [Vx ha] at q'; exact S.new a o q' z
   . exact sz a o (S.tp a o q i)
theorem bK.O4 {i : Nat} (S : bK K CL b H Z δ σ ts vs) (hi : δ[i]? = some (some t)) : ∃ v Z', σ[i]? = some (some v) /\ ay Z Z' /\ bK K CL b H Z' (δ.set i (some (.sh t.cT))) σ (.sh t.cT :: ts) (v :: vs) := by
 classical
 obtain ⟨fp, gp, e, r, nd, k⟩ := S.rep
 obtain ⟨v, f1, f2, f3, hv, n6, rt, put, _⟩ := e.get hi
 subst n6
 have nZ : ∀ a ∈ f2, Z a = none /\ b.B a = none := fun a ha => k a (by simp [ha])
 have sz : ay Z (fun a => if a ∈ f2 then H a else Z a) := fun a o q => by
   by_cases ha : a ∈ f2
   . rw [(nZ a ha).1] at q; cases q
   . show (if a ∈ f2 then H a else Z a) = some o
     rw [Vx ha]; exact q
 have dj : ∀ a ∈ (f1 ++ f3) ++ gp, a ∉ f2 := fun a ha h2 => by
   have hp : ((f1 ++ (f2 ++ f3)) ++ gp).Perm (f2 ++ ((f1 ++ f3) ++ gp)) := by
     rw [← VA, ← VA]
     refine (List.perm_append_right_iff gp).mpr ?_
     rw [← VA]
     exact (List.perm_append_right_iff f3).mpr Wj
   exact (Wm.mp (hp.nodup_iff.mp nd)).2.2 a h2 a ha rfl
 have rF : aR K CL (fun a => if a ∈ f2 then H a else Z a) t.cT v := rt.cT sz fun a ha => Vy ha
 have JA : σ.set i (some v) = σ := by
   apply W8
   intro j
   rw [List.getElem?_set]
   split
   . rename_i h; subst h
     split
     . exact hv.symm
     . rename_i h2; rw [Xb (by omega)]
   . rfl
 have e2 : dF K CL H (fun a => if a ∈ f2 then H a else Z a) (δ.set i (some (.sh t.cT))) σ (f1 ++ ([] ++ f3)) := by
   have := put (H' := H) (t' := .sh t.cT) (v' := v) (g := []) sz (fun _ _ => rfl) (.sh rF)
   rwa [JA] at this
 refine ⟨v, fun a => if a ∈ f2 then H a else Z a, hv, sz, ⟨⟨f1 ++ ([] ++ f3), [] ++ gp, e2, .cons (.sh rF) (r.mono sz fun _ _ => rfl), ?_, fun a ha => ?_⟩, S.bh, S.zz.trans sz, fun a o q => ?_, fun a o q z => ?_, fun a o q i => sz a o (S.tp a o q i), S.tab⟩⟩
 . exact nd.sublist (Wa (Wa (V9 _) (WD _ _)) (V9 _))
 . have Bp : a ∈ (f1 ++ f3) ++ gp := ha
   have hm : a ∈ (f1 ++ (f2 ++ f3)) ++ gp := by
     simp only [VZ] at Bp ⊢
     rcases Bp with (h | h) | h
     . exact .inl (.inl h)
     . exact .inl (.inr (.inr h))
     . exact .inr h
   refine ⟨?_, (k a hm).2⟩
   show (if a ∈ f2 then H a else Z a) = none
   rw [Vx (dj a Bp)]
   exact (k a hm).1
 . have q' : (if a ∈ f2 then H a else Z a) = some o := q
   by_cases ha : a ∈ f2
   . rw [Vy ha] at q'; exact q'
   . rw [Vx ha] at q'; exact S.zh a o q'
 . have q' : (if a ∈ f2 then H a else Z a) = some o := q
   by_cases ha : a ∈ f2
   . exact (nZ a ha).2
   . rw [Vx ha] at q'; exact S.new a o q' z
theorem bK.move {i : Nat} (S : bK K CL b H Z δ σ ts vs) (hi : δ[i]? = some (some t)) : ∃ v, σ[i]? = some (some v) /\ bK K CL b H Z (δ.set i none) σ (t :: ts) (v :: vs) := by
 obtain ⟨fp, gp, e, r, nd, k⟩ := S.rep
 obtain ⟨v, f1, f2, f3, hv, n6, rt, _, del⟩ := e.get hi
 subst n6
 have JA : σ.set i (some v) = σ := by
   apply W8
   intro j
   rw [List.getElem?_set]
   split
   . rename_i h; subst h
     split
     . exact hv.symm
     . rename_i h2; rw [Xb (by omega)]
   . rfl
 have hp : ((f1 ++ (f2 ++ f3)) ++ gp).Perm ((f1 ++ f3) ++ (f2 ++ gp)) := by
   have h1 : (f2 ++ f3).Perm (f3 ++ f2) := Wj
   have h2 := (Wq f1 h1).append_right gp
   simp only [VA] at h2 ⊢
   exact h2
 refine ⟨v, hv, ⟨⟨f1 ++ f3, f2 ++ gp, ?_, .cons rt r, hp.nodup_iff.mp nd, fun a ha => k a (hp.mem_iff.mpr ha)⟩, S.bh, S.zz, S.zh, S.new, S.tp, S.tab⟩⟩
 have := del (o := some v)
 rwa [JA] at this
theorem bK.look {i : Nat} (S : bK K CL b H Z δ σ ts vs) (hi : δ[i]? = some (some t)) : ∃ v, σ[i]? = some (some v) /\ aR K CL H t.cT v := by
 obtain ⟨fp, gp, e, r, nd, k⟩ := S.rep
 obtain ⟨v, f1, f2, f3, hv, n6, rt, _, _⟩ := e.get hi
 exact ⟨v, hv, rt.cT S.zh fun _ _ => rfl⟩
theorem bK.HL {i : Nat} {d : D} (S : bK K CL b H Z δ σ ts vs) (hi : δ[i]? = some (some (.sh d))) : ∃ v, σ[i]? = some (some v) /\ aR K CL Z d v := by
 obtain ⟨fp, gp, e, r, nd, k⟩ := S.rep
 obtain ⟨v, f1, f2, f3, hv, n6, rt, _, _⟩ := e.get hi
 cases rt with
 | sh h => exact ⟨v, hv, h⟩
theorem bK.set {i : Nat} (S : bK K CL b H Z δ σ (t :: ts) (v :: vs)) (hi : i < δ.length) : bK K CL b H Z (δ.set i (some t)) (σ.set i (some v)) ts vs := by
 obtain ⟨fp, gp, e, r, nd, k⟩ := S.rep
 cases r with
 | @cons _ _ _ _ f1 f2 r1 r2 =>
   obtain ⟨f, h1, f', h2, h3⟩ := e.put r1 hi
   have hp : (f ++ f2).Perm (f' ++ (f1 ++ f2)) := by
     refine (h3.append_right f2).trans ?_
     rw [← VA]
     exact Wj.append_right f2
   have MH : (f' ++ (f1 ++ f2)).Sublist (fp ++ (f1 ++ f2)) := Wa h2 (V9 _)
   exact ⟨⟨f, f2, h1, r2, hp.nodup_iff.mpr (nd.sublist MH), fun a ha => k a (MH.subset (hp.mem_iff.mp ha))⟩, S.bh, S.zz, S.zh, S.new, S.tp, S.tab⟩
end
mutual
def D.g6 : D -> Bool
 | .tup ds => D.bw ds
 | .lst _ => false
 | .ins _ _ => false
 | .n5 _ => false
 | .any => false
 | _ => true
def D.bw : List D -> Bool
 | [] => true
 | d :: ds => d.g6 && D.bw ds
end
mutual
def T.clean : T -> Bool
 | .sh d => d.g6
 | .tup ts => T.cV ts
 | .lst ts => T.cV ts
 | .ins _ fs => T.aQ fs
 | .n5 jr => D.bw (jr.map (·.2))
 | .pin _ t => t.clean
def T.cV : List T -> Bool
 | [] => true
 | t :: ts => t.clean && T.cV ts
def T.aQ : List (Str × T) -> Bool
 | [] => true
 | (_, t) :: ts => t.clean && T.aQ ts
end
def bY (X : Cx) (CL : Str -> Addr) (b : Bx) (e : Expr) (δ : List (Option T)) (t : T) (δ' : List (Option T)) : Prop :=
 ∀ (H Z : Hp) (σ : L2.St) (ts : List T) (vs : List V) (Q : VK), bK X.K CL b H Z δ σ ts vs -> (∀ v H' Z', ay Z Z' -> ay H H' -> bK X.K CL b H' Z' δ' σ (t :: ts) (v :: vs) -> Q v H') -> vN X e σ H Q
def bW (X : Cx) (CL : Str -> Addr) (b : Bx) (e : Expr) (δ : List (Option T)) (d : D) (δ' : List (Option T)) : Prop :=
 ∀ (H Z : Hp) (σ : L2.St) (ts : List T) (vs : List V) (Q : VK), bK X.K CL b H Z δ σ ts vs -> (∀ v H' Z', ay Z Z' -> ay H H' -> bK X.K CL b H' Z' δ' σ ts vs -> aR X.K CL H' d v -> Q v H') -> vN X e σ H Q
def kU (X : Cx) (CL : Str -> Addr) (b : Bx) (e : Expr) (δ : List (Option T)) (p : Bool) (δ' : List (Option T)) : Prop :=
 ∀ (H Z : Hp) (σ : L2.St) (ts : List T) (vs : List V) (Q : Bool -> Hp -> Prop), bK X.K CL b H Z δ σ ts vs -> (∀ H' Z', ay Z Z' -> ay H H' -> bK X.K CL b H' Z' δ' σ ts vs -> Q p H') -> Ef X e σ H Q
def xT (X : Cx) (CL : Str -> Addr) (b : Bx) (es : List Expr) (δ : List (Option T)) (tl : List T) (δ' : List (Option T)) : Prop :=
 ∀ (H Z : Hp) (σ : L2.St) (ts : List T) (vs : List V) (Q : List V -> Hp -> Prop), bK X.K CL b H Z δ σ ts vs →
   (∀ us H' Z', us.length = tl.length -> ay Z Z' -> ay H H' -> bK X.K CL b H' Z' δ' σ (tl.reverse ++ ts) (us.reverse ++ vs) -> Q us H') -> Bm X es σ H Q
def HM (X : Cx) (CL : Str -> Addr) (b : Bx) (es : List Expr) (δ : List (Option T)) (ds : List D) (δ' : List (Option T)) : Prop :=
 ∀ (H Z : Hp) (σ : L2.St) (ts : List T) (vs : List V) (Q : List V -> Hp -> Prop), bK X.K CL b H Z δ σ ts vs →
   (∀ us H' Z', ay Z Z' -> ay H H' -> bK X.K CL b H' Z' δ' σ ts vs -> aA X.K CL H' ds us -> Q us H') -> Bm X es σ H Q
structure cC where
 nx : List (Option T) -> Prop
 rt : T -> List (Option T) -> Prop
 bk : List (Option T) -> Prop := fun _ => False
 ct : List (Option T) -> Prop := fun _ => False
structure Meets (K : PySem.W.Frag) (CL : Str -> Addr) (b : Bx) (Z : Hp) (ts : List T) (vs : List V) (D : cC) (E : Ends) : Prop where
 nx : ∀ δ' σ' H' Z', ay Z Z' -> bK K CL b H' Z' δ' σ' ts vs -> D.nx δ' -> E.nx σ' H'
 rt : ∀ t v H' Z' δ' σ', ay Z Z' -> bK K CL b H' Z' δ' σ' (t :: ts) (v :: vs) -> D.rt t δ' -> E.rt v H'
 bk : ∀ δ' σ' H' Z', ay Z Z' -> bK K CL b H' Z' δ' σ' ts vs -> D.bk δ' -> E.bk σ' H'
 ct : ∀ δ' σ' H' Z', ay Z Z' -> bK K CL b H' Z' δ' σ' ts vs -> D.ct δ' -> E.ct σ' H'
def JB (X : Cx) (CL : Str -> Addr) (b : Bx) (st : Stmt) (δ : List (Option T)) (D : cC) : Prop :=
 ∀ (H Z : Hp) (σ : L2.St) (ts : List T) (vs : List V) (E : Ends), bK X.K CL b H Z δ σ ts vs -> Meets X.K CL b Z ts vs D E -> Jw X st E σ H
def eO (X : Cx) (CL : Str -> Addr) (b : Bx) (st : List Stmt) (δ : List (Option T)) (D : cC) : Prop :=
 ∀ (H Z : Hp) (σ : L2.St) (ts : List T) (vs : List V) (E : Ends), bK X.K CL b H Z δ σ ts vs -> Meets X.K CL b Z ts vs D E -> Jx X st E σ H
section
variable {K : PySem.W.Frag} {CL : Str -> Addr} {b : Bx} {H H' Z Z' : Hp} {δ δ' : List (Option T)} {σ σ' : L2.St} {ts TL : List T} {vs Qs : List V} {t : T} {v : V}
theorem Meets.mono {D : cC} {E : Ends} (M : Meets K CL b Z ts vs D E) (e : ay Z Z') : Meets K CL b Z' ts vs D E :=
 ⟨fun _ _ _ _ s => M.nx _ _ _ _ (e.trans s), fun _ _ _ _ _ _ s => M.rt _ _ _ _ _ _ (e.trans s), fun _ _ _ _ s => M.bk _ _ _ _ (e.trans s), fun _ _ _ _ s => M.ct _ _ _ _ (e.trans s)⟩
theorem Eh {a : Addr} {xs : List V} (zh : ∀ a o, H a = some o -> fW o = true -> Z a = some o) (h : qz K H a xs) : qz K Z a xs := by
 rcases h with (h | ⟨o, h⟩) | h
 . exact .inl (.inl (zh _ _ h rfl))
 . exact .inl (.inr ⟨o, zh _ _ h rfl⟩)
 . exact .inr h
mutual
theorem aR.g6 (zh : ∀ a o, H a = some o -> fW o = true -> Z a = some o) : ∀ {d : D} {v : V}, d.g6 = true -> aR K CL H d v -> aR K CL Z d v
 | _, _, _, .non => .non
 | _, _, _, .bl b => .bl b
 | _, _, _, .int b => .int b
 | _, _, _, .str b => .str b
 | _, _, k, .any b => by rw [D.g6] at k; cases k
 | _, _, _, .val b => .val b
 | _, _, k, .tup h r => .tup (Eh zh h) (aA.g6 zh (by rw [D.g6] at k; exact k) r)
 | _, _, k, .lst h r => by rw [D.g6] at k; cases k
 | _, _, k, .ins h r => by rw [D.g6] at k; cases k
 | _, _, k, .n5 h r => by rw [D.g6] at k; cases k
theorem aA.g6 (zh : ∀ a o, H a = some o -> fW o = true -> Z a = some o) : ∀ {d : List D} {v : List V}, D.bw d = true -> aA K CL H d v -> aA K CL Z d v
 | _, _, _, .nil => .nil
 | _, _, k, .cons h r => by
   rw [D.bw, Wt] at k
   exact .cons (aR.g6 zh k.1 h) (aA.g6 zh k.2 r)
end
theorem eW.clean {Z1 : Hp} (zi : ∀ {d : D} {v : V}, d.g6 = true -> aR K CL Z1 d v -> aR K CL Z d v) : ∀ {jr : List (Key × D)} {gs : List (Key × V)}, D.bw (jr.map (·.2)) = true -> eW K CL Z1 jr gs -> eW K CL Z jr gs
 | _, _, _, .nil => .nil
 | _, _, k, .cons h r => by
   rw [Wg, D.bw, Wt] at k
   exact .cons (zi k.1 h) (eW.clean zi k.2 r)
mutual
theorem bV.clean {Z1 : Hp} (zh : ∀ a xs, Z1 a = some (.tup xs) -> Z a = some (.tup xs)) (zi : ∀ {d : D} {v : V}, d.g6 = true -> aR K CL Z1 d v -> aR K CL Z d v) : ∀ {t : T} {v : V} {fp : List Addr}, t.clean = true -> bV K CL H Z1 t v fp -> bV K CL H Z t v fp
 | _, _, _, k, .sh h => .sh (zi (by rw [T.clean] at k; exact k) h)
 | _, _, _, k, .tup h r => .tup (zh _ _ h) (aJ.clean zh zi (by rw [T.clean] at k; exact k) r)
 | _, _, _, k, .lst h r => .lst h (aJ.clean zh zi (by rw [T.clean] at k; exact k) r)
 | _, _, _, k, .ins h r => .ins h (bG.clean zh zi (by rw [T.clean] at k; exact k) r)
 | _, _, _, k, .n5 h r => .n5 h (eW.clean zi (by rw [T.clean] at k; exact k) r)
 | _, _, _, k, .pin r => .pin (bV.clean zh zi (by rw [T.clean] at k; exact k) r)
theorem aJ.clean {Z1 : Hp} (zh : ∀ a xs, Z1 a = some (.tup xs) -> Z a = some (.tup xs)) (zi : ∀ {d : D} {v : V}, d.g6 = true -> aR K CL Z1 d v -> aR K CL Z d v) : ∀ {t : List T} {v : List V} {fp : List Addr}, T.cV t = true -> aJ K CL H Z1 t v fp -> aJ K CL H Z t v fp
 | _, _, _, _, .nil => .nil
 | _, _, _, k, .cons h r => by
   rw [T.cV, Wt] at k
   exact .cons (bV.clean zh zi k.1 h) (aJ.clean zh zi k.2 r)
theorem bG.clean {Z1 : Hp} (zh : ∀ a xs, Z1 a = some (.tup xs) -> Z a = some (.tup xs)) (zi : ∀ {d : D} {v : V}, d.g6 = true -> aR K CL Z1 d v -> aR K CL Z d v) : ∀ {t : List (Str × T)} {v : List (Str × V)} {fp : List Addr}, T.aQ t = true -> bG K CL H Z1 t v fp -> bG K CL H Z t v fp
 | _, _, _, _, .nil => .nil
 | _, _, _, k, .cons h r => by
   rw [T.aQ, Wt] at k
   exact .cons (bV.clean zh zi k.1 h) (bG.clean zh zi k.2 r)
end
theorem bK.back {W W' : Hp} {fp : List Addr} (S : bK K CL b H Z δ σ ts vs) (hh : ay H H') (zw : ay Z W) (ww : ay W W') (wh : ay W' H') (new : ∀ a o, W' a = some o -> W a = none -> H a = none)
   (tp : ∀ a o, H' a = some o -> fW o = true -> W' a = some o) (r : bV K CL H' W' t v fp) (nd : fp.Nodup) (own : ∀ a ∈ fp, W' a = none /\ H a = none) (c : W = Z \/ t.clean = true) :
   ∃ Z', ay Z Z' /\ bK K CL b H' Z' δ σ (t :: ts) (v :: vs) := by
 classical
 let Z' : Hp := fun a => if (H a).isSome = true then Z a else W' a
 have zs : ∀ {a : Addr} {o : HO}, H a = some o -> Z' a = Z a := fun {a o} e => by
   show (if (H a).isSome = true then Z a else W' a) = Z a
   rw [Vy (by rw [e]; rfl)]
 have zn : ∀ {a : Addr}, H a = none -> Z' a = W' a := fun {a} e => by
   show (if (H a).isSome = true then Z a else W' a) = W' a
   rw [Vx (by rw [e]; simp)]
 have sz : ay Z Z' := fun a o q => by rw [zs (S.zh a o q)]; exact q
 have TN : ∀ a o, Z' a = some o -> W' a = some o := fun a o q => by
   cases e : H a with
   | none => rw [zn e] at q; exact q
   | some u => rw [zs e] at q; exact ww a o (zw a o q)
 have Qt : ∀ a o, H' a = some o -> fW o = true -> Z' a = some o := fun a o q i => by
   cases e : H a with
   | none => rw [zn e]; exact tp a o q i
   | some u =>
     rw [zs e]
     have := hh a u e
     rw [q] at this; cases this
     exact S.tp a o e i
 have r' : bV K CL H' Z' t v fp := by
   rcases c with c | c
   . have : Z' = W' := by
       funext a
       cases e : H a with
       | none => exact zn e
       | some u =>
         rw [zs e]
         cases q : W' a with
         | none =>
           cases q2 : Z a with
           | none => rfl
           | some o => rw [ww a o (zw a o q2)] at q; cases q
         | some o =>
           cases q2 : W a with
           | none => rw [new a o q q2] at e; cases e
           | some o2 =>
             have := ww a o2 q2
             rw [q] at this; cases this
             rw [← c]; exact q2
     rw [this]; exact r
   . refine bV.clean (fun a xs h => ?_) (fun {d v} k h => ?_) c r
     . exact Qt a _ (wh a _ h) rfl
     . exact aR.g6 (H := H') Qt k (h.mono wh)
 obtain ⟨f0, g0, e0, r0, TQ, k0⟩ := S.rep
 have old : ∀ a ∈ f0 ++ g0, ∃ o, H a = some o := fun a ha => (VZ.mp ha).elim (e0.there a) (r0.there a)
 have keep : ∀ a ∈ f0 ++ g0, H' a = H a := fun a ha => by
   obtain ⟨o, e⟩ := old a ha
   rw [e]; exact hh a o e
 refine ⟨Z', sz, ⟨⟨f0, fp ++ g0, e0.mono sz (fun a ha => keep a (VQ _ ha)), .cons r' (r0.mono sz fun a ha => keep a (Vw _ ha)), ?_, fun a ha => ?_⟩, S.bh.trans hh, S.zz.trans sz, fun a o q => wh a o (TN a o q), fun a o q z => ?_, Qt, S.tab⟩⟩
 . have hp : (f0 ++ (fp ++ g0)).Perm (fp ++ (f0 ++ g0)) := by
     rw [← VA, ← VA]
     exact Wj.append_right g0
   refine hp.nodup_iff.mpr (Wm.mpr ⟨nd, TQ, fun a ha c hc e => ?_⟩)
   subst e
   obtain ⟨o, q⟩ := old a hc
   rw [(own a ha).2] at q; cases q
 . have : a ∈ f0 ++ g0 \/ a ∈ fp := by
     simp only [VZ] at ha ⊢
     rcases ha with h | h | h
     . exact .inl (.inl h)
     . exact .inr h
     . exact .inl (.inr h)
   rcases this with h | h
   . obtain ⟨o, q⟩ := old a h
     exact ⟨by rw [zs q]; exact (k0 a h).1, (k0 a h).2⟩
   . exact ⟨by rw [zn (own a h).2]; exact (own a h).1, S.bh.free (own a h).2⟩
 . cases e : H a with
   | none => exact S.bh.free e
   | some u => rw [zs e] at q; exact S.new a o q z
end
section
variable {X : Cx} {CL : Str -> Addr} {b : Bx} {δ δ1 δ2 δ3 : List (Option T)} {e e1 e2 : Expr} {t t1 t2 : T} {d d1 d2 : D} {pos : Pos}
theorem HN (h : bY X CL b e δ t δ1) : bW X CL b e δ t.cT δ1 := fun H Z σ ts vs Q S k => h H Z σ ts vs Q S fun v H' Z' z s S' => k v H' Z' z s S'.pop S'.view
theorem ah (h : bY X CL b e δ (.sh d) δ1) : bW X CL b e δ d δ1 := by have := HN h; rwa [T.cT] at this
theorem cF (h : bW X CL b e δ d δ1) (i : d.g6 = true) : bY X CL b e δ (.sh d) δ1 := fun H Z σ ts vs Q S k => h H Z σ ts vs Q S fun v H' Z' z s S' r => k v H' Z' z s (S'.push (aR.g6 S'.tp i r))
theorem xU (h : bY X CL b e δ t δ1) : bY X CL b e δ (.sh t.cT) δ1 := fun H Z σ ts vs Q S k => h H Z σ ts vs Q S fun v H' Z' z s S' => by
 obtain ⟨Z2, z2, S2⟩ := S'.Bo
 exact k v H' Z2 (z.trans z2) s S2
theorem ai {i : Int} {j : Nat} : bY X CL b (.Constant (.int i) j pos) δ (.sh (.int i)) δ := fun H Z σ ts vs Q S k => cL IE (k _ _ Z (.refl _) (.refl _) (S.push (.int i)))
theorem bF {x : Str} {j : Nat} : bY X CL b (.Constant (.str x) j pos) δ (.sh (.str x)) δ := fun H Z σ ts vs Q S k => cL IG (k _ _ Z (.refl _) (.refl _) (S.push (.str x)))
section
variable (i : Nat) {x : Str} (hi : X.N[i]? = some x := by rfl) (hv : Iw X.env.scope x := by first | exact Or.inl rfl | exact Or.inr (Or.inl rfl) | exact Or.inr (Or.inr rfl)) (hd : (x == ("__debug__" : Str)) = false := by decide) (gY : (x == ("__classdict__" : Str)) = false := by decide)
include hi hv hd gY
theorem JC (h : δ[i]? = some (some (.sh d)) := by rfl) : bY X CL b (.Name x pos) δ (.sh d) δ := fun H Z σ ts vs Q S k => by
 obtain ⟨v, e, r⟩ := S.HL h
 exact cL (lY hi hv hd gY) ⟨v, e, k v H Z (.refl _) (.refl _) (S.push r)⟩
theorem Ei (h : δ[i]? = some (some t) := by rfl) : bY X CL b (.Name x pos) δ t (δ.set i none) := fun H Z σ ts vs Q S k => by
 obtain ⟨v, e, S'⟩ := S.move h
 exact cL (lY hi hv hd gY) ⟨v, e, k v H Z (.refl _) (.refl _) S'⟩
theorem JD (h : δ[i]? = some (some t) := by rfl) : bW X CL b (.Name x pos) δ t.cT δ := fun H Z σ ts vs Q S k => by
 obtain ⟨v, e, r⟩ := S.look h
 exact cL (lY hi hv hd gY) ⟨v, e, k v H Z (.refl _) (.refl _) S r⟩
end
def JF : D -> Option V
 | .non => some .non
 | .bl b => some (.bl b)
 | .int i => some (.int i)
 | .str x => some (.str x)
 | _ => none
theorem aR.sc {K : PySem.W.Frag} {Z : Hp} {d : D} {v w : V} (r : aR K CL Z d v) (h : JF d = some w) : v = w := by
 cases r <;> first | (exact VR h) | (cases h)
theorem Ej {K : PySem.W.Frag} {Z : Hp} {d : D} {w : V} (h : JF d = some w) : aR K CL Z d w := by
 cases d <;> first | (cases h; constructor) | (cases h)
theorem kJ {op : Operator} {r : R2} {w1 w2 w : V} (ho : mh X (binaryOp op) r) (h1 : bW X CL b e1 δ d1 δ1) (h2 : bW X CL b e2 δ1 d2 δ2) (s1 : JF d1 = some w1) (s2 : JF d2 = some w2) (s3 : JF d = some w)
   (hr : ∀ (H : Hp) (Q : VK), Q w H -> r w1 w2 H Q) : bY X CL b (.BinOp e1 op e2 pos) δ (.sh d) δ2 := fun H Z σ ts vs Q S k => by
 refine cL (A6 ho cU cU) (h1 H Z σ ts vs _ S fun v1 H1 Z1 z1 k1 S1 r1 => h2 H1 Z1 σ ts vs _ S1 fun v2 H2 Z2 z2 k2 S2 r2 => ?_)
 rw [r1.sc s1, r2.sc s2]
 exact hr H2 Q (k w H2 Z2 (z1.trans z2) (k1.trans k2) (S2.push (Ej s3)))
theorem cO {i j : Int} (h1 : bW X CL b e1 δ (.int i) δ1) (h2 : bW X CL b e2 δ1 (.int j) δ2) : bY X CL b (.BinOp e1 .Add e2 pos) δ (.sh (.int (i + j))) δ2 := kJ Jd h1 h2 rfl rfl rfl fun _ _ q => ⟨i, j, rfl, rfl, q⟩
theorem i6 {i j : Int} (h1 : bW X CL b e1 δ (.int i) δ1) (h2 : bW X CL b e2 δ1 (.int j) δ2) : bY X CL b (.BinOp e1 .Sub e2 pos) δ (.sh (.int (i - j))) δ2 := kJ Je h1 h2 rfl rfl rfl fun _ _ q => ⟨i, j, rfl, rfl, q⟩
theorem kK {i j : Int} (h1 : bW X CL b e1 δ (.int i) δ1) (h2 : bW X CL b e2 δ1 (.int j) δ2) (c : DY i j) : bY X CL b (.BinOp e1 .Mult e2 pos) δ (.sh (.int (i * j))) δ2 := kJ Jf h1 h2 rfl rfl rfl fun _ _ q => ⟨i, j, rfl, rfl, c, q⟩
theorem aL {i j : Int} (h1 : bW X CL b e1 δ (.int i) δ1) (h2 : bW X CL b e2 δ1 (.int j) δ2) (c : 0 < j) : bY X CL b (.BinOp e1 .Mod e2 pos) δ (.sh (.int (i % j))) δ2 := kJ Jg h1 h2 rfl rfl rfl fun _ _ q => ⟨i, j, rfl, rfl, c, q⟩
theorem aW {i j : Int} (h1 : bW X CL b e1 δ (.int i) δ1) (h2 : bW X CL b e2 δ1 (.int j) δ2) (c : Mh i j) : bY X CL b (.BinOp e1 .FloorDiv e2 pos) δ (.sh (.int (i / j))) δ2 := kJ DZ h1 h2 rfl rfl rfl fun _ _ q => ⟨i, j, rfl, rfl, c, q⟩
theorem xV {i j : Int} (h1 : bW X CL b e1 δ (.int i) δ1) (h2 : bW X CL b e2 δ1 (.int j) δ2) (c : Mi i j) : bY X CL b (.BinOp e1 .Pow e2 pos) δ (.sh (.int (i ^ j.toNat))) δ2 := kJ Jh h1 h2 rfl rfl rfl fun _ _ q => ⟨i, j, rfl, rfl, c, q⟩
theorem i7 {x y : Str} (h1 : bW X CL b e1 δ (.str x) δ1) (h2 : bW X CL b e2 δ1 (.str y) δ2) (c : x.length + y.length <= sizeLine) : bY X CL b (.BinOp e1 .Add e2 pos) δ (.sh (.str (x ++ y))) δ2 := kJ xK h1 h2 rfl rfl rfl fun _ _ q => ⟨x, y, rfl, rfl, c, q⟩
theorem oY {op : CmpOp} {r : R2} {p : Bool} {w1 w2 : V} (ho : mh X (compareOp op) r) (h1 : bW X CL b e1 δ d1 δ1) (h2 : bW X CL b e2 δ1 d2 δ2) (s1 : JF d1 = some w1) (s2 : JF d2 = some w2)
   (hr : ∀ (H : Hp) (Q : VK), Q (.bl p) H -> r w1 w2 H Q) (hm : behindInMarks op e2 = false) : kU X CL b (.Compare e1 [op] [e2] pos) δ p δ2 /\ bY X CL b (.Compare e1 [op] [e2] pos) δ (.sh (.bl p)) δ2 := by
 constructor
 . intro H Z σ ts vs Q S k
   refine vO (ju ho cU cU hm) (h1 H Z σ ts vs _ S fun v1 H1 Z1 z1 k1 S1 r1 => h2 H1 Z1 σ ts vs _ S1 fun v2 H2 Z2 z2 k2 S2 r2 => ?_)
   rw [r1.sc s1, r2.sc s2]
   exact hr H2 _ ⟨p, rfl, k H2 Z2 (z1.trans z2) (k1.trans k2) S2⟩
 . intro H Z σ ts vs Q S k
   refine cL (jt ho cU cU hm) (h1 H Z σ ts vs _ S fun v1 H1 Z1 z1 k1 S1 r1 => h2 H1 Z1 σ ts vs _ S1 fun v2 H2 Z2 z2 k2 S2 r2 => ?_)
   rw [r1.sc s1, r2.sc s2]
   exact hr H2 _ (k _ H2 Z2 (z1.trans z2) (k1.trans k2) (S2.push (.bl p)))
theorem eL {i j : Int} (h1 : bW X CL b e1 δ (.int i) δ1) (h2 : bW X CL b e2 δ1 (.int j) δ2) : kU X CL b (.Compare e1 [.Eq] [e2] pos) δ (decide (i = j)) δ2 /\ bY X CL b (.Compare e1 [.Eq] [e2] pos) δ (.sh (.bl (decide (i = j)))) δ2 :=
 oY A8 h1 h2 rfl rfl (fun _ _ q => ⟨rfl, by rw [show decide (V.int i = V.int j) = decide (i = j) by simp]; exact q⟩) (gZ _)
theorem xW {i j : Int} (h1 : bW X CL b e1 δ (.int i) δ1) (h2 : bW X CL b e2 δ1 (.int j) δ2) : kU X CL b (.Compare e1 [.NotEq] [e2] pos) δ (!decide (i = j)) δ2 /\ bY X CL b (.Compare e1 [.NotEq] [e2] pos) δ (.sh (.bl (!decide (i = j)))) δ2 :=
 oY Ml h1 h2 rfl rfl (fun _ _ q => ⟨rfl, by rw [show decide (V.int i = V.int j) = decide (i = j) by simp]; exact q⟩) (gZ _)
theorem su {i j : Str} (h1 : bW X CL b e1 δ (.str i) δ1) (h2 : bW X CL b e2 δ1 (.str j) δ2) : kU X CL b (.Compare e1 [.Eq] [e2] pos) δ (decide (i = j)) δ2 /\ bY X CL b (.Compare e1 [.Eq] [e2] pos) δ (.sh (.bl (decide (i = j)))) δ2 :=
 oY A8 h1 h2 rfl rfl (fun _ _ q => ⟨rfl, by rw [show decide (V.str i = V.str j) = decide (i = j) by simp]; exact q⟩) (gZ _)
theorem HP {i j : Int} (h1 : bW X CL b e1 δ (.int i) δ1) (h2 : bW X CL b e2 δ1 (.int j) δ2) : kU X CL b (.Compare e1 [.Lt] [e2] pos) δ (decide (i < j)) δ2 /\ bY X CL b (.Compare e1 [.Lt] [e2] pos) δ (.sh (.bl (decide (i < j)))) δ2 := oY Mm h1 h2 rfl rfl (fun _ _ q => ⟨i, j, rfl, rfl, q⟩) (gZ _)
theorem MJ {i j : Int} (h1 : bW X CL b e1 δ (.int i) δ1) (h2 : bW X CL b e2 δ1 (.int j) δ2) : kU X CL b (.Compare e1 [.LtE] [e2] pos) δ (decide (i <= j)) δ2 /\ bY X CL b (.Compare e1 [.LtE] [e2] pos) δ (.sh (.bl (decide (i <= j)))) δ2 := oY Mp h1 h2 rfl rfl (fun _ _ q => ⟨i, j, rfl, rfl, q⟩) (gZ _)
theorem HQ {i j : Int} (h1 : bW X CL b e1 δ (.int i) δ1) (h2 : bW X CL b e2 δ1 (.int j) δ2) : kU X CL b (.Compare e1 [.Gt] [e2] pos) δ (decide (j < i)) δ2 /\ bY X CL b (.Compare e1 [.Gt] [e2] pos) δ (.sh (.bl (decide (j < i)))) δ2 := oY Mq h1 h2 rfl rfl (fun _ _ q => ⟨i, j, rfl, rfl, q⟩) (gZ _)
end
section
variable {K : PySem.W.Frag} {CL : Str -> Addr} {H Z : Hp}
theorem aJ.split : ∀ {as bs : List T} {us ws : List V} {gp : List Addr}, as.length = us.length -> aJ K CL H Z (as ++ bs) (us ++ ws) gp -> ∃ g1 g2, gp = g1 ++ g2 /\ aJ K CL H Z as us g1 /\ aJ K CL H Z bs ws g2
 | [], _, [], _, gp, _, r => ⟨[], gp, rfl, .nil, r⟩
 | [], _, _ :: _, _, _, h, _ => by simp at h
 | _ :: _, _, [], _, _, h, _ => by simp at h
 | a :: as, bs, u :: us, ws, gp, h, r => by
   cases r with
   | @cons _ _ _ _ f1 f2 r1 r2 =>
     obtain ⟨g1, g2, e, h1, h2⟩ := aJ.split (as := as) (us := us) (by simpa using h) r2
     exact ⟨f1 ++ g1, g2, by rw [e, VA], .cons r1 h1, h2⟩
theorem aJ.app : ∀ {as bs : List T} {us ws : List V} {g1 g2 : List Addr}, aJ K CL H Z as us g1 -> aJ K CL H Z bs ws g2 -> aJ K CL H Z (as ++ bs) (us ++ ws) (g1 ++ g2)
 | _, _, _, _, _, _, .nil, q => q
 | _, _, _, _, _, _, .cons (fp := f1) (gp := f2) r t, q => by
   rw [VA]
   exact .cons r (aJ.app t q)
theorem aJ.rev : ∀ {as : List T} {us : List V} {g : List Addr}, aJ K CL H Z as.reverse us.reverse g -> ∃ g', aJ K CL H Z as us g' /\ g'.Perm g
 | [], [], g, r => by
   have r' : aJ K CL H Z [] [] g := r
   cases r'
   exact ⟨[], .nil, Xm _⟩
 | [], u :: us, g, r => by have := r.length; simp at this
 | a :: as, [], g, r => by have := r.length; simp at this
 | a :: as, u :: us, g, r => by
   rw [W3, W3] at r
   have hl := r.length
   obtain ⟨g1, g2, e, r1, r2⟩ := aJ.split (by simp at hl ⊢; omega) r
   subst e
   obtain ⟨g', r', p⟩ := aJ.rev r1
   cases r2 with
   | @cons _ _ _ _ f1 f2 q1 q2 =>
     cases q2
     refine ⟨f1 ++ g', .cons q1 r', ?_⟩
     rw [Wx]
     exact (Wq f1 p).trans Wj
theorem f7 : ∀ (ds : List D), T.fu (ds.map T.sh) = ds
 | [] => rfl
 | d :: ds => by rw [Wg, T.fu, f7 ds, T.cT]
end
section
variable {K : PySem.W.Frag} {CL : Str -> Addr} {b : Bx} {H H' Z Z' : Hp} {δ δ' : List (Option T)} {σ σ' : L2.St} {ts tl : List T} {vs us : List V} {t : T} {v : V}
theorem bK.Bq {p : Addr} (S : bK K CL b H Z δ σ (tl.reverse ++ ts) (us.reverse ++ vs)) (hl : us.length = tl.length) (hp : H p = none) :
   ay Z (upd Z p (.tup us)) /\ ay H (upd H p (.tup us)) /\ bK K CL b (upd H p (.tup us)) (upd Z p (.tup us)) δ σ (.tup tl :: ts) (.ref p :: vs) := by
 obtain ⟨fp, gp, e, r, nd, k⟩ := S.rep
 obtain ⟨g1, g2, eg, r1, r2⟩ := aJ.split (by simp [hl]) r
 subst eg
 obtain ⟨g', r', pm⟩ := r1.rev
 have zp : Z p = none := S.zh.free hp
 have sz : ay Z (upd Z p (.tup us)) := ay.upd zp
 have sh : ay H (upd H p (.tup us)) := ay.upd hp
 have keep : ∀ a ∈ fp ++ (g1 ++ g2), a ≠ p := fun a ha => by
   have : ∃ o, H a = some o := by
     rcases VZ.mp ha with h | h
     . exact e.there a h
     . exact r.there a h
   obtain ⟨o, q⟩ := this
   exact az q hp
 have HR : (fp ++ (g' ++ g2)).Perm (fp ++ (g1 ++ g2)) := (pm.append_right g2).append_left fp
 have kk : ∀ a ∈ fp ++ (g' ++ g2), a ≠ p := fun a ha => keep a (HR.mem_iff.mp ha)
 refine ⟨sz, sh, ⟨⟨fp, g' ++ g2, e.mono sz (fun a ha => au (keep a (VQ _ ha))), .cons (.tup aK (r'.mono sz fun a ha => au (kk a (by simp [ha])))) (r2.mono sz fun a ha => au (keep a (by simp [ha]))), HR.nodup_iff.mpr nd, fun a ha => ?_⟩, S.bh.trans sh, S.zz.trans sz, fun a o q => ?_, fun a o q z => ?_, fun a o q i => ?_, S.tab⟩⟩
 . exact ⟨by rw [au (kk a ha)]; exact (k a (HR.mem_iff.mp ha)).1, (k a (HR.mem_iff.mp ha)).2⟩
 . by_cases ha : a = p
   . subst ha; rw [aK] at q ⊢; exact q
   . rw [au ha] at q ⊢; exact S.zh a o q
 . by_cases ha : a = p
   . subst ha; exact S.bh.free hp
   . rw [au ha] at q; exact S.new a o q z
 . by_cases ha : a = p
   . subst ha; rw [aK] at q ⊢; exact q
   . rw [au ha] at q ⊢; exact S.tp a o q i
theorem bK.mq {p : Addr} {g0 : List Addr} (S : bK K CL b H Z δ σ (tl.reverse ++ ts) (us.reverse ++ vs)) (hl : us.length = tl.length) (hp : H p = none) :
   ay H (upd H p (.lst us)) /\ bK K CL b (upd H p (.lst us)) Z δ σ (.lst tl :: ts) (.ref p :: vs) := by
 obtain ⟨fp, gp, e, r, nd, k⟩ := S.rep
 obtain ⟨g1, g2, eg, r1, r2⟩ := aJ.split (by simp [hl]) r
 subst eg
 obtain ⟨g', r', pm⟩ := r1.rev
 have zp : Z p = none := S.zh.free hp
 have sh : ay H (upd H p (.lst us)) := ay.upd hp
 have keep : ∀ a ∈ fp ++ (g1 ++ g2), a ≠ p := fun a ha => by
   have : ∃ o, H a = some o := by
     rcases VZ.mp ha with h | h
     . exact e.there a h
     . exact r.there a h
   obtain ⟨o, q⟩ := this
   exact az q hp
 have HR : (fp ++ (g' ++ g2)).Perm (fp ++ (g1 ++ g2)) := (pm.append_right g2).append_left fp
 have kk : ∀ a ∈ fp ++ (g' ++ g2), a ≠ p := fun a ha => keep a (HR.mem_iff.mp ha)
 have RV : (fp ++ ((p :: g') ++ g2)).Perm (p :: (fp ++ (g' ++ g2))) := by
   rw [V7]; exact List.perm_middle
 refine ⟨sh, ⟨⟨fp, (p :: g') ++ g2, e.mono (.refl _) (fun a ha => au (keep a (VQ _ ha))), .cons (.lst aK (r'.mono (.refl _) fun a ha => au (kk a (by simp [ha])))) (r2.mono (.refl _) fun a ha => au (keep a (by simp [ha]))), ?_, fun a ha => ?_⟩, S.bh.trans sh, S.zz, S.zh.trans sh, S.new, fun a o q i => ?_, S.tab⟩⟩
 . refine RV.nodup_iff.mpr (WZ.mpr ⟨fun h => kk p h rfl, HR.nodup_iff.mpr nd⟩)
 . rcases VC.mp (RV.mem_iff.mp ha) with h | h
   . subst h; exact ⟨zp, S.bh.free hp⟩
   . exact k a (HR.mem_iff.mp h)
 . by_cases ha : a = p
   . subst ha; rw [aK] at q; cases q; cases i
   . rw [au ha] at q; exact S.tp a o q i
end
section
variable {X : Cx} {CL : Str -> Addr} {b : Bx} {δ δ1 δ2 δ3 : List (Option T)} {e e1 e2 e3 : Expr} {es : List Expr} {t t1 t2 : T} {d d1 d2 : D} {tl : List T} {ds : List D} {p q : Bool} {pos : Pos}
theorem eZ : xT X CL b [] δ [] δ := fun H Z σ ts vs Q S k => zY eK (k [] H Z rfl (.refl _) (.refl _) S)
theorem fB (h1 : bY X CL b e δ t δ1) (h2 : xT X CL b es δ1 tl δ2) (hs : starEach (e :: es) X.env = (false, eval e X.env) :: starEach es X.env := by exact bR rfl) : xT X CL b (e :: es) δ (t :: tl) δ2 := fun H Z σ ts vs Q S k =>
 zY (cA cU Eg hs) (h1 H Z σ ts vs _ S fun v H1 Z1 z1 k1 S1 => h2 H1 Z1 σ _ _ _ S1 fun us H2 Z2 hl z2 k2 S2 => k (v :: us) H2 Z2 (by simp [hl]) (z1.trans z2) (k1.trans k2) (by
   rw [W3, W3, VA, VA]
   exact S2))
theorem aO : HM X CL b [] δ [] δ := fun H Z σ ts vs Q S k => zY eK (k [] H Z (.refl _) (.refl _) S .nil)
theorem ao (h1 : bW X CL b e δ d δ1) (h2 : HM X CL b es δ1 ds δ2) (hs : starEach (e :: es) X.env = (false, eval e X.env) :: starEach es X.env := by exact bR rfl) : HM X CL b (e :: es) δ (d :: ds) δ2 := fun H Z σ ts vs Q S k =>
 zY (cA cU Eg hs) (h1 H Z σ ts vs _ S fun v H1 Z1 z1 k1 S1 r1 => h2 H1 Z1 σ _ _ _ S1 fun us H2 Z2 z2 k2 S2 r2 => k (v :: us) H2 Z2 (z1.trans z2) (k1.trans k2) S2 (.cons (r1.mono k2) r2))
theorem JG {j : Nat} (h : xT X CL b es δ tl δ1) (hl : tl.length <= sizeLine) : bY X CL b (.Tuple es j pos) δ (.tup tl) δ1 := fun H Z σ ts vs Q S k =>
 cL (Jk Eg) (h H Z σ ts vs _ S fun us H1 Z1 hu z1 k1 S1 => ⟨by rw [hu]; exact hl, fun p hp => by
   obtain ⟨a, c, S2⟩ := S1.Bq hu hp
   exact k _ _ _ (z1.trans a) (k1.trans c) S2⟩)
theorem bL {j : Nat} (h : xT X CL b es δ (ds.map T.sh) δ1) (hl : ds.length <= sizeLine) : bY X CL b (.Tuple es j pos) δ (.sh (.tup ds)) δ1 := by
 have := xU (JG (pos := pos) (j := j) h (by simpa using hl))
 rwa [T.cT, f7] at this
theorem e7 (h : xT X CL b es δ tl δ1) (hl : tl.length <= sizeLine) : bY X CL b (.List es pos) δ (.lst tl) δ1 := fun H Z σ ts vs Q S k =>
 cL (Jl Eg) (h H Z σ ts vs _ S fun us H1 Z1 hu z1 k1 S1 => ⟨by rw [hu]; exact hl, fun p hp => by
   obtain ⟨c, S2⟩ := S1.mq (g0 := []) hu hp
   exact k _ _ _ z1 (k1.trans c) S2⟩)
theorem HS (h : bY X CL b e δ (.sh (.bl p)) δ1) (he : ∀ whole, isTrue e X.env whole = (do let v ← whole; standAt e.pos; holding [v] (truthy v)) := by intro _; rfl) : kU X CL b e δ p δ1 := fun H Z σ ts vs Q S k =>
 vO (II cU he) (h H Z σ ts vs _ S fun v H1 Z1 z1 k1 S1 => ⟨p, by have := S1.view; rw [T.cT] at this; exact this.sc rfl, k H1 Z1 z1 k1 S1.pop⟩)
theorem Br (h : kU X CL b e δ p δ1) : kU X CL b (.UnaryOp .Not e pos) δ (!p) δ1 := fun H Z σ ts vs Q S k => vO (IL Jy) (h H Z σ ts vs _ S fun H1 Z1 z1 k1 S1 => k H1 Z1 z1 k1 S1)
def JH (X : Cx) (e : Expr) : TT := fun σ H Q => ∀ (whole : Sem Value) (pins : List (Addr × Obj)) (s : Shared), Inv X pins σ H s -> wpAny (model X.prog X.w) X.A (isTrue e X.env whole) (TP X pins σ Q) X.xe s
theorem RW {e : Expr} : PW X e (JH X e) := fun whole pins s _ _ _ I h => h whole pins s I
def JK (X : Cx) (CL : Str -> Addr) (b : Bx) (e : Expr) (δ : List (Option T)) (p : Bool) (δ' : List (Option T)) : Prop :=
 ∀ (H Z : Hp) (σ : L2.St) (ts : List T) (vs : List V) (Q : Bool -> Hp -> Prop), bK X.K CL b H Z δ σ ts vs -> (∀ H' Z', ay Z Z' -> ay H H' -> bK X.K CL b H' Z' δ' σ ts vs -> Q p H') -> JH X e σ H Q
theorem Ek {t : TT} (h : PW X e t) {σ : L2.St} {H : Hp} {Q : Bool -> Hp -> Prop} (q : t σ H Q) : JH X e σ H Q := fun whole pins s I => h whole pins s σ H Q I q
theorem El (h : JK X CL b e δ p δ1) : kU X CL b e δ p δ1 := fun H Z σ ts vs Q S k pins s I => h H Z σ ts vs Q S k _ pins s I
theorem Em (h : kU X CL b e δ p δ1) : JK X CL b (.BoolOp .And [e] pos) δ p δ1 := fun H Z σ ts vs Q S k => Ek (DU Jy) (h H Z σ ts vs _ S k)
theorem xX (h : kU X CL b e δ p δ1) : JK X CL b (.BoolOp .Or [e] pos) δ p δ1 := fun H Z σ ts vs Q S k => Ek (IJ Jy) (h H Z σ ts vs _ S k)
theorem JL (h : kU X CL b e δ p δ1) (h2 : p = true -> JK X CL b (.BoolOp .And (e2 :: es) pos) δ1 q δ1) : JK X CL b (.BoolOp .And (e :: e2 :: es) pos) δ (p && q) δ1 := fun H Z σ ts vs Q S k =>
 Ek (IK Jy RW) (h H Z σ ts vs _ S fun H1 Z1 z1 k1 S1 => by
   cases p with
   | true => exact Ec (h2 rfl H1 Z1 σ ts vs _ S1 fun H2 Z2 z2 k2 S2 => k H2 Z2 (z1.trans z2) (k1.trans k2) S2)
   | false => exact Eb (k H1 Z1 z1 k1 S1))
theorem yP (h : kU X CL b e δ p δ1) (h2 : p = false -> JK X CL b (.BoolOp .Or (e2 :: es) pos) δ1 q δ1) : JK X CL b (.BoolOp .Or (e :: e2 :: es) pos) δ (p || q) δ1 := fun H Z σ ts vs Q S k =>
 Ek (LY Jy RW) (h H Z σ ts vs _ S fun H1 Z1 z1 k1 S1 => by
   cases p with
   | true => exact Ec (k H1 Z1 z1 k1 S1)
   | false => exact Eb (h2 rfl H1 Z1 σ ts vs _ S1 fun H2 Z2 z2 k2 S2 => k H2 Z2 (z1.trans z2) (k1.trans k2) S2))
theorem n8 {K : PySem.W.Frag} {Z : Hp} {vs : List V} {k : Int} (r : aA K CL Z ds vs) (h : nO ds k = some d) : ∃ v, nO vs k = some v /\ aR K CL Z d v := by
 unfold nO at h ⊢
 rw [← r.length]
 cases e : zU ds.length k with
 | none => rw [e] at h; cases h
 | some j =>
   rw [e] at h
   exact r.get h
theorem e9 {k : Int} (h1 : bW X CL b e1 δ (.tup ds) δ1) (h2 : bW X CL b e2 δ1 (.int k) δ2) (hk : nO ds k = some d) (hs : jw e2 := by exact fun _ _ => rfl) : bW X CL b (.Subscript e1 e2 pos) δ d δ2 := fun H Z σ ts vs Q S kk =>
 cL (vH Bh cU cU hs) (h1 H Z σ ts vs _ S fun v1 H1 Z1 z1 k1 S1 r1 => h2 H1 Z1 σ ts vs _ S1 fun v2 H2 Z2 z2 k2 S2 r2 => by
   have JM := r1.mono k2
   cases JM with
   | tup hq rr =>
     obtain ⟨v, hv, rv⟩ := n8 rr hk
     exact ⟨_, _, k, v, rfl, r2.sc rfl, hq, hv, kk v H2 Z2 (z1.trans z2) (k1.trans k2) S2 rv⟩)
theorem aX {k : Int} (h1 : bW X CL b e1 δ (.lst ds) δ1) (h2 : bW X CL b e2 δ1 (.int k) δ2) (hk : nO ds k = some d) (hs : jw e2 := by exact fun _ _ => rfl) : bW X CL b (.Subscript e1 e2 pos) δ d δ2 := fun H Z σ ts vs Q S kk =>
 cL (vH yN cU cU hs) (h1 H Z σ ts vs _ S fun v1 H1 Z1 z1 k1 S1 r1 => h2 H1 Z1 σ ts vs _ S1 fun v2 H2 Z2 z2 k2 S2 r2 => by
   have JM := r1.mono k2
   cases JM with
   | lst hq rr =>
     obtain ⟨v, hv, rv⟩ := n8 rr hk
     exact ⟨_, _, k, v, rfl, r2.sc rfl, hq, hv, kk v H2 Z2 (z1.trans z2) (k1.trans k2) S2 rv⟩)
theorem Bs {k : Int} {x : Str} {c : Nat} (h1 : bW X CL b e1 δ (.str x) δ1) (h2 : bW X CL b e2 δ1 (.int k) δ2) (hl : x.length <= sizeLine) (hk : nO x.cps.toList k = some c) (hs : jw e2 := by exact fun _ _ => rfl) : bY X CL b (.Subscript e1 e2 pos) δ (.sh (.str ⟨#[c]⟩)) δ2 := fun H Z σ ts vs Q S kk =>
 cL (vH Jq cU cU hs) (h1 H Z σ ts vs _ S fun v1 H1 Z1 z1 k1 S1 r1 => h2 H1 Z1 σ ts vs _ S1 fun v2 H2 Z2 z2 k2 S2 r2 =>
   ⟨x, k, c, r1.sc rfl, r2.sc rfl, hl, hk, kk _ H2 Z2 (z1.trans z2) (k1.trans k2) (S2.push (.str _))⟩)
theorem JN {k : Int} (h1 : bY X CL b e1 δ (.sh (.tup ds)) δ1) (h2 : bW X CL b e2 δ1 (.int k) δ2) (hk : nO ds k = some d) (hs : jw e2 := by exact fun _ _ => rfl) : bY X CL b (.Subscript e1 e2 pos) δ (.sh d) δ2 := fun H Z σ ts vs Q S kk =>
 cL (vH Bh cU cU hs) (h1 H Z σ ts vs _ S fun v1 H1 Z1 z1 k1 S1 => h2 H1 Z1 σ _ _ _ S1 fun v2 H2 Z2 z2 k2 S2 r2 => by
   obtain ⟨fp, gp, _, r, _, _⟩ := S2.rep
   cases r with
   | cons r _ =>
     cases r with
     | sh r =>
       cases r with
       | tup hq rr =>
         obtain ⟨v, hv, rv⟩ := n8 rr hk
         exact ⟨_, _, k, v, rfl, r2.sc rfl, ay.Lq S2.zh hq, hv, kk v H2 Z2 (z1.trans z2) (k1.trans k2) (S2.pop.push rv)⟩)
theorem JQ {k : Int} (h1 : bY X CL b e1 δ (.sh (.lst ds)) δ1) (h2 : bW X CL b e2 δ1 (.int k) δ2) (hk : nO ds k = some d) (hs : jw e2 := by exact fun _ _ => rfl) : bY X CL b (.Subscript e1 e2 pos) δ (.sh d) δ2 := fun H Z σ ts vs Q S kk =>
 cL (vH yN cU cU hs) (h1 H Z σ ts vs _ S fun v1 H1 Z1 z1 k1 S1 => h2 H1 Z1 σ _ _ _ S1 fun v2 H2 Z2 z2 k2 S2 r2 => by
   obtain ⟨fp, gp, _, r, _, _⟩ := S2.rep
   cases r with
   | cons r _ =>
     cases r with
     | sh r =>
       cases r with
       | lst hq rr =>
         obtain ⟨v, hv, rv⟩ := n8 rr hk
         exact ⟨_, _, k, v, rfl, r2.sc rfl, S2.zh.seq hq, hv, kk v H2 Z2 (z1.trans z2) (k1.trans k2) (S2.pop.push rv)⟩)
end
section
variable {K : PySem.W.Frag} {CL : Str -> Addr} {b : Bx} {H H' Z Z' : Hp} {δ δ' : List (Option T)} {σ σ' : L2.St} {ts tl : List T} {vs us : List V} {t : T} {v : V}
theorem bK.oZ : ∀ {ds : List D} {us : List V} {ts : List T} {vs : List V}, aA K CL Z ds us -> bK K CL b H Z δ σ ts vs -> bK K CL b H Z δ σ ((ds.map T.sh).reverse ++ ts) (us.reverse ++ vs)
 | _, _, _, _, .nil, S => S
 | _, _, ts, vs, .cons (d := d) (v := v) (ds := ds) (vs := us) r t, S => by
   rw [Wg, W3, W3, VA, VA]
   exact bK.oZ t (S.push r)
end
section
variable {X : Cx} {CL : Str -> Addr} {b : Bx} {δ δ1 δ2 δ3 : List (Option T)} {e e1 e2 e3 : Expr} {es : List Expr} {t t1 t2 : T} {d d1 d2 : D} {tl : List T} {ds : List D} {p q : Bool} {pos pp : Pos}
theorem n9 (hm : X.mg "len" = none) (h : bW X CL b e δ (.lst ds) δ1) (hg : Gl X "len" := by rfl) (hs : starEach [e] X.env = (false, eval e X.env) :: starEach [] X.env := by exact bR rfl) (qB : (backTo pos (starEach ([] : List Expr) X.env)).any (·.1) = false := by rfl) : bY X CL b (.Call (.Name "len" pp) [e] [] pos) δ (.sh (.int ds.length)) δ1 := fun H Z σ ts vs Q S k =>
 cL (oW kZ hg hm PySem.boot_len (cA cU eK hs) (he := hs)) (h H Z σ ts vs _ S fun v H1 Z1 z1 k1 S1 r => by
   cases r with
   | lst hq rr => exact ⟨_, _, rfl, .inl hq, by rw [← rr.length]; exact k _ H1 Z1 z1 k1 (S1.push (.int _))⟩)
theorem En (hm : X.mg "len" = none) (h : bW X CL b e δ (.tup ds) δ1) (hg : Gl X "len" := by rfl) (hs : starEach [e] X.env = (false, eval e X.env) :: starEach [] X.env := by exact bR rfl) : bY X CL b (.Call (.Name "len" pp) [e] [] pos) δ (.sh (.int ds.length)) δ1 := fun H Z σ ts vs Q S k =>
 cL (oW kZ hg hm PySem.boot_len (cA cU eK hs) (he := hs)) (h H Z σ ts vs _ S fun v H1 Z1 z1 k1 S1 r => by
   cases r with
   | tup hq rr => exact ⟨_, _, rfl, .inr hq, by rw [← rr.length]; exact k _ H1 Z1 z1 k1 (S1.push (.int _))⟩)
theorem cM (hm : X.mg "list" = none) (h : bW X CL b e δ (.lst ds) δ1) (hi : D.bw ds = true) (hg : Gl X "list" := by rfl) (hv : bootBuiltins "list" = some (.type "list") := by rfl) (hs : starEach [e] X.env = (false, eval e X.env) :: starEach [] X.env := by exact bR rfl) : bY X CL b (.Call (.Name "list" pp) [e] [] pos) δ (.lst (ds.map T.sh)) δ1 := fun H Z σ ts vs Q S k =>
 cL (jv sr hg hm hv (cA cU eK hs) (he := hs)) (h H Z σ ts vs _ S fun v H1 Z1 z1 k1 S1 r => by
   cases r with
   | lst hq rr =>
     refine ⟨_, _, rfl, .inl hq, fun l hl => ?_⟩
     obtain ⟨c, S2⟩ := (bK.oZ (aA.g6 S1.tp hi rr) S1).mq (g0 := []) (by simp [rr.length]) hl
     exact k _ _ _ z1 (k1.trans c) S2)
def ni (K : PySem.W.Frag) (CL : Str -> Addr) {A : Type} (n : Nat) (arg : A -> List D) (Pre : A -> Prop) (res : A -> T) : Sp := fun vs H Q _ =>
 ∃ (W : Hp) (a : A), ay W H /\ (∀ c o, H c = some o -> fW o = true -> W c = some o) /\ aA K CL W (arg a) vs /\ (arg a).length = n /\ Pre a /\ iZ CL W ∧
   ∀ v H' W' fp, ay H H' -> ay W W' -> ay W' H' -> (∀ c o, W' c = some o -> W c = none -> H c = none) -> (∀ c o, H' c = some o -> fW o = true -> W' c = some o) →
     bV K CL H' W' (res a) v fp -> fp.Nodup -> (∀ c ∈ fp, W' c = none /\ H c = none) -> Q v H'
section
variable {A : Type} {k n : Nat} {f : Addr} {fd : FuncData} {ps : List Str} {arg : A -> List D} {Pre : A -> Prop} {res : A -> T} {x : Str}
theorem Eo (a : A) (F : bX X.prog X.w X.K X.mg X.base f6 k f fd ps (ni X.K CL n arg Pre res)) (hr : dg k X.A) (hm : X.mg x = some (.ref f)) (hk : PySem.W.keepIn X.K (.ref f) = true) (hb : Binds X.K fd ps [])
   (h : HM X CL b (e :: es) δ (arg a) δ1) (hn : (arg a).length = n) (hp : Pre a) (hc : (res a).clean = true) (hg : Gl X x)
   (qA : (x == ("__debug__" : Str)) = false := by decide) (he : starEach (e :: es) X.env = (false, eval e X.env) :: starEach es X.env := by exact bR rfl) (qB : (backTo pos (starEach es X.env)).any (·.1) = false := by rfl) :
   bY X CL b (.Call (.Name x pp) (e :: es) [] pos) δ (res a) δ1 := fun H Z σ ts vs Q S kk =>
 cL (D4 F hr hg hm hk hb .nil yO Eg qA he qB) (h H Z σ ts vs _ S fun us H1 Z1 z1 k1 S1 r => by
   rw [Wx]
   refine ⟨H1, a, .refl _, fun _ _ q _ => q, r, hn, hp, S1.z0, fun v H' W' fp hh ww wh nw tp rt nd own => ?_⟩
   obtain ⟨Z', z', S'⟩ := S1.back hh S1.zh ww wh nw tp rt nd own (.inr hc)
   exact kk v H' Z' (z1.trans z') (k1.trans hh) S')
end
variable {D D' : cC} {st : Stmt} {fc MK : List Stmt}
theorem Meets.to {K : PySem.W.Frag} {Z : Hp} {ts : List T} {vs : List V} {E : Ends} (M : Meets K CL b Z ts vs D E) (h1 : ∀ δ, D'.nx δ -> D.nx δ) (h2 : ∀ t δ, D'.rt t δ -> D.rt t δ) (h3 : ∀ δ, D'.bk δ -> D.bk δ) (h4 : ∀ δ, D'.ct δ -> D.ct δ) : Meets K CL b Z ts vs D' E :=
 ⟨fun _ _ _ _ s S k => M.nx _ _ _ _ s S (h1 _ k), fun _ _ _ _ _ _ s S k => M.rt _ _ _ _ _ _ s S (h2 _ _ k), fun _ _ _ _ s S k => M.bk _ _ _ _ s S (h3 _ k), fun _ _ _ _ s S k => M.ct _ _ _ _ s S (h4 _ k)⟩
theorem aD (h : D.nx δ) : eO X CL b [] δ D := fun H Z σ ts vs E S M => MD DV (M.nx δ σ H Z (.refl _) S h)
theorem dG (h : JB X CL b st δ { D with nx := fun δ1 => eO X CL b fc δ1 D }) : eO X CL b (st :: fc) δ D := fun H Z σ ts vs E S M =>
 MD (A3 TJ HK) (h H Z σ ts vs _ S ⟨fun δ' σ' H' Z' s S' k => k H' Z' σ' ts vs E S' (M.mono s), M.rt, M.bk, M.ct⟩)
theorem JR (h : bY X CL b e δ t δ1) (k : D.rt t δ1) : JB X CL b (.Return (some e) pos) δ D := fun H Z σ ts vs E S M => vP (IQ cU) (h H Z σ ts vs _ S fun v H1 Z1 z1 k1 S1 => M.rt t v H1 Z1 δ1 σ z1 S1 k)
theorem ML (h : kU X CL b e δ p δ1) (h1 : p = true -> eO X CL b fc δ1 D) (h2 : p = false -> eO X CL b MK δ1 D) : JB X CL b (.If e fc MK pos) δ D := fun H Z σ ts vs E S M =>
 vP (L1 Jy HK HK) (h H Z σ ts vs _ S fun H1 Z1 z1 k1 S1 => by
   cases p with
   | true => exact Ec (h1 rfl H1 Z1 σ ts vs E S1 (M.mono z1))
   | false => exact Eb (h2 rfl H1 Z1 σ ts vs E S1 (M.mono z1)))
theorem Bt (i : Nat) {x : Str} {pos' : Pos} (h : bY X CL b e δ t δ1) (k : D.nx (δ1.set i (some t))) (hl : i < δ1.length := by decide) (hN : X.N.Nodup := by assumption) (hi : X.N[i]? = some x := by rfl) (hx : Loc X.env.scope x := by first | exact .inl rfl | exact .inr rfl)
   (hs : swapsWith e (some (.Name x pos')) pos.line X.env = pure false := by rfl) (hf : X.fn x = true \/ X.env.scope.names.lookup x = some .local := by first | exact .inl rfl | exact .inr rfl | assumption) : JB X CL b (.Assign [.Name x pos'] e pos) δ D := fun H Z σ ts vs E S M =>
 vP (IX hN hi hx cU hs hf) (h H Z σ ts vs _ S fun v H1 Z1 z1 k1 S1 => M.nx _ _ H1 Z1 z1 (S1.set hl) k)
end
def entry (N : List Str) (ds : List D) : List (Option T) := ds.map (fun d => some (T.sh d)) ++ List.replicate (N.length - ds.length) none
theorem fM {K : PySem.W.Frag} {CL : Str -> Addr} {H Z : Hp} : ∀ {ds : List D} {vs : List V} (n : Nat), aA K CL Z ds vs -> dF K CL H Z (ds.map (fun d => some (T.sh d)) ++ List.replicate n none) (vs.map some ++ List.replicate n none) []
 | _, _, 0, .nil => .nil
 | _, _, n + 1, .nil => .skip (fM (ds := []) (vs := []) n .nil)
 | _, _, n, .cons r t => .cons (fp := []) (gp := []) (.sh r) (fM n t)
theorem bS {P : Program} {w : World} {K : PySem.W.Frag} {mg : Str -> Option Value} {base : Heap} {CL : Str -> Addr} {x qual : Str} {st : Stmt} {f : Addr} {fd : FuncData} {N ps : List Str} {k : Nat} {A : Type} {arg : A -> List D} {Pre : A -> Prop} {res : A -> T} (F : kI K x qual st f fd) (S : aP N ps (aq st))
   (hb : ∀ (cS : Value) (Ar : Around) (outer : List Env) (s : Shared) (H : Hp) (E : XK) (b : Bx) (a : A), dg k (Ar.deeper (envOfC qual (aq st) s.heap.objs.size f cS)) -> Pre a →
     eO (oU f6 P w K mg base N qual (aq st) f cS Ar outer s H E).DH CL b (dJ st) (entry N (arg a)) { nx := fun _ => res a = .sh .non, rt := fun t _ => t = res a }) :
   bX P w K mg base f6 (k + 1) f fd ps (ni K CL ps.length arg Pre res) := by
 refine F.ok S (fun vs H Q E h => ?_) (fun cS Ar outer s H vs Q E hr h => ?_)
 . obtain ⟨W, a, _, _, r, hl, _⟩ := h
   rw [← r.length]; exact hl
 . obtain ⟨W, a, wh, tp, r, hl, hp, tb, kk⟩ := h
   refine ⟨_, HK, hb cS Ar outer s H E ⟨H, W⟩ a hr hp H W _ [] [] _ ⟨⟨[], [], ?_, .nil, WT, fun a ha => by cases ha⟩, .refl _, .refl _, wh, fun a o q z => ?_, tp, tb⟩ ⟨fun δ' σ' H' Z' s' S' e => ?_, fun t v H' Z' δ' σ' s' S' e => ?_, fun _ _ _ _ _ _ e => e.elim, fun _ _ _ _ _ _ e => e.elim⟩⟩
   . unfold entry L2.start
     rw [← r.length]
     exact fM _ r
   . have q' : W a = some o := q
     have z' : W a = none := z
     rw [q'] at z'; cases z'
   . exact kk .non H' Z' [] S'.bh S'.zz S'.zh S'.new S'.tp (by rw [show res a = .sh .non from e]; exact .sh .non) WT fun a ha => by cases ha
   . have e' : t = res a := e
     subst e'
     obtain ⟨fp, gp, _, r', nd, own⟩ := S'.rep
     cases r' with
     | @cons _ _ _ _ f1 f2 r1 r2 =>
       have h1 := (Wm.mp nd).2.1
       exact kk v H' Z' f1 S'.bh S'.zz S'.zh S'.new S'.tp r1 (Wm.mp h1).1 fun a ha => own a (Vw _ (VQ _ ha))
section
variable {prog : Program} {w : World} {A : Around} {R : Result -> Shared -> Prop} {s : Shared}
theorem sy {elt target iter : Expr} {ifs : List Expr} {scope : Scope} {pos : Pos} {it acc : Value} {env : Env} (I : Nat -> Shared -> Prop)
   (turn : ∀ n s, I n s -> wpAny (model prog w) A (pyNext it) (fun r s₁ => match r with
     | none => R (.ok .next) s₁
     | some v => wpAny (model prog w) A (letOwnedTupleGo target it v) (fun _ HV => wpAny (model prog w) A (assign target env v) (fun _ s₂ =>
         wpAny (model prog w) A (forIn ifs true fun c r => if r = true then do let ok ← isTrue c env (eval c env); pure (ForInStep.yield ok) else pure (ForInStep.yield r)) (fun ok s₃ =>
           if ok = true then wpAny (model prog w) A (eval elt env) (fun x s₄ =>
             wpAny (model prog w) A (call (.builtin "list.append") [acc, x]) (fun _ s₅ => ∃ m, m < n /\ I m s₅) (fun _ _ => False) s₄) (fun _ _ => False) s₃
           else ∃ m, m < n /\ I m s₃) (fun _ _ => False) s₂) (fun _ _ => False) HV) (fun _ _ => False) s₁) (fun _ _ => False) s)
   (n : Nat) (h : I n s) :
   codeAny (model prog w) A (.compLoop (.ListComp elt [⟨target, iter, ifs, 0⟩] scope pos) 0 it acc env) R s := by
 refine codeAny_loop rfl I (fun n s hI => ?_) n h
 show wpAny _ A ((compTurn (.ListComp elt [⟨target, iter, ifs, 0⟩] scope pos) 0 it acc env).onRaise (fun x => do noteFrame x env; theTreesLotGoes x)) _ _ s
 refine wpAny_noted ?_
 rw [compTurn_list]
 refine VG (wpAny_standAt (VG (WL (turn n s hI) (fun r s₁ h₁ => ?_) fun _ _ h' => h'.elim)))
 cases r with
 | none => exact Wh h₁
 | some v =>
   refine VG (WL h₁ (fun _ HV MN => ?_) fun _ _ h' => h'.elim)
   refine VG (WL MN (fun _ s₂ h₂ => VG (WL h₂ (fun ok s₃ h₃ => ?_) fun _ _ h' => h'.elim)) fun _ _ h' => h'.elim)
   cases ok with
   | false => exact Wh ⟨rfl, h₃⟩
   | true =>
     exact VG (VG (WL h₃ (fun x s₄ h₄ => VG (WL h₄ (fun _ s₅ h₅ => Wh (Wh ⟨rfl, h₅⟩)) fun _ _ h' => h'.elim)) fun _ _ h' => h'.elim))
end
def bH (env : Env) : List (Str × NameKind) -> List (Str × Addr) -> List (Str × Addr)
 | [], cs => cs
 | (n, k) :: r, cs => bH env r (if k == .free then (n, (env.cells.lookup n).getD 0) :: cs else cs)
theorem gk {scope : Scope} {env : Env} (h : ∀ x ∈ scope.names, x.2 = .free -> ∃ c, env.cells.lookup x.1 = some c) : closureFor scope env = pure (bH env scope.names []) := by
 have go : ∀ (l : List (Str × NameKind)) (cs : List (Str × Addr)), (∀ x ∈ l, x.2 = .free -> ∃ c, env.cells.lookup x.1 = some c) →
     (forIn l cs fun x r => match x with | (name, kind) => if (kind == NameKind.free) = true then do let a ← cellOf env name; pure (ForInStep.yield ((name, a) :: r)) else pure (ForInStep.yield r) : Sem (List (Str × Addr))) = pure (bH env l cs) := by
   intro l
   induction l with
   | nil => intro cs _; rfl
   | cons x r ih =>
     intro cs hx
     obtain ⟨n, k⟩ := x
     rw [List.forIn_cons]
     by_cases hk : k = .free
     . subst hk
       obtain ⟨c, hc⟩ := hx (n, .free) VJ rfl
       have e : cellOf env n = pure c := by unfold cellOf; rw [hc]
       simp only [Xe, Xa, e, pure_bind]
       rw [ih _ fun y hy => hx y (VH _ hy)]
       simp only [bH, Xe, Xa]
       rw [hc]; rfl
     . have hb : (k == NameKind.free) = false := by simpa using hk
       simp only [hb, Ws, W0, pure_bind]
       rw [ih _ fun y hy => hx y (VH _ hy)]
       simp only [bH, hb, Ws, W0]
 unfold closureFor
 have := go scope.names [] h
 simp only [bind_pure] at this ⊢
 exact this
theorem g7 {env : Env} : ∀ {l : List (Str × NameKind)} {cs : List (Str × Addr)} {y : Str} {c : Addr}, (∀ x ∈ l, x.2 = .free -> ∃ c, env.cells.lookup x.1 = some c) -> (∀ y c, cs.lookup y = some c -> env.cells.lookup y = some c) →
   (bH env l cs).lookup y = some c -> env.cells.lookup y = some c
 | [], cs, y, c, _, h, e => h y c e
 | (n, k) :: r, cs, y, c, hx, h, e => by
   refine g7 (l := r) (fun z hz => hx z (VH _ hz)) (fun z d hz => ?_) e
   by_cases hk : k = .free
   . subst hk
     obtain ⟨c', hc⟩ := hx (n, .free) VJ rfl
     simp only [Xe, Xa, hc, Option.getD_some, V8] at hz
     by_cases Qu : (z == n) = true
     . rw [Qu] at hz
       have : z = n := by simpa using Qu
       subst this
       cases hz
       exact hc
     . have : (z == n) = false := by simpa using Qu
       rw [this] at hz
       exact h z d hz
   . have hb : (k == NameKind.free) = false := by simpa using hk
     rw [hb] at hz
     exact h z d hz
theorem nj {env : Env} {y : Str} : ∀ {l : List (Str × NameKind)} {cs : List (Str × Addr)}, (∃ c, cs.lookup y = some c) -> ∃ c, (bH env l cs).lookup y = some c
 | [], cs, h => h
 | (n, k) :: r, cs, h => by
   refine nj (l := r) ?_
   by_cases hk : (k == NameKind.free) = true
   . rw [Vy hk, V8]
     by_cases hy : (y == n) = true
     . rw [hy]; exact ⟨_, rfl⟩
     . have : (y == n) = false := by simpa using hy
       rw [this]; exact h
   . rw [Vx hk]; exact h
theorem fN {env : Env} {y : Str} : ∀ {l : List (Str × NameKind)} {cs : List (Str × Addr)}, l.lookup y = some .free -> ∃ c, (bH env l cs).lookup y = some c
 | [], _, h => by simp at h
 | (n, k) :: r, cs, h => by
   rw [V8] at h
   by_cases hy : (y == n) = true
   . rw [hy] at h
     cases h
     refine nj (l := r) ?_
     rw [Vy (by rfl), V8, hy]
     exact ⟨_, rfl⟩
   . have : (y == n) = false := by simpa using hy
     rw [this] at h
     exact fN (l := r) h
def ck (X : Cx) (scope : Scope) (Nc : List Str) (C : Addr) (s : Shared) (H : Hp) (fp : List Addr) : Cx where
 prog := X.prog
 w := X.w
 K := X.K
 mg := X.mg
 base := X.base
 A := X.A
 N := Nc
 s₀ := s
 H₀ := H
 env := compEnvC scope (bH X.env scope.names []) C X.env
 outer := X.stack
 stack := X.stack
 ex := fp
 fn := fun _ => false
 calm := X.calm
 pn := []
 xe := fun _ _ => False
structure dP (X : Cx) (scope : Scope) (x : Str) (Nc : List Str) (ix : List Nat) : Prop where
 kind : scope.kind = .function
 mw : ∀ y ∈ scope.names, y.2 ≠ .cell
 nd : Nc.Nodup
 names : ∀ y ∈ scope.names, y.2 = .local -> scope.names.lookup y.1 = some .local
 own : scope.names.lookup x = some .local
 frees : ∀ y ∈ scope.names, y.2 = .free -> scope.names.lookup y.1 = some .free /\ (X.env.kindOf y.1 = some .cell \/ X.env.kindOf y.1 = some .free)
 hd : Nc = x :: ix.filterMap (X.N[·]?)
 HW : ∀ i ∈ ix, ∃ y, X.N[i]? = some y /\ scope.names.lookup y = some .free
theorem cW {env : Env} : ∀ {names : List (Str × NameKind)} {x : Str} {k : NameKind}, names.lookup x = some k -> 
   (names.map fun (n, k) => if (k == NameKind.free && env.scope.kind == .function && env.kindOf n == some .cell) then (n, NameKind.cell) else (n, k)).lookup x = some (if (k == NameKind.free && env.scope.kind == .function && env.kindOf x == some .cell) then .cell else k)
 | [], _, _, h => by simp at h
 | (n, k') :: r, x, k, h => by
   have ih := @cW env r x k
   show List.lookup x ((if (k' == NameKind.free && env.scope.kind == .function && env.kindOf n == some .cell) = true then (n, NameKind.cell) else (n, k')) :: _) = _
   cases hx : x == n with
   | true =>
     simp only [V8, hx] at h
     cases h
     have e : x = n := by simpa using hx
     subst e
     split <;> simp [V8]
   | false =>
     simp only [V8, hx] at h
     split
     . simp only [V8, hx]; exact ih h
     . simp only [V8, hx]; exact ih h
theorem fq {env : Env} : ∀ {names : List (Str × NameKind)} {x : Str}, names.lookup x = none -> 
   (names.map fun (n, k) => if (k == NameKind.free && env.scope.kind == .function && env.kindOf n == some .cell) then (n, NameKind.cell) else (n, k)).lookup x = none
 | [], _, _ => rfl
 | (n, k') :: r, x, h => by
   have ih := @fq env r x
   show List.lookup x ((if (k' == NameKind.free && env.scope.kind == .function && env.kindOf n == some .cell) = true then (n, NameKind.cell) else (n, k')) :: _) = _
   cases hx : x == n with
   | true => simp only [V8, hx] at h; cases h
   | false =>
     simp only [V8, hx] at h
     split
     . simp only [V8, hx]; exact ih h
     . simp only [V8, hx]; exact ih h
section
variable {X : Cx} {scope : Scope} {x : Str} {Nc : List Str} {ix : List Nat} {pins : List (Addr × Obj)} {σ : L2.St} {H : Hp} {s : Shared}
def mz (σ : L2.St) (ix : List Nat) (o : Option V) : L2.St := o :: ix.map fun i => (σ[i]?).getD none
theorem z6 {fp : List Addr} {fK : List (Addr × Obj)} {σ' : L2.St} {H' : Hp} {s' : Shared} {Lr : Heap} (I : Inv X pins σ H s) (n6 : ∀ b ∈ fp, fz X pins H b)
   (J : Inv (ck X scope Nc s.heap.objs.size s H fp) fK σ' H' s') (hs : Heap.SameBut s.heap.objs.size s'.heap Lr) : Inv X pins σ H' { s' with heap := Lr } := by
 have un : Un (AU X.stack) fp H H' s.heap s'.heap := J.base
 have TR : Un (AU X.stack) fp H H' s.heap Lr := by
   have ne : ∀ b o, s.heap.get? b = some o -> b ≠ s.heap.objs.size := fun b o e => Wd (VN e)
   refine ⟨fun b o e n hb hx => (hs.2 b (ne b o e)).trans (un.keep b o e n hb hx), fun b o e n hb hx => ?_, un.free, fun b o e hx => ?_, un.rX, un.fu, un.rY⟩
   . obtain ⟨sl, q⟩ := un.slot b o e n hb hx
     exact ⟨sl, (hs.2 b (ne b o e)).trans q⟩
   . obtain ⟨o', q⟩ := un.there b o e hx
     exact ⟨o', (hs.2 b (ne b o e)).trans q⟩
 have nC : H' s.heap.objs.size = none := J.free
 have cK : nK X.prog X.w H' Lr := fun b u e => by
   refine (J.cK b u e).vp (fun c v hc q => (hs.2 c ?_).trans q) (fun _ q => q) fun _ _ q => q
   rintro rfl
   rcases hc with z | z
   . subst z; rw [nC] at e; cases e
   . rw [nC] at z; cases z
 obtain ⟨hh, g, d, t, Lj⟩ := s'
 obtain rfl : Lj = s.os := J.os
 show L2.Inv X pins σ H' { s with heap := Lr, gens := g, drawn := d, toks := t }
 exact I.call (h' := Lr) (g' := g) (d' := d) (t' := t) (ch := fp) TR cK J.bare fun b hb => ⟨(n6 b hb).2.2.2.1, (n6 b hb).2.1, (n6 b hb).2.2.2.2.1, (n6 b hb).2.2.2.2.2⟩
def JS (X : Cx) : List Expr -> TT
 | [] => fun _ H Q => Q true H
 | [c] => Ef X c
 | _ => fun _ _ _ => False
theorem Bu {ifs : List Expr} {Q : Bool -> Hp -> Prop} (I : Inv X pins σ H s) (h : JS X ifs σ H Q) (hx : X.xe = fun _ _ => False) :
   wpAny (model X.prog X.w) X.A (forIn ifs true fun c r => if r = true then do let ok ← isTrue c X.env (eval c X.env); pure (ForInStep.yield ok) else pure (ForInStep.yield r)) (TP X pins σ Q) (fun _ _ => False) s := by
 match ifs, h with
 | [], h => exact wpAny_tests_nil ⟨H, I, h⟩
 | [c], h =>
   have := h pins s I
   rw [hx] at this
   exact wpAny_tests_one this
end
def O5 (X : Cx) (CL : Str -> Addr) (b : Bx) (ifs : List Expr) (δ : List (Option T)) (p : Bool) : Prop :=
 match ifs with
 | [] => p = true
 | [c] => kU X CL b c δ p δ
 | _ => False
theorem O5.TV {X : Cx} {CL : Str -> Addr} {b : Bx} {ifs : List Expr} {δ : List (Option T)} {p : Bool} (h : O5 X CL b ifs δ p) {H Z : Hp} {σ : L2.St} {Q : Bool -> Hp -> Prop} (S : bK X.K CL b H Z δ σ [] [])
   (k : ∀ H' Z', ay Z Z' -> ay H H' -> bK X.K CL b H' Z' δ σ [] [] -> Q p H') : JS X ifs σ H Q := by
 match ifs, h with
 | [], h =>
   have e : p = true := h
   subst e
   exact k H Z (.refl _) (.refl _) S
 | [c], h => exact (show kU X CL b c δ p δ from h) H Z σ [] [] Q S k
theorem fJ {ts : List T} : (T.lst ts).clean = T.cV ts := by rw [T.clean]
theorem pe {g : D -> T} : ∀ {ds : List D}, (∀ d ∈ ds, (g d).clean = true) -> T.cV (ds.map g) = true
 | [], _ => by rw [List.map_nil, T.cV]
 | d :: ds, h => by
   rw [Wg, T.cV, h d VJ, pe fun e he => h e (VH _ he)]
   rfl
section
variable {X : Cx} {CL : Str -> Addr} {b : Bx} {H Z W1 : Hp} {δ δc : List (Option T)} {σ : L2.St} {ts : List T} {vs us : List V} {ds : List D} {scope : Scope} {Nc : List Str} {ix : List Nat} {elt : Expr} {ifs : List Expr} {p : D -> Bool} {g : D -> T} {J : It}
end
section
variable {K : PySem.W.Frag} {CL : Str -> Addr} {b : Bx} {H H' Z Z' : Hp} {δ δ' : List (Option T)} {σ σ' : L2.St} {ts tl : List T} {vs us : List V} {t : T} {v : V}
theorem aJ.at : ∀ {tl : List T} {us : List V} {fp : List Addr} {j : Nat} {t : T}, aJ K CL H Z tl us fp -> tl[j]? = some t -> ∃ v f1 f2 f3, us[j]? = some v /\ fp = f1 ++ (f2 ++ f3) /\ bV K CL H Z t v f2 ∧
   ∀ {H' : Hp} {t' : T} {v' : V} {g : List Addr}, (∀ a ∈ f1 ++ f3, H' a = H a) -> bV K CL H' Z t' v' g -> aJ K CL H' Z (tl.set j t') (us.set j v') (f1 ++ (g ++ f3))
 | _, _, _, _, _, .nil, e => by simp at e
 | _, _, _, 0, _, .cons (fp := fp) (gp := gp) r q, e => by
   simp at e
   subst e
   exact ⟨_, [], fp, gp, rfl, rfl, r, fun {H' t' v' g} k r' => aJ.cons (fp := g) (gp := gp) r' (aJ.mono (fp := gp) (.refl _) (fun a ha => k a (by simpa using ha)) q)⟩
 | _, _, _, j + 1, t, .cons (fp := fp) (gp := gp) r q, e => by
   obtain ⟨v, f1, f2, f3, h1, h2, h3, h4⟩ := aJ.at (j := j) (t := t) q (by simpa using e)
   refine ⟨v, fp ++ f1, f2, f3, by simpa using h1, by rw [h2, List.append_assoc], h3, fun k r' => ?_⟩
   rw [VA]
   exact .cons (r.mono (.refl _) fun a ha => k a (by simp [ha])) (h4 (fun a ha => k a (by rw [VA]; exact Vw _ ha)) r')
theorem pA {α : Type} {l : List α} {i : Nat} {x : α} (h : l[i]? = some x) : l.set i x = l := by
 apply W8
 intro j
 rw [List.getElem?_set]
 split
 . rename_i e; subst e
   split
   . exact h.symm
   . rename_i h2; rw [Xb (by omega)]
 . rfl
theorem bK.write {a : Addr} {xs : List V} {f1 f2 f3 g gp JT : List Addr} {δ2 : List (Option T)} (S : bK K CL b H Z δ σ ts vs) (nd : ((f1 ++ (f2 ++ f3)) ++ gp).Nodup) (own : ∀ c ∈ (f1 ++ (f2 ++ f3)) ++ gp, Z c = none /\ b.B c = none) (ha : a ∈ f2)
   (hH : ∃ o, H a = some o) (e' : dF K CL (upd H a (.lst xs)) Z δ2 σ (f1 ++ (g ++ f3))) (r' : aJ K CL (upd H a (.lst xs)) Z tl us JT) (pm : ((f1 ++ (g ++ f3)) ++ JT).Nodup) (sub : ∀ c ∈ (f1 ++ (g ++ f3)) ++ JT, c ∈ (f1 ++ (f2 ++ f3)) ++ gp) :
   bK K CL b (upd H a (.lst xs)) Z δ2 σ tl us := by
 have oa := own a (by simp [ha])
 refine ⟨⟨_, _, e', r', pm, fun c hc => own c (sub c hc)⟩, fun c o q => ?_, S.zz, fun c o q => ?_, S.new, fun c o q i => ?_, S.tab⟩
 . rw [au (az q oa.2)]; exact S.bh c o q
 . rw [au (az q oa.1)]; exact S.zh c o q
 . by_cases hc : c = a
   . subst hc; rw [aK] at q; cases q; cases i
   . rw [au hc] at q; exact S.tp c o q i
theorem bK.append {i : Nat} (S : bK K CL b H Z δ σ (t :: ts) (v :: vs)) (hi : δ[i]? = some (some (.lst tl))) :
   ∃ a us, σ[i]? = some (some (.ref a)) /\ H a = some (.lst us) /\ us.length = tl.length /\ bK K CL b (upd H a (.lst (us ++ [v]))) Z (δ.set i (some (.lst (tl ++ [t])))) σ ts vs := by
 obtain ⟨fp, gp, e, r, nd, k⟩ := S.rep
 obtain ⟨v0, f1, f2, f3, hv, n6, rt, put, _⟩ := e.get hi
 subst n6
 cases rt with
 | @lst a us _ g ha rs =>
   cases r with
   | @cons _ _ _ _ ft gr q1 q2 =>
     have ne : ∀ c ∈ (f1 ++ (g ++ f3)) ++ (ft ++ gr), c ≠ a := fun c hc e => by
       subst e
       have hp : ((f1 ++ ((c :: g) ++ f3)) ++ (ft ++ gr)).Perm (c :: ((f1 ++ (g ++ f3)) ++ (ft ++ gr))) := by
         rw [V7, ← V7]
         exact (List.perm_middle.append_right _)
       exact (WZ.mp (hp.nodup_iff.mp nd)).1 hc
     refine ⟨a, us, hv, ha, rs.length.symm, ?_⟩
     have r1 : bV K CL (upd H a (.lst (us ++ [v]))) Z (.lst (tl ++ [t])) (.ref a) (a :: (g ++ (ft ++ []))) :=
       .lst aK (aJ.app (rs.mono (.refl _) fun c hc => au (ne c (by simp [hc]))) (.cons (q1.mono (.refl _) fun c hc => au (ne c (by simp [hc]))) .nil))
     have e2 := put (H' := upd H a (.lst (us ++ [v]))) (.refl _) (fun c hc => au (ne c (by
       rcases VZ.mp hc with h | h
       . simp [h]
       . simp [h]))) r1
     rw [pA hv] at e2
     have hp : ((f1 ++ ((a :: (g ++ (ft ++ []))) ++ f3)) ++ gr).Perm ((f1 ++ ((a :: g) ++ f3)) ++ (ft ++ gr)) := by
       simp only [Wx, V7, VA]
       refine Wq f1 (List.Perm.cons a (Wq g ?_))
       rw [← VA, ← VA]
       exact Wj.append_right gr
     exact S.write nd k (VJ) ⟨_, ha⟩ e2 (q2.mono (.refl _) fun c hc => au (ne c (by simp [hc]))) (hp.nodup_iff.mpr nd) fun c hc => hp.mem_iff.mp hc
theorem bK.setAt {i j : Nat} (S : bK K CL b H Z δ σ (t :: ts) (v :: vs)) (hi : δ[i]? = some (some (.lst tl))) (hj : j < tl.length) :
   ∃ a us, σ[i]? = some (some (.ref a)) /\ H a = some (.lst us) /\ us.length = tl.length /\ bK K CL b (upd H a (.lst (us.set j v))) Z (δ.set i (some (.lst (tl.set j t)))) σ ts vs := by
 obtain ⟨fp, gp, e, r, nd, k⟩ := S.rep
 obtain ⟨v0, f1, f2, f3, hv, n6, rt, put, _⟩ := e.get hi
 subst n6
 cases rt with
 | @lst a us _ g ha rs =>
   cases r with
   | @cons _ _ _ _ ft gr q1 q2 =>
     have ne : ∀ c ∈ (f1 ++ (g ++ f3)) ++ (ft ++ gr), c ≠ a := fun c hc e => by
       subst e
       have hp : ((f1 ++ ((c :: g) ++ f3)) ++ (ft ++ gr)).Perm (c :: ((f1 ++ (g ++ f3)) ++ (ft ++ gr))) := by
         rw [V7, ← V7]
         exact (List.perm_middle.append_right _)
       exact (WZ.mp (hp.nodup_iff.mp nd)).1 hc
     refine ⟨a, us, hv, ha, rs.length.symm, ?_⟩
     obtain ⟨vj, g1, g2, g3, _, hg, _, set⟩ := rs.at (V2 hj)
     subst hg
     have r1 : bV K CL (upd H a (.lst (us.set j v))) Z (.lst (tl.set j t)) (.ref a) (a :: (g1 ++ (ft ++ g3))) :=
       .lst aK (set (fun c hc => au (ne c (by
         rcases VZ.mp hc with h | h
         . simp [h]
         . simp [h]))) (q1.mono (.refl _) fun c hc => au (ne c (by simp [hc]))))
     have e2 := put (H' := upd H a (.lst (us.set j v))) (.refl _) (fun c hc => au (ne c (by
       rcases VZ.mp hc with h | h
       . simp [h]
       . simp [h]))) r1
     rw [pA hv] at e2
     have hp : ((f1 ++ ((a :: (g1 ++ (ft ++ g3))) ++ f3)) ++ gr).Perm ((f1 ++ ((a :: (g1 ++ g3)) ++ f3)) ++ (ft ++ gr)) := by
       simp only [V7, VA]
       refine Wq f1 (List.Perm.cons a (Wq g1 ?_))
       have := (Wj (l₁ := ft) (l₂ := g3 ++ f3)).append_right gr
       simp only [VA] at this
       exact this
     have sb : ((f1 ++ ((a :: (g1 ++ g3)) ++ f3)) ++ (ft ++ gr)).Sublist ((f1 ++ ((a :: (g1 ++ (g2 ++ g3))) ++ f3)) ++ (ft ++ gr)) := by
       refine Wa (Wa (V9 _) (Wa (List.Sublist.cons₂ a ?_) (V9 _))) (V9 _)
       exact Wa (V9 _) (WD _ _)
     exact S.write nd k (VJ) ⟨_, ha⟩ e2 (q2.mono (.refl _) fun c hc => au (ne c (by simp [hc]))) (hp.nodup_iff.mpr (nd.sublist sb)) fun c hc => sb.subset (hp.mem_iff.mp hc)
end
section
variable {X : Cx} {CL : Str -> Addr} {b : Bx} {δ δ1 δ2 : List (Option T)} {e e2 : Expr} {t : T} {tl Ep tt RX : List T} {D : cC} {pos pp pa pb : Pos}
theorem JV (i : Nat) {x : Str} (h0 : δ[i]? = some (some (.lst Ep))) (h : bY X CL b e δ t δ1) (h1 : δ1[i]? = some (some (.lst tl))) (hl : tl.length < sizeLine) (k : D.nx (δ1.set i (some (.lst (tl ++ [t])))))
   (hi : X.N[i]? = some x := by rfl) (hv : Iw X.env.scope x := by first | exact Or.inl rfl | exact Or.inr (Or.inl rfl) | exact Or.inr (Or.inr rfl)) (hd : (x == ("__debug__" : Str)) = false := by decide) (gY : (x == ("__classdict__" : Str)) = false := by decide)
   (vJ : attributeBase (.Name x pp) "append" X.env (eval (.Name x pp) X.env) = eval (.Name x pp) X.env := by rfl)
   (Bk : ((backTo pb (starEach [e] X.env)).all (fun x => !x.1) && (backToKw pb (keywordEach [] X.env)).all (fun x => x.1.isSome) && decide ([e].length + ([] : List Keyword).length + (if ([] : List Keyword).isEmpty then 0 else 1) < 30)) = true := by rfl)
   (hline : (pa.endLine == pb.line) = true := by rfl) (hs : starEach [e] X.env = (false, eval e X.env) :: starEach [] X.env := by exact bR rfl) (z7 : swapsWith (.Call (.Attribute (.Name x pp) "append" pa) [e] [] pb) none pos.line X.env = pure false := by rfl) :
   JB X CL b (.Expr (.Call (.Attribute (.Name x pp) "append" pa) [e] [] pb) pos) δ D := fun H Z σ ts vs E S M =>
 vP (DW (My PySem.F.plainAttrs_list PySem.F.slot_list_append PySem.F.type_list_append rA (lY hi hv hd gY) (cA cU eK hs) vJ Bk hline hs rfl) z7) (by
   obtain ⟨v0, e0, r0⟩ := S.look h0
   refine ⟨v0, e0, ?_, ?_⟩
   . rw [T.cT] at r0
     cases r0 with
     | lst hq _ => exact .inl ⟨rfl, _, hq⟩
   . refine h H Z σ ts vs _ S fun v H1 Z1 z1 k1 S1 => ?_
     obtain ⟨a, us, ea, ha, hu, S2⟩ := S1.append h1
     rw [e0] at ea
     cases ea
     exact ⟨a, us, v, rfl, rfl, ha, by rw [hu]; exact hl, M.nx _ σ _ Z1 z1 S2 k⟩)
end
def MP : Option (Option T) -> Option T
 | some (some t) => some (.sh t.cT)
 | _ => none
def RZ : Option (Option T) -> Option T
 | some (some (T.sh d)) => some (.sh d)
 | _ => none
def qE (δ : List (Option T)) (ix : List Nat) : List (Option T) := ix.map fun i => MP δ[i]?
def vR (δ : List (Option T)) (ix : List Nat) : List (Option T) := ix.map fun i => RZ δ[i]?
section
variable {K : PySem.W.Frag} {CL : Str -> Addr} {b : Bx} {H Z : Hp} {δ : List (Option T)} {σ : L2.St} {ts : List T} {vs : List V}
theorem pB (S : bK K CL b H Z δ σ ts vs) : ∀ (ix : List Nat) (H' : Hp), dF K CL H' H (qE δ ix) (ix.map fun i => (σ[i]?).getD none) []
 | [], _ => .nil
 | i :: r, H' => by
   have ih := pB S r H'
   show dF K CL H' H (MP δ[i]? :: qE δ r) (((σ[i]?).getD none) :: r.map fun i => (σ[i]?).getD none) []
   cases e : δ[i]? with
   | none => exact .skip ih
   | some o =>
     cases o with
     | none => exact .skip ih
     | some t =>
       obtain ⟨v, hv, rv⟩ := S.look e
       rw [hv]
       exact .cons (fp := []) (gp := []) (.sh rv) ih
theorem vS (S : bK K CL b H Z δ σ ts vs) : ∀ (ix : List Nat) (H' : Hp), dF K CL H' Z (vR δ ix) (ix.map fun i => (σ[i]?).getD none) []
 | [], _ => .nil
 | i :: r, H' => by
   have ih := vS S r H'
   show dF K CL H' Z (RZ δ[i]? :: vR δ r) (((σ[i]?).getD none) :: r.map fun i => (σ[i]?).getD none) []
   cases e : δ[i]? with
   | none => exact .skip ih
   | some o =>
     cases o with
     | none => exact .skip ih
     | some t =>
       cases t with
       | sh d =>
         obtain ⟨v, hv, rv⟩ := S.HL e
         rw [hv]
         exact .cons (fp := []) (gp := []) (.sh rv) ih
       | tup _ => exact .skip ih
       | lst _ => exact .skip ih
       | ins _ _ => exact .skip ih
       | n5 _ => exact .skip ih
       | pin _ _ => exact .skip ih
end
section
variable {X : Cx} {CL : Str -> Addr} {b : Bx} {δ δ1 : List (Option T)} {scope : Scope} {x : Str} {Nc : List Str} {ix : List Nat} {elt iter : Expr} {ifs : List Expr} {px pos : Pos} {ds : List D}
structure Comes (X : Cx) (CL : Str -> Addr) (b : Bx) (δ1 : List (Option T)) (σ : L2.St) (ts : List T) (vs : List V) (Z H : Hp) (ds : List D) (J : It) (H1 : Hp) : Prop where
 ex : ∃ Z1 us, ay Z Z1 /\ ay H H1 /\ bK X.K CL b H1 Z1 δ1 σ ts vs /\ aA X.K CL Z1 ds us /\ (∀ i H2, ay Z1 H2 -> i < ds.length -> J.go i H2) ∧
   (∀ i H2 x H', ay Z1 H2 -> i < ds.length -> J.HD i H2 x H' -> H' = H2 /\ us[i]? = some x) /\ (∀ H2, ay Z1 H2 -> J.stop ds.length H2)
def Er (X : Cx) (CL : Str -> Addr) (b : Bx) (tg e : Expr) (δ : List (Option T)) (ds : List D) (δ1 : List (Option T)) : Prop :=
 ∃ wi, PI X tg e wi /\ ∀ (H Z : Hp) (σ : L2.St) (ts : List T) (vs : List V) (R : It -> Hp -> Prop), bK X.K CL b H Z δ σ ts vs -> (∀ J H1, Comes X CL b δ1 σ ts vs Z H ds J H1 -> R J H1) -> wi σ H R
theorem Bv {tg : Expr} (h : bY X CL b iter δ (.sh (.lst ds)) δ1) : Er X CL b tg iter δ ds δ1 := by
 refine ⟨_, DX cU, fun H Z σ ts vs R S k => h H Z σ ts vs _ S fun v H1 Z1 z1 k1 S1 => ?_⟩
 obtain ⟨fp, gp, _, r, _, _⟩ := S1.rep
 cases r with
 | cons r _ =>
   cases r with
   | sh r =>
     cases r with
     | @lst a us _ hq rr =>
       refine ⟨a, rfl, ⟨us, S1.zh.seq hq⟩, k _ _ ⟨Z1, us, z1, k1, S1.pop, rr, fun i H2 s hi => ?_, fun i H2 y H' s hi hy => ⟨hy.1, hy.2 us (s.seq hq)⟩, fun H2 s => ⟨us, s.seq hq, by rw [rr.length]; exact Vz _⟩⟩⟩
       have DK : i < us.length := by rw [← rr.length]; exact hi
       exact ⟨us, us[i], s.seq hq, by simp [DK]⟩
theorem Bw {tg : Expr} (h : bY X CL b iter δ (.sh (.tup ds)) δ1) : Er X CL b tg iter δ ds δ1 := by
 refine ⟨_, IZ cU, fun H Z σ ts vs R S k => h H Z σ ts vs _ S fun v H1 Z1 z1 k1 S1 => ?_⟩
 obtain ⟨fp, gp, _, r, _, _⟩ := S1.rep
 cases r with
 | cons r _ =>
   cases r with
   | sh r =>
     cases r with
     | @tup a us _ hq rr =>
       refine ⟨a, rfl, ⟨us, ay.Lq S1.zh hq⟩, k _ _ ⟨Z1, us, z1, k1, S1.pop, rr, fun i H2 s hi => ?_, fun i H2 y H' s hi hy => ⟨hy.1, hy.2 us (ay.Lq s hq)⟩, fun H2 s => ⟨us, ay.Lq s hq, by rw [rr.length]; exact Vz _⟩⟩⟩
       have DK : i < us.length := by rw [← rr.length]; exact hi
       exact ⟨us, us[i], ay.Lq s hq, by simp [DK]⟩
def bC (lo : Int) (n : Nat) : List D := (List.range n).map fun (i : Nat) => D.int (lo + i)
theorem vU {K : PySem.W.Frag} {Z : Hp} (lo : Int) (n : Nat) : aA K CL Z (bC lo n) ((List.range n).map fun (i : Nat) => V.int (lo + i)) := by
 unfold bC
 generalize List.range n = l
 induction l with
 | nil => exact .nil
 | cons i r ih => exact .cons (.int _) ih
theorem dH {tg : Expr} {pr pc : Pos} {n : Int} (hm : X.mg "range" = none) (h : bW X CL b iter δ (.int n) δ1) (hn : -(2 ^ 62) <= n /\ n < 2 ^ 62) (hg : Gl X "range") (JW : starEach [iter] X.env = [(false, eval iter X.env)] := by rfl) (JX : starEach [iter] X.env = (false, eval iter X.env) :: starEach [] X.env := by exact bR rfl) :
   Er X CL b tg (.Call (.Name "range" pr) [iter] [] pc) δ (bC 0 n.toNat) δ1 := by
 refine ⟨_, zL hg hm (cA cU eK JX) JW, fun H Z σ ts vs R S k => h H Z σ ts vs _ S fun v H1 Z1 z1 k1 S1 r => ⟨n, by rw [r.sc rfl], hn.1, hn.2, k _ _ ⟨Z1, _, z1, k1, S1, vU 0 n.toNat, fun i H2 s hi => ?_, fun i H2 y H' s hi hy => ?_, fun H2 s => ?_⟩⟩⟩
 . show i < n.toNat
   have : (bC 0 n.toNat).length = n.toNat := by simp [bC]
   omega
 . have DK : i < n.toNat := by simpa [bC] using hi
   refine ⟨hy.1, ?_⟩
   rw [Wn, W5 DK, hy.2]
   rfl
 . show n.toNat <= (bC 0 n.toNat).length
   simp [bC]
theorem z8 {tg : Expr} {pr pc : Pos} {e1 e2 : Expr} {δ2 : List (Option T)} {m n : Int} (hm : X.mg "range" = none) (h1 : bW X CL b e1 δ (.int m) δ1) (h2 : bW X CL b e2 δ1 (.int n) δ2) (hn : -(2 ^ 62) <= m /\ m < 2 ^ 62 /\ -(2 ^ 62) <= n /\ n < 2 ^ 62) (hg : Gl X "range")
   (JW : starEach [e1, e2] X.env = [(false, eval e1 X.env), (false, eval e2 X.env)] := by rfl) (JX : starEach [e2] X.env = [(false, eval e2 X.env)] := by rfl) (Qv : starEach [e1, e2] X.env = (false, eval e1 X.env) :: starEach [e2] X.env := by rfl) (Qw : starEach [e2] X.env = (false, eval e2 X.env) :: starEach [] X.env := by rfl) :
   Er X CL b tg (.Call (.Name "range" pr) [e1, e2] [] pc) δ (bC m (n - m).toNat) δ2 := by
 refine ⟨_, zM hg hm (cA cU (cA cU eK Qw) Qv) JW JX, fun H Z σ ts vs R S k => h1 H Z σ ts vs _ S fun v H1 Z1 z1 k1 S1 r => h2 H1 Z1 σ ts vs _ S1 fun v2 H2 Z2 z2 k2 S2 r2 => ⟨m, n, by rw [r.sc rfl, r2.sc rfl], hn, k _ _ ⟨Z2, _, z1.trans z2, k1.trans k2, S2, vU m (n - m).toNat, fun i H2 s hi => ?_, fun i H2 y H' s hi hy => ?_, fun H2 s => ?_⟩⟩⟩
 . show i < (n - m).toNat
   have : (bC m (n - m).toNat).length = (n - m).toNat := by simp [bC]
   omega
 . have DK : i < (n - m).toNat := by simpa [bC] using hi
   refine ⟨hy.1, ?_⟩
   rw [Wn, W5 DK, hy.2]
   rfl
 . show (n - m).toNat <= (bC m (n - m).toNat).length
   simp [bC]
theorem JY {D : cC} {fc : List Stmt} (i : Nat) {pos' : Pos} (P : Nat -> List (Option T) -> Prop) (h : Er X CL b (.Name x pos') iter δ ds δ1) (h0 : P 0 δ1) (hl : ∀ j δ, P j δ -> i < δ.length)
   (hs : ∀ j d δ, ds[j]? = some d -> P j δ -> eO X CL b fc (δ.set i (some (.sh d))) { nx := P (j + 1), rt := D.rt, bk := D.nx, ct := P (j + 1) }) (hd : ∀ δ, P ds.length δ -> D.nx δ)
   (hp : PassesOwn (model X.prog X.w) X.A X.env X.xe) (hc : X.calm = true) (hN : X.N.Nodup) (hi : X.N[i]? = some x) (hx : Loc X.env.scope x) (hf : X.fn x = true \/ X.env.scope.names.lookup x = some .local) (hq : ∀ x, foldedSetIterable iter X.env x = pure x := by intro _; rfl) :
   JB X CL b (.For (.Name x pos') iter fc [] pos) δ D := fun H Z σ ts vs E S M => by
 obtain ⟨wi, pi, hw⟩ := h
 refine vP (I0 hp hc pi (r9 hN hi hx hf) HK hq) (hw H Z σ ts vs _ S fun J H1 ⟨Z1, us, z1, k1, S1, rr, go, yl, st⟩ => ?_)
 refine ⟨fun j m σ H2 => m = ds.length - j /\ j <= ds.length /\ ∃ Z2 δ2, ay Z1 Z2 /\ bK X.K CL b H2 Z2 δ2 σ ts vs /\ P j δ2, ⟨_, rfl, Wi _, Z1, δ1, .refl _, S1, h0⟩, ?_⟩
 rintro j m σ H2 ⟨rfl, hj, Z2, δ2, s, S2, p2⟩
 by_cases qF : j < ds.length
 . refine .inr ⟨go j H2 (s.trans S2.zh) qF, fun σ' H' => ∃ Z2 δ2, ay Z1 Z2 /\ bK X.K CL b H' Z2 δ2 σ' ts vs /\ P (j + 1) δ2, fun σ' H' h => ⟨ds.length - (j + 1), by omega, rfl, qF, h⟩, fun y H' hy => ?_⟩
   obtain ⟨e, hu⟩ := yl j H2 y H' (s.trans S2.zh) qF hy
   subst e
   obtain ⟨d, IC, rd⟩ := rr.Ed hu
   have S3 := (S2.push (rd.mono s)).set (hl j δ2 p2)
   exact hs j d δ2 IC p2 _ Z2 _ ts vs _ S3 ⟨fun δ' σ' H' Z' s' S' k => ⟨Z', δ', s.trans s', S', k⟩, fun t v H' Z' δ' σ' s' S' k => M.rt t v H' Z' δ' σ' (z1.trans (s.trans s')) S' k, fun δ' σ' H' Z' s' S' k => M.nx δ' σ' H' Z' (z1.trans (s.trans s')) S' k, fun δ' σ' H' Z' s' S' k => ⟨Z', δ', s.trans s', S', k⟩⟩
 . have e : j = ds.length := by omega
   subst e
   exact .inl ⟨st H2 (s.trans S2.zh), M.nx δ2 σ H2 Z2 (z1.trans s) S2 (hd δ2 p2)⟩
def Block (X : Cx) (CL : Str -> Addr) (scope : Scope) (Nc : List Str) (ifs : List Expr) (elt : Expr) (δc : List (Option T)) (ds : List D) (p : D -> Bool) (g : D -> T) : Prop :=
 ∀ C s0 H0 f0 b' d, d ∈ ds -> O5 (ck X scope Nc C s0 H0 f0) CL b' ifs (some (.sh d) :: δc) (p d) /\ (p d = true -> bY (ck X scope Nc C s0 H0 f0) CL b' elt (some (.sh d) :: δc) (g d) (some (.sh d) :: δc))
variable {p : D -> Bool} {g : D -> T} {δc : List (Option T)}
end
section
variable {X : Cx} {CL : Str -> Addr} {b : Bx} {δ δ1 : List (Option T)} {scope : Scope} {x : Str} {Nc : List Str} {ix : List Nat} {elt iter : Expr} {ifs : List Expr} {px pos : Pos} {ds : List D} {p : D -> Bool} {g : D -> T} {δc : List (Option T)}
def Vf : L3.D -> String -> Option Bool
 | .non, n => if n = "int" \/ n = "str" \/ n = "list" \/ n = "tuple" \/ n = "bool" \/ n = "dict" then some false else none
 | .bl _, n => if n = "int" \/ n = "bool" then some true else if n = "str" \/ n = "list" \/ n = "tuple" \/ n = "dict" then some false else none
 | .int _, n => if n = "int" then some true else if n = "str" \/ n = "list" \/ n = "tuple" \/ n = "bool" \/ n = "dict" then some false else none
 | .str _, n => if n = "str" then some true else if n = "int" \/ n = "list" \/ n = "tuple" \/ n = "bool" \/ n = "dict" then some false else none
 | .lst _, n => if n = "list" then some true else if n = "int" \/ n = "str" \/ n = "tuple" \/ n = "bool" \/ n = "dict" then some false else none
 | .tup _, n => if n = "tuple" then some true else if n = "int" \/ n = "str" \/ n = "list" \/ n = "bool" \/ n = "dict" then some false else none
 | _, _ => none
def JZ (t n : String) : Option Bool := if (Value.type t == Value.type n) = true then some true else if PySem.W.kitMeta n = true then (fastBuiltinMro t).map (·.contains (.type n)) else none
theorem gO {K : PySem.W.Frag} {t n : String} : PySem.W.kitOne K (.type t) (.type n) = JZ t n := rfl
theorem By : (["NoneType", "bool", "int", "str", "list", "tuple"].all fun t => ["int", "str", "list", "tuple", "bool", "dict"].all fun n => JZ t n == some (t == n || (t == "bool" && n == "int"))) = true := by decide +kernel
theorem jx {t n : String} (ht : t ∈ ["NoneType", "bool", "int", "str", "list", "tuple"]) (hn : n ∈ ["int", "str", "list", "tuple", "bool", "dict"]) : JZ t n = some (t == n || (t == "bool" && n == "int")) := by
 have := By
 rw [WU] at this
 have h := this t ht
 rw [WU] at h
 simpa using h n hn
def MQ : L3.D -> Option String
 | .non => some "NoneType"
 | .bl _ => some "bool"
 | .int _ => some "int"
 | .str _ => some "str"
 | .lst _ => some "list"
 | .tup _ => some "tuple"
 | _ => none
theorem z9 : m9 X (.builtin "isinstance") (fun xs H Q => ∃ y n d t, xs = [y, .ty n] /\ aR X.K CL H d y /\ MQ d = some t /\ n ∈ ["int", "str", "list", "tuple", "bool", "dict"] /\ Q (.bl (t == n || (t == "bool" && n == "int"))) H) := by
 intro pins s σ H xs us Q I r h
 obtain ⟨y, n, d, t, rfl, rd, ht, hn, q⟩ := h
 obtain ⟨u, u2, rfl, ru, TX⟩ := r.two
 cases (show u2 = Value.type n from TX)
 have fin : ∀ tk, EP X pins σ Q (.bool (t == n || (t == "bool" && n == "int"))) { s with toks := tk } := fun tk => ⟨.bl _, H, I.tok tk, rfl, q⟩
 cases rd with
 | non => cases ht; cases (show u = Value.none from ru); exact W7 PySem.W.kitx_none I.vn True.intro (gO.trans (jx (by decide) hn)) (fun z => nomatch z) fin
 | bl c => cases ht; cases (show u = Value.bool c from ru); exact W7 PySem.W.kitx_bool I.vn True.intro (gO.trans (jx (by decide) hn)) (fun z => nomatch z) fin
 | int c => cases ht; obtain ⟨tt, e⟩ := (show ∃ t, u = Value.int c t from ru); cases e; exact W7 PySem.W.kitx_int I.vn True.intro (gO.trans (jx (by decide) hn)) (fun z => nomatch z) fin
 | str c => cases ht; obtain ⟨tt, e⟩ := (show ∃ t, u = Value.str c t from ru); cases e; exact W7 PySem.W.kitx_str I.vn True.intro (gO.trans (jx (by decide) hn)) (fun z => nomatch z) fin
 | @lst a ws _ hq rr =>
   cases ht
   cases (show u = Value.ref a from ru)
   obtain ⟨its, _, pl, _⟩ := I.list hq
   obtain ⟨o, n', e, c, _⟩ := pl
   exact W7 PySem.W.kitx_list I.vn ⟨o, e, c⟩ (gO.trans (jx (by decide) hn)) (fun z => nomatch z) fin
 | @tup a ws _ hq rr =>
   cases ht
   cases (show u = Value.ref a from ru)
   obtain ⟨its, _, pl, _⟩ := I.tuple hq
   obtain ⟨o, e, c, _⟩ := pl
   exact W7 PySem.W.kitx_tuple I.vn ⟨o, e, c⟩ (gO.trans (jx (by decide) hn)) (fun z => nomatch z) fin
 | ins _ _ => cases ht
 | any _ => cases ht
 | val _ => cases ht
 | n5 _ _ => cases ht
theorem Es {e : Expr} {d : L3.D} {t n : String} {nm : Str} {pp pq : Pos} (hm : X.mg "isinstance" = none) (Qx : X.mg nm = none) (hg : Gl X "isinstance") (Qy : Gl X nm) (TY : bootBuiltins nm = some (.type n)) (T3 : nm ≠ "__name__") (T4 : (nm == ("__debug__" : Str)) = false) (h : bW X CL b e δ d δ1) (ht : MQ d = some t) (hn : n ∈ ["int", "str", "list", "tuple", "bool", "dict"])
   (hs : starEach [e, .Name nm pq] X.env = (false, eval e X.env) :: starEach [.Name nm pq] X.env := by exact bR rfl) :
   bY X CL b (.Call (.Name "isinstance" pp) [e, .Name nm pq] [] pos) δ (.sh (.bl (t == n || (t == "bool" && n == "int")))) δ1 := fun H Z σ ts vs Q S k =>
 cL (oW (z9 (CL := CL)) hg hm boot_isinstance (cA cU (cA (DT Qy Qx TY (v := .ty n) rfl T3 T4) eK) hs) (he := hs)) (h H Z σ ts vs _ S fun v H1 Z1 z1 k1 S1 r =>
   ⟨v, n, d, t, rfl, r, ht, hn, k _ H1 Z1 z1 k1 (S1.push (.bl _))⟩)
end
theorem aC {n : Nat} (h : Nat.ble n 1000 = true) : n <= sizeLine := WG (dh (VF h))
structure Vn (X : Cx) (i : Nat) (x : Str) : Prop where
 hi : X.N[i]? = some x
 hv : Iw X.env.scope x
 hd : (x == ("__debug__" : Str)) = false
 gY : (x == ("__classdict__" : Str)) = false
structure Ln (X : Cx) (i : Nat) (x : Str) : Prop extends Vn X i x where
 loc : Loc X.env.scope x
 hf : X.fn x = true \/ X.env.scope.names.lookup x = some .local
structure Gx (X : Cx) : Prop where
 nd : X.N.Nodup
 calm : X.calm = true
 xe : X.xe = fun _ _ => False
structure Fc (X : Cx) (CL : Str -> Addr) (x : Str) (k n : Nat) {A : Type} (arg : A -> List D) (Pre : A -> Prop) (res : A -> T) : Prop where
 ex : ∃ f fd ps, bX X.prog X.w X.K X.mg X.base f6 k f fd ps (ni X.K CL n arg Pre res) /\ X.mg x = some (.ref f) /\ PySem.W.keepIn X.K (.ref f) = true /\ Binds X.K fd ps []
 room : dg k X.A
section
variable {X : Cx} {CL : Str -> Addr} {b : Bx} {δ δ1 δ2 : List (Option T)} {e e1 e2 : Expr} {es : List Expr} {d : L3.D} {t : T} {i : Nat} {x : Str} {pos pp : Pos} {D : cC} {fc : List Stmt} {ds : List L3.D}
theorem v_ (n : Vn X i x) (h : δ[i]? = some (some (.sh d)) := by rfl) : bY X CL b (.Name x pos) δ (.sh d) δ := JC i n.hi n.hv n.hd n.gY h
theorem vM (n : Vn X i x) (h : δ[i]? = some (some t) := by rfl) : bY X CL b (.Name x pos) δ t (δ.set i none) := Ei i n.hi n.hv n.hd n.gY h
theorem vB (n : Vn X i x) (h : δ[i]? = some (some t) := by rfl) : bW X CL b (.Name x pos) δ t.cT δ := JD i n.hi n.hv n.hd n.gY h
theorem gn {k : Int} (h : bW X CL b e δ (.int k) δ1) : bY X CL b (.UnaryOp .USub e pos) δ (.sh (.int (-k))) δ1 := fun H Z σ ts vs Q S kk =>
 cL (Mf Ji cU) (h H Z σ ts vs _ S fun v H1 Z1 z1 k1 S1 r => ⟨k, r.sc rfl, kk _ H1 Z1 z1 k1 (S1.push (.int _))⟩)
theorem vL (n : Vn X i x) (h : δ[i]? = some (some (.lst (ds.map T.sh))) := by rfl) : bW X CL b (.Name x pos) δ (.lst ds) δ := by
 have := vB (CL := CL) (b := b) (pos := pos) n h
 rwa [T.cT, f7] at this
theorem c_ {k n : Nat} {A : Type} {arg : A -> List L3.D} {Pre : A -> Prop} {res : A -> T} (a : A) (F : Fc X CL x k n arg Pre res) (hg : Gl X x) (h : HM X CL b (e :: es) δ (arg a) δ1) (hp : Pre a) (hc : (res a).clean = true) (hn : (arg a).length = n := by rfl)
   (qA : (x == ("__debug__" : Str)) = false := by decide) (he : starEach (e :: es) X.env = (false, eval e X.env) :: starEach es X.env := by exact bR rfl) (qB : (backTo pos (starEach es X.env)).any (·.1) = false := by rfl) :
   bY X CL b (.Call (.Name x pp) (e :: es) [] pos) δ (res a) δ1 := by
 obtain ⟨f, fd, ps, F1, m, k, b⟩ := F.ex
 exact Eo a F1 F.room m k b h hn hp hc hg qA he qB
theorem aN {pos' : Pos} (g : Gx X) (n : Ln X i x) (h : bY X CL b e δ t δ1) (k : eO X CL b fc (δ1.set i (some t)) D) (hl : i < δ1.length := by exact VF rfl) (hs : swapsWith e (some (.Name x pos')) pos.line X.env = pure false := by rfl) :
   eO X CL b (.Assign [.Name x pos'] e pos :: fc) δ D := dG (Bt i h k hl g.nd n.hi n.loc hs n.hf)
theorem bP (h : bY X CL b e δ t δ1) (k : D.rt t δ1) : eO X CL b (.Return (some e) pos :: fc) δ D := dG (JR h k)
theorem g8 {p : Bool} {a c : List Stmt} (h : kU X CL b e δ p δ1) (h1 : p = true -> eO X CL b a δ1 { D with nx := fun δ2 => eO X CL b fc δ2 D }) (h2 : p = false -> eO X CL b c δ1 { D with nx := fun δ2 => eO X CL b fc δ2 D }) : eO X CL b (.If e a c pos :: fc) δ D := dG (ML h h1 h2)
theorem eO.to {D' : cC} (h : eO X CL b fc δ D') (h1 : ∀ δ, D'.nx δ -> D.nx δ) (h2 : ∀ t δ, D'.rt t δ -> D.rt t δ) (h3 : ∀ δ, D'.bk δ -> D.bk δ) (h4 : ∀ δ, D'.ct δ -> D.ct δ) : eO X CL b fc δ D := fun H Z σ ts vs E S M => h H Z σ ts vs E S (M.to h1 h2 h3 h4)
theorem rC {p : Bool} {a c : List Stmt} (J : List (Option T) -> Prop) (h : kU X CL b e δ p δ1) (h1 : p = true -> eO X CL b a δ1 { D with nx := J }) (h2 : p = false -> eO X CL b c δ1 { D with nx := J }) (k : ∀ δ2, J δ2 -> eO X CL b fc δ2 D) : eO X CL b (.If e a c pos :: fc) δ D :=
 g8 h (fun hp => eO.to (h1 hp) k (fun _ _ q => q) (fun _ q => q) (fun _ q => q)) (fun hp => eO.to (h2 hp) k (fun _ _ q => q) (fun _ q => q) (fun _ q => q))
theorem pC {body : List Stmt} {pos' : Pos} (g : Gx X) (n : Ln X i x) (P : Nat -> List (Option T) -> Prop) (h : Er X CL b (.Name x pos') e δ ds δ1) (h0 : P 0 δ1) (hl : ∀ j δ, P j δ -> i < δ.length)
   (hs : ∀ j d δ, ds[j]? = some d -> P j δ -> eO X CL b body (δ.set i (some (.sh d))) { nx := P (j + 1), rt := D.rt, bk := fun δ2 => eO X CL b fc δ2 D, ct := P (j + 1) }) (hd : ∀ δ, P ds.length δ -> eO X CL b fc δ D) (hq : ∀ x, foldedSetIterable e X.env x = pure x := by intro _; rfl) :
   eO X CL b (.For (.Name x pos') e body [] pos :: fc) δ D :=
 dG (JY (D := { D with nx := fun δ1 => eO X CL b fc δ1 D }) i P h h0 hl hs hd (by rw [g.xe]; exact PassesOwn.never) g.calm g.nd n.hi n.loc n.hf hq)
theorem gP {e : Expr} {o : Option Expr} {l : Nat} {env : Env} (h : ∃ c, swapsWith e o l env = pure c) : swapsWith e o l env = pure true \/ swapsWith e o l env = pure false := by
 obtain ⟨c, h⟩ := h
 cases c
 . exact .inr h
 . exact .inl h
theorem dO {scope : Scope} {Nc : List Str} {C : Addr} {s : Shared} {H : Hp} {fp : List Addr} (h1 : Nc[i]? = some x) (h2 : scope.names.lookup x = some .local) (hd : (x == ("__debug__" : Str)) = false := by decide) (gY : (x == ("__classdict__" : Str)) = false := by decide) : Vn (ck X scope Nc C s H fp) i x :=
 ⟨h1, .inl (lookup_relabel_local h2), hd, gY⟩
theorem gq {scope : Scope} {Nc : List Str} {C : Addr} {s : Shared} {H : Hp} {fp : List Addr} (h1 : Nc[i]? = some x) (h2 : scope.names.lookup x = some .free) (hd : (x == ("__debug__" : Str)) = false := by decide) (gY : (x == ("__classdict__" : Str)) = false := by decide) : Vn (ck X scope Nc C s H fp) i x := by
 refine ⟨h1, ?_, hd, gY⟩
 have q := cW (env := X.env) h2
 show (relabel scope X.env).names.lookup x = some .local \/ (relabel scope X.env).names.lookup x = some .cell \/ (relabel scope X.env).names.lookup x = some .free
 rw [show (relabel scope X.env).names.lookup x = _ from q]
 split
 . exact .inr (.inl rfl)
 . exact .inr (.inr rfl)
theorem jy {scope : Scope} {Nc : List Str} {C : Addr} {s : Shared} {H : Hp} {fp : List Addr} (h2 : scope.names.lookup x = some .globalImplicit) : Gl (ck X scope Nc C s H fp) x := by
 have q := cW (env := X.env) h2
 show (relabel scope X.env).names.lookup x = some .globalImplicit
 rw [show (relabel scope X.env).names.lookup x = _ from q]
 rfl
theorem oh {scope : Scope} {Nc : List Str} {C : Addr} {s : Shared} {H : Hp} {fp : List Addr} {k n : Nat} {A : Type} {arg : A -> List L3.D} {Pre : A -> Prop} {res : A -> T} (F : Fc X CL x k n arg Pre res) : Fc (ck X scope Nc C s H fp) CL x k n arg Pre res := ⟨F.ex, F.room⟩
end
section
variable {X : Cx} {CL : Str -> Addr} {b : Bx} {δ δ1 δ2 : List (Option T)} {e e1 e2 : Expr} {es : List Expr} {ds : List L3.D} {pos : Pos}
theorem BD {i j : Bool} (h1 : bW X CL b e1 δ (.bl i) δ1) (h2 : bW X CL b e2 δ1 (.bl j) δ2) : kU X CL b (.Compare e1 [.Eq] [e2] pos) δ (decide (i = j)) δ2 /\ bY X CL b (.Compare e1 [.Eq] [e2] pos) δ (.sh (.bl (decide (i = j)))) δ2 :=
 oY A8 h1 h2 rfl rfl (fun _ _ q => ⟨rfl, by rw [show decide (V.bl i = V.bl j) = decide (i = j) by simp]; exact q⟩) (gZ _)
theorem Et (h : xT X CL b es δ (ds.map T.sh) δ1) (hl : ds.length <= sizeLine := by exact aC rfl) : bY X CL b (.List es pos) δ (.sh (.lst ds)) δ1 := by
 have := xU (e7 (pos := pos) h (by simpa using hl))
 rwa [T.cT, f7] at this
end
section
variable {X : Cx} {CL : Str -> Addr} {b : Bx} {δ δ1 : List (Option T)} {e : Expr} {d : L3.D} {t : String} {pos pp pq : Pos}
theorem Aa : bootBuiltins "int" = some (.type "int") := by decide +kernel
theorem bO : bootBuiltins "list" = some (.type "list") := by decide +kernel
theorem nq : bootBuiltins "tuple" = some (.type "tuple") := by decide +kernel
theorem R0 (hm : X.mg "isinstance" = none) (Qx : X.mg "tuple" = none) (hg : Gl X "isinstance") (Qy : Gl X "tuple") (h : bW X CL b e δ d δ1) (ht : MQ d = some t := by rfl) (hs : starEach [e, .Name "tuple" pq] X.env = (false, eval e X.env) :: starEach [.Name "tuple" pq] X.env := by exact bR rfl) :
   bY X CL b (.Call (.Name "isinstance" pp) [e, .Name "tuple" pq] [] pos) δ (.sh (.bl (t == "tuple" || (t == "bool" && "tuple" == "int")))) δ1 := Es hm Qx hg Qy nq (by decide) (by decide) h ht (by decide) hs
end
def mC (sc : Scope) (l : List (Str × NameKind)) : Bool := l.all fun p => sc.names.lookup p.1 == some p.2
theorem di {sc : Scope} {l : List (Str × NameKind)} (h : mC sc l = true) (i : Nat) {x : Str} {k : NameKind} (hi : l[i]? = some (x, k)) : sc.names.lookup x = some k := by
 unfold mC at h
 rw [WU] at h
 exact beq_iff_eq.mp (h _ (Wr hi))
inductive Eu (X : Cx) : List Nat -> List Str -> Prop where
 | nil : Eu X [] []
 | cons {i : Nat} {y : Str} {ix : List Nat} {ys : List Str} (n : Vn X i y) (k : X.env.kindOf y = some .cell \/ X.env.kindOf y = some .free) (r : Eu X ix ys) : Eu X (i :: ix) (y :: ys)
def BE (scope : Scope) (x : Str) (vV : List Str) : Bool :=
 scope.kind == .function && scope.names.lookup x == some .local && vV.all (fun y => scope.names.lookup y == some .free) && decide ((x :: vV).Nodup) &&
   scope.names.all fun y => y.2 != .cell && (y.2 != .local || scope.names.lookup y.1 == some .local) && (y.2 != .free || (vV.contains y.1 && scope.names.lookup y.1 == some .free))
theorem cI {X : Cx} {scope : Scope} {x : Str} {ix : List Nat} {vV : List Str} (c : Eu X ix vV) (ok : BE scope x vV = true) : dP X scope x (x :: vV) ix := by
 unfold BE at ok
 simp only [Wt, WU, decide_eq_true_eq, beq_iff_eq] at ok
 obtain ⟨⟨⟨⟨h1, h2⟩, h3⟩, h4⟩, h5⟩ := ok
 have kc : ∀ y ∈ vV, X.env.kindOf y = some .cell \/ X.env.kindOf y = some .free := by
   clear h3 h4 h5
   induction c with
   | nil => intro y hy; cases hy
   | cons n k r ih =>
     intro y hy
     rcases VC.mp hy with e | hy
     . subst e; exact k
     . exact ih y hy
 refine ⟨h1, fun y hy e => ?_, h4, fun y hy e => ?_, h2, fun y hy e => ?_, ?_, fun i hi => ?_⟩
 . have := (h5 y hy).1.1
   rw [e] at this
   simp at this
 . have := (h5 y hy).1.2
   rw [e] at this
   simpa using this
 . have := (h5 y hy).2
   rw [e] at this
   simp at this
   exact ⟨this.2, kc _ this.1⟩
 . congr 1
   clear h3 h4 h5 kc
   induction c with
   | nil => rfl
   | cons n k r ih => rw [Wy, n.hi, ← ih]
 . clear h4 h5 kc
   induction c with
   | nil => cases hi
   | @cons i' y ix ys n k r ih =>
     rcases VC.mp hi with e | hi
     . subst e; exact ⟨y, n.hi, h3 y VJ⟩
     . exact ih (fun z hz => h3 z (VH _ hz)) hi
def D.xB : D -> Int
 | .int i => i
 | _ => 0
def D.toS : D -> Str
 | .str x => x
 | _ => Str.empty
theorem fO {bs : List Int} {k : Int} (h0 : 0 <= k) (h1 : k < bs.length) : nO (bs.map D.int) k = some (.int (bs.getD k.toNat 0)) := by
 obtain ⟨j, rfl⟩ : ∃ j : Nat, k = j := ⟨k.toNat, by omega⟩
 refine fZ ?_
 have hl : j < bs.length := by omega
 rw [Wn, V2 hl]
 simp [List.getD, hl]
theorem cX : ∀ (bs : List Int), D.bw (bs.map D.int) = true
 | [] => rfl
 | i :: r => by rw [Wg, D.bw, cX r]; rfl
theorem fP {lo : Int} {n j : Nat} {d : D} (h : (bC lo n)[j]? = some d) : d = .int (lo + j) /\ j < n := by
 have hl : j < n := by
   have := (WC.mp h).1
   simpa [bC] using this
 refine ⟨?_, hl⟩
 unfold bC at h
 rw [Wn, W5 hl] at h
 exact (VR h).symm
theorem f9 {α : Type} (l : List α) : l.filter (fun _ => true) = l := by simp
theorem vW {K : PySem.W.Frag} {CL : Str -> Addr} {Z : Hp} : ∀ (ns : List Int), aA K CL Z (ns.map D.int) (ns.map V.int)
 | [] => .nil
 | n :: r => .cons (.int n) (vW r)
mutual
def D.toPy : D -> PyData
 | .non => .none
 | .bl b => .bool b
 | .int i => .int i
 | .str x => .str x
 | .tup ds => .tuple (D.i9 ds)
 | .lst ds => .list (D.i9 ds)
 | .ins _ _ => .none
 | .n5 _ => .none
 | .any => .none
 | .val _ => .none
def D.i9 : List D -> List PyData
 | [] => []
 | d :: ds => d.toPy :: D.i9 ds
end
inductive fX : Nat -> D -> Prop where
 | non (n : Nat) : fX n .non
 | bl (n : Nat) (b : Bool) : fX n (.bl b)
 | int (n : Nat) (i : Int) : fX n (.int i)
 | str (n : Nat) (x : Str) (h : PyData.strOk x = true) : fX n (.str x)
 | tup {n : Nat} {ds : List D} (h : ∀ d ∈ ds, fX n d) : fX (n + 1) (.tup ds)
 | lst {n : Nat} {ds : List D} (h : ∀ d ∈ ds, fX n d) : fX (n + 1) (.lst ds)
def Ab (a b : D) : Bool := PyData.eqv a.toPy b.toPy
theorem fX.J1 {n : Nat} : ∀ {ds : List D}, (∀ d ∈ ds, d.toPy.canLay0 = true /\ d.toPy.depth <= n) -> PyData.canLayAll0 (D.i9 ds) = true /\ PyData.depthAll (D.i9 ds) <= n
 | [], _ => ⟨by rw [D.i9, PyData.canLayAll0], by rw [D.i9, PyData.depthAll]; exact Wi _⟩
 | d :: ds, h => by
   have h1 := h d VJ
   have h2 := fX.J1 (ds := ds) fun e he => h e (VH _ he)
   rw [D.i9, PyData.canLayAll0, PyData.depthAll, h1.1, h2.1]
   exact ⟨rfl, Nat.max_le.mpr ⟨h1.2, h2.2⟩⟩
theorem fX.lay {n : Nat} {d : D} (h : fX n d) : d.toPy.canLay0 = true /\ d.toPy.depth <= n := by
 induction h with
 | non n => exact ⟨by rw [D.toPy, PyData.canLay0], by rw [D.toPy, PyData.depth]; exact Wi _⟩
 | bl n b => exact ⟨by rw [D.toPy, PyData.canLay0], by rw [D.toPy, PyData.depth]; exact Wi _⟩
 | int n i => exact ⟨by rw [D.toPy, PyData.canLay0], by rw [D.toPy, PyData.depth]; exact Wi _⟩
 | str n x hx => exact ⟨by rw [D.toPy, PyData.canLay0]; exact hx, by rw [D.toPy, PyData.depth]; exact Wi _⟩
 | @tup n ds _ ih =>
   have := fX.J1 ih
   rw [D.toPy, PyData.canLay0, PyData.depth]
   exact ⟨this.1, by omega⟩
 | @lst n ds _ ih =>
   have := fX.J1 ih
   rw [D.toPy, PyData.canLay0, PyData.depth]
   exact ⟨this.1, by omega⟩
theorem ja {n : Nat} {d : D} (h : fX n d) : Ab d d = true := SeqAt.eqv_refl _ h.lay.1
section
variable {X : Cx} {CL : Str -> Addr} {pins : List (Addr × Obj)} {σ : L2.St} {H : Hp} {s : Shared}
mutual
theorem reads (I : L2.Inv X pins σ H s) : ∀ {d : D} {v : V} {u : Value}, d.toPy.canLay0 = true -> (∀ c fs, d ≠ .ins c fs) -> d ≠ .any -> aR X.K CL H d v -> RelV v u -> (∀ n, fX n d -> ∃ as, Reads s.heap u d.toPy as)
 | _, _, _, _, _, _, .non, r => fun _ _ => by cases r; rw [D.toPy]; exact ⟨[], .none⟩
 | _, _, _, _, _, _, .bl b, r => fun _ _ => by cases r; rw [D.toPy]; exact ⟨[], .bool b⟩
 | _, _, _, _, _, _, .int i, r => fun _ _ => by obtain ⟨t, rfl⟩ := r; rw [D.toPy]; exact ⟨[], .int i t⟩
 | _, _, _, _, _, _, .str x, r => fun _ _ => by obtain ⟨t, rfl⟩ := r; rw [D.toPy]; exact ⟨[], .str x t⟩
 | _, _, _, _, _, h, .any _, r => absurd rfl h
 | _, _, _, _, h, _, .ins _ _, r => absurd rfl (h _ _)
 | _, _, _, _, _, _, .n5 _ _, r => fun n hd => by cases hd
 | _, _, _, _, _, _, .val _, r => fun n hd => by cases hd
 | _, _, _, hc, _, _, .tup (a := a) hq rr, r => fun n hd => by
   cases hd with
   | tup hd =>
     cases r
     obtain ⟨its, rv, ⟨o, e, c, k, dt⟩, _⟩ := I.tuple hq
     obtain ⟨as, ra⟩ := readsAll I hd rr rv
     rw [D.toPy]
     exact ⟨as, .tuple e c dt (by simpa using ra)⟩
 | _, _, _, hc, _, _, .lst (a := a) hq rr, r => fun n hd => by
   cases hd with
   | lst hd =>
     cases r
     obtain ⟨its, rv, ⟨o, k, e, c, _, dt⟩, _⟩ := I.list hq
     obtain ⟨as, ra⟩ := readsAll I hd rr rv
     rw [D.toPy]
     exact ⟨_, .list e c dt (by simpa using ra)⟩
theorem readsAll (I : L2.Inv X pins σ H s) : ∀ {n : Nat} {ds : List D} {vs : List V} {us : List Value}, (∀ d ∈ ds, fX n d) -> aA X.K CL H ds vs -> Vals vs us -> ∃ as, ReadsAll s.heap us (D.i9 ds) as
 | _, _, _, _, _, .nil, r => by cases r; rw [D.i9]; exact ⟨[], .nil⟩
 | n, d :: _, _, _, h, .cons q qs, r => by
   cases r with
   | cons r rs =>
     have hd := h d VJ
     obtain ⟨as, ra⟩ := reads I hd.lay.1 (fun c fs e => by subst e; cases hd) (fun e => by subst e; cases hd) q r n hd
     obtain ⟨bs, rb⟩ := readsAll I (fun e he => h e (VH _ he)) qs rs
     rw [D.i9]
     exact ⟨as ++ bs, .cons ra rb⟩
end
theorem sA (I : L2.Inv X pins σ H s) {n : Nat} {d : D} {v : V} {u : Value} (hd : fX n d) (q : aR X.K CL H d v) (r : RelV v u) : ∃ as, Reads s.heap u d.toPy as :=
 reads I hd.lay.1 (fun c fs e => by subst e; cases hd) (fun e => by subst e; cases hd) q r n hd
end
section
variable {X : Cx} {CL : Str -> Addr} {b : Bx} {δ δ1 δ2 δ3 : List (Option T)} {e e1 e2 e3 : Expr} {d1 d2 : D} {ds : List D} {pos p2 pp : Pos} {n m : Nat} {i : Nat} {x : Str} {t : T} {fc : List Stmt} {DD : cC}
theorem J2 (hu : X.A.units + 64 < cLine) : mh X (compareOp .Eq) (fun x y H Q => ∃ a c, aR X.K CL H a x /\ aR X.K CL H c y /\ fX 60 a /\ fX 60 c /\ Q (.bl (Ab a c)) H) := by
 intro pins s σ H x y v u Q I rx ry h
 obtain ⟨a, c, ra, rc, da, dc, q⟩ := h
 obtain ⟨as, r1⟩ := sA I da ra rx
 obtain ⟨bs, r2⟩ := sA I dc rc ry
 exact SeqAt.rcAt_reads r1 r2 da.lay.1 dc.lay.1 (by have := da.lay.2; omega) X.prog X.w X.xe _ ⟨.bl _, H, I, rfl, q⟩
theorem J3 (hu : X.A.units + 64 < cLine) : mh X (compareOp .NotEq) (fun x y H Q => ∃ a c, aR X.K CL H a x /\ aR X.K CL H c y /\ fX 60 a /\ fX 60 c /\ Q (.bl (!Ab a c)) H) := by
 intro pins s σ H x y v u Q I rx ry h
 obtain ⟨a, c, ra, rc, da, dc, q⟩ := h
 obtain ⟨as, r1⟩ := sA I da ra rx
 obtain ⟨bs, r2⟩ := sA I dc rc ry
 exact SeqAt.rcNeAt_reads r1 r2 da.lay.1 dc.lay.1 (by have := da.lay.2; omega) X.prog X.w X.xe _ ⟨.bl _, H, I, rfl, q⟩
theorem MR {op : CmpOp} {f : Bool -> Bool} (ho : mh X (compareOp op) (fun x y H Q => ∃ a c, aR X.K CL H a x /\ aR X.K CL H c y /\ fX 60 a /\ fX 60 c /\ Q (.bl (f (Ab a c))) H)) (h1 : bW X CL b e1 δ d1 δ1) (h2 : bW X CL b e2 δ1 d2 δ2) (k1 : fX 60 d1) (k2 : fX 60 d2)
   (hm : behindInMarks op e2 = false) : kU X CL b (.Compare e1 [op] [e2] pos) δ (f (Ab d1 d2)) δ2 /\ bY X CL b (.Compare e1 [op] [e2] pos) δ (.sh (.bl (f (Ab d1 d2)))) δ2 := by
 constructor
 . intro H Z σ ts vs Q S k
   refine vO (ju ho cU cU hm) (h1 H Z σ ts vs _ S fun v1 H1 Z1 z1 Qz S1 r1 => h2 H1 Z1 σ ts vs _ S1 fun v2 H2 Z2 z2 MS S2 r2 => ?_)
   exact ⟨d1, d2, r1.mono MS, r2, k1, k2, _, rfl, k H2 Z2 (z1.trans z2) (Qz.trans MS) S2⟩
 . intro H Z σ ts vs Q S k
   refine cL (jt ho cU cU hm) (h1 H Z σ ts vs _ S fun v1 H1 Z1 z1 Qz S1 r1 => h2 H1 Z1 σ ts vs _ S1 fun v2 H2 Z2 z2 MS S2 r2 => ?_)
   exact ⟨d1, d2, r1.mono MS, r2, k1, k2, k _ H2 Z2 (z1.trans z2) (Qz.trans MS) (S2.push (.bl _))⟩
theorem J4 (hu : X.A.units + 64 < cLine) (h1 : bW X CL b e1 δ d1 δ1) (h2 : bW X CL b e2 δ1 d2 δ2) (k1 : fX 60 d1) (k2 : fX 60 d2) : kU X CL b (.Compare e1 [.Eq] [e2] pos) δ (Ab d1 d2) δ2 /\ bY X CL b (.Compare e1 [.Eq] [e2] pos) δ (.sh (.bl (Ab d1 d2))) δ2 :=
 MR (f := fun b => b) (J2 hu) h1 h2 k1 k2 (gZ _)
theorem pD (hu : X.A.units + 64 < cLine) (h1 : bW X CL b e1 δ d1 δ1) (h2 : bW X CL b e2 δ1 d2 δ2) (k1 : fX 60 d1) (k2 : fX 60 d2) : kU X CL b (.Compare e1 [.NotEq] [e2] pos) δ (!Ab d1 d2) δ2 /\ bY X CL b (.Compare e1 [.NotEq] [e2] pos) δ (.sh (.bl (!Ab d1 d2))) δ2 :=
 MR (f := fun b => !b) (J3 hu) h1 h2 k1 k2 (gZ _)
def cutD {α : Type} (xs : List α) (lo hi : Option Int) : List α := (xs.drop (HT.nM xs.length 0 lo)).take (HT.nM xs.length xs.length hi - HT.nM xs.length 0 lo)
theorem aA.drop {K : PySem.W.Frag} {Z : Hp} : ∀ {ds : List L3.D} {vs : List V} (n : Nat), aA K CL Z ds vs -> aA K CL Z (ds.drop n) (vs.drop n)
 | _, _, 0, r => r
 | _, _, _ + 1, .nil => .nil
 | _, _, n + 1, .cons _ t => aA.drop n t
theorem aA.take {K : PySem.W.Frag} {Z : Hp} : ∀ {ds : List L3.D} {vs : List V} (n : Nat), aA K CL Z ds vs -> aA K CL Z (ds.take n) (vs.take n)
 | _, _, 0, _ => .nil
 | _, _, _ + 1, .nil => .nil
 | _, _, n + 1, .cons r t => .cons r (aA.take n t)
theorem aA.cut {K : PySem.W.Frag} {Z : Hp} {ds : List L3.D} {vs : List V} (r : aA K CL Z ds vs) (lo hi : Option Int) : aA K CL Z (cutD ds lo hi) (zT vs lo hi) := by
 unfold cutD zT
 rw [r.length]
 exact (r.drop _).take _
theorem k6 : ∀ {ds : List L3.D}, D.bw ds = true -> ∀ d ∈ ds, d.g6 = true
 | [], _, _, h => by cases h
 | d :: ds, k, e, h => by
   rw [D.bw, Wt] at k
   rcases VC.mp h with h | h
   . subst h; exact k.1
   . exact k6 k.2 e h
theorem g9 : ∀ {ds : List L3.D}, (∀ d ∈ ds, d.g6 = true) -> D.bw ds = true
 | [], _ => rfl
 | d :: ds, h => by rw [D.bw, h d VJ, g9 fun e he => h e (VH _ he)]; rfl
theorem Ew {α : Type} {xs : List α} {lo hi : Option Int} {x : α} (h : x ∈ cutD xs lo hi) : x ∈ xs := List.mem_of_mem_drop (List.mem_of_mem_take h)
def Ls (X : Cx) (CL : Str -> Addr) (b : Bx) (e : Option Expr) (δ : List (Option T)) (k : Option Int) (δ' : List (Option T)) : Prop :=
 ∃ t, PO X e t /\ ∀ (H Z : Hp) (σ : L2.St) (ts : List T) (vs : List V) (Q : Option Int -> Hp -> Prop), bK X.K CL b H Z δ σ ts vs -> (∀ H' Z', ay Z Z' -> ay H H' -> bK X.K CL b H' Z' δ' σ ts vs -> Q k H') -> t σ H Q
theorem sC : Ls X CL b none δ none δ := ⟨_, D7, fun H Z σ ts vs Q S k => k H Z (.refl _) (.refl _) S⟩
theorem sE {k : Int} (h : bW X CL b e δ (.int k) δ1) : Ls X CL b (some e) δ (some k) δ1 := ⟨_, D8 cU, fun H Z σ ts vs Q S kk => h H Z σ ts vs _ S fun v H1 Z1 z1 k1 S1 r => ⟨k, r.sc rfl, kk H1 Z1 z1 k1 S1⟩⟩
theorem vX {lo hi : Option Expr} {l h : Option Int} (h1 : bW X CL b e δ (.lst ds) δ1) (T5 : D.bw ds = true) (h2 : Ls X CL b lo δ1 l δ2) (h3 : Ls X CL b hi δ2 h δ3) : bY X CL b (.Subscript e (.Slice lo hi none p2) pos) δ (.lst ((cutD ds l h).map T.sh)) δ3 := fun H Z σ ts vs Q S k => by
 obtain ⟨t2, QB, w2⟩ := h2
 obtain ⟨t3, QC, w3⟩ := h3
 refine cL (vF D9 cU QB QC) (h1 H Z σ ts vs _ S fun v H1 Z1 z1 k1 S1 r => w2 H1 Z1 σ ts vs _ S1 fun H2 Z2 z2 k2 S2 => w3 H2 Z2 σ ts vs _ S2 fun H3 Z3 z3 k3 S3 => ?_)
 have r' := r.mono (k2.trans k3)
 cases r' with
 | lst hq rr =>
   refine ⟨_, _, rfl, hq, fun p hp => ?_⟩
   have rc := aA.g6 S3.tp (g9 fun d hd => k6 T5 d (Ew hd)) (rr.cut l h)
   obtain ⟨c, S4⟩ := (bK.oZ rc S3).mq (g0 := []) (by simp [rc.length]) hp
   exact k _ _ _ (z1.trans (z2.trans z3)) (k1.trans (k2.trans (k3.trans c))) S4
theorem rD (hm : X.mg "tuple" = none) (h : bW X CL b e δ (.lst ds) δ1) (hi : D.bw ds = true) (hg : Gl X "tuple") (hs : starEach [e] X.env = (false, eval e X.env) :: starEach [] X.env := by exact bR rfl) : bY X CL b (.Call (.Name "tuple" pp) [e] [] pos) δ (.sh (.tup ds)) δ1 := fun H Z σ ts vs Q S k =>
 cL (jv qD hg hm nq (cA cU eK hs) (he := hs)) (h H Z σ ts vs _ S fun v H1 Z1 z1 k1 S1 r => by
   cases r with
   | lst hq rr =>
     refine ⟨_, _, rfl, .inl ⟨hq, fun l hl => ?_⟩⟩
     obtain ⟨a, c, S2⟩ := (bK.oZ (aA.g6 S1.tp hi rr) S1).Bq (by simp [rr.length]) hl
     obtain ⟨Z3, z3, S3⟩ := S2.Bo
     rw [T.cT, f7] at S3
     exact k _ _ Z3 (z1.trans (a.trans z3)) (k1.trans c) S3)
theorem nu {tl Ep : List T} {pa pb : Pos} (n : Vn X i x) (h0 : δ[i]? = some (some (.lst Ep))) (h : bY X CL b e δ t δ1) (h1 : δ1[i]? = some (some (.lst tl))) (hl : tl.length <= 1000000) (k : eO X CL b fc (δ1.set i (some (.lst (tl ++ [t])))) DD)
   (vJ : attributeBase (.Name x pp) "append" X.env (eval (.Name x pp) X.env) = eval (.Name x pp) X.env := by rfl)
   (Bk : ((backTo pb (starEach [e] X.env)).all (fun x => !x.1) && (backToKw pb (keywordEach [] X.env)).all (fun x => x.1.isSome) && decide ([e].length + ([] : List Keyword).length + (if ([] : List Keyword).isEmpty then 0 else 1) < 30)) = true := by rfl)
   (hline : (pa.endLine == pb.line) = true := by rfl) (hs : starEach [e] X.env = (false, eval e X.env) :: starEach [] X.env := by exact bR rfl) (z7 : swapsWith (.Call (.Attribute (.Name x pp) "append" pa) [e] [] pb) none pos.line X.env = pure false := by rfl) :
   eO X CL b (.Expr (.Call (.Attribute (.Name x pp) "append" pa) [e] [] pb) pos :: fc) δ DD :=
 dG (JV i h0 h h1 (Nat.lt_of_le_of_lt hl (by rw [Wb]; decide)) k n.hi n.hv n.hd n.gY vJ Bk hline hs z7)
theorem HX {tl : List T} {k : Int} {j : Nat} {ps : Pos} (n : Vn X i x) (h : bY X CL b e δ t δ1) (h2 : bW X CL b e2 δ1 (.int k) δ1) (h1 : δ1[i]? = some (some (.lst tl))) (hk : zU tl.length k = some j) (kk : eO X CL b fc (δ1.set i (some (.lst (tl.set j t)))) DD)
   (ha : ∀ v, assign (.Subscript (.Name x pp) e2 ps) X.env v = (do
     let ov ← holding [v] (eval (.Name x pp) X.env)
     let iv ← holding [v, ov] (eval e2 X.env)
     standAt ps
     holding [v, ov, iv] (setItem ov iv v)
     release [v, ov, iv] []) := by intro _; rfl)
   (hs : swapsWithSole [.Subscript (.Name x pp) e2 ps] e pos.line X.env = pure false := by rfl) (hw : swappedStores [.Subscript (.Name x pp) e2 ps] e X.env = pure none := by rfl) (T6 : (assignEach [.Subscript (.Name x pp) e2 ps] X.env).map (·.2) = [assign (.Subscript (.Name x pp) e2 ps) X.env] := by rfl) :
   eO X CL b (.Assign [.Subscript (.Name x pp) e2 ps] e pos :: fc) δ DD := by
 refine dG fun H Z σ ts vs E S M => vP (IW cU (IV (lY n.hi n.hv n.hd n.gY) cU set_list ha) hs hw T6) (h H Z σ ts vs _ S fun v H1 Z1 z1 k1 S1 => ?_)
 have hj : j < tl.length := (sf hk).2.1
 obtain ⟨v0, e0, _⟩ := S1.look h1
 refine ⟨v0, e0, ?_⟩
 refine h2 H1 Z1 σ _ _ _ S1 fun v2 H2 Z2 z2 k2 S2 r2 => ?_
 obtain ⟨a, us, ea, Bp, hu, S3⟩ := S2.setAt h1 hj
 rw [e0] at ea
 cases ea
 exact ⟨a, us, k, j, rfl, r2.sc rfl, Bp, by rw [hu]; exact hk, M.nx _ σ _ Z2 (z1.trans z2) S3 kk⟩
theorem cB {n : Nat} (hn : ds.length = n) (hm : X.mg "len" = none) (h : bW X CL b e δ (.lst ds) δ1) (hg : Gl X "len") (hs : starEach [e] X.env = (false, eval e X.env) :: starEach [] X.env := by exact bR rfl) : bY X CL b (.Call (.Name "len" pp) [e] [] pos) δ (.sh (.int n)) δ1 := by
 subst hn
 exact n9 hm h hg hs
theorem dB (h : bY X CL b e δ (.lst (ds.map T.sh)) δ1) : bW X CL b e δ (.lst ds) δ1 := by
 have := HN h
 rwa [T.cT, f7] at this
theorem Ex {R1 : List L3.D} (h : bY X CL b e δ (.lst (ds.map T.sh)) δ1) (e' : ds = R1) : bW X CL b e δ (.lst R1) δ1 := e' ▸ dB h
end
theorem mD {α : Type} {f : α -> D} {l : List α} {k : Int} (z : α) (h0 : 0 <= k) (h1 : k < l.length) : nO (l.map f) k = some (f (l.getD k.toNat z)) := by
 obtain ⟨j, rfl⟩ : ∃ j : Nat, k = j := ⟨k.toNat, by omega⟩
 refine fZ ?_
 have hl : j < l.length := by omega
 rw [Wn, V2 hl]
 simp [List.getD, hl]
theorem BF {α β : Type} {f : α -> β} {l : List α} {lo hi : Option Int} : cutD (l.map f) lo hi = (cutD l lo hi).map f := by
 unfold cutD
 rw [VL, List.map_take, List.map_drop]
theorem fQ {α : Type} {f : α -> D} (h : ∀ a, (f a).g6 = true) : ∀ (l : List α), D.bw (l.map f) = true
 | [] => rfl
 | a :: l => by rw [Wg, D.bw, h a, fQ h l]; rfl
section
variable {X : Cx} {CL : Str -> Addr} {b : Bx} {δ δ1 δ2 δ3 : List (Option T)} {e e1 e2 e3 : Expr} {es : List Expr} {d d1 d2 : D} {ds : List D} {pos p2 pp : Pos} {n m : Nat} {i : Nat} {x : Str} {t : T} {fc : List Stmt} {DD : cC}
theorem Ey {k : Int} {u : Tok} (hm : X.mg x = some (.int k u)) (hg : Gl X x) (hd : (x == ("__debug__" : Str)) = false := by decide) : bY X CL b (.Name x pos) δ (.sh (.int k)) δ := fun H Z σ ts vs Q S kk =>
 cL (DS (v := .int k) hg hm ⟨u, rfl⟩ hd) (kk _ H Z (.refl _) (.refl _) (S.push (.int k)))
theorem BG {k : Int} (hm : ∃ u, X.mg x = some (.int k u)) (hg : Gl X x) (hd : (x == ("__debug__" : Str)) = false := by decide) : bY X CL b (.Name x pos) δ (.sh (.int k)) δ := by
 obtain ⟨u, hm⟩ := hm
 exact Ey hm hg hd
theorem vE (n : Vn X i x) (h : δ[i]? = some (some t)) (e : t.cT = d) : bW X CL b (.Name x pos) δ d δ := e ▸ vB n h
theorem ia (x : Str) : ∀ l : List Str, HJ (.str x) (l.map V.str) = decide (x ∈ l)
 | [] => by simp [HJ]
 | y :: l => by
   have ih := ia x l
   unfold HJ at ih ⊢
   rw [Wg, List.any_cons, ih]
   by_cases h : y = x
   . subst h; simp [AV]
   . have h' : ¬ x = y := fun e => h e.symm
     simp [AV, h, h']
theorem aA.strs {K : PySem.W.Frag} {Z : Hp} : ∀ {l : List Str} {vs : List V}, aA K CL Z (l.map D.str) vs -> vs = l.map V.str
 | [], _, r => by
   have r' : aA K CL Z [] _ := r
   cases r'; rfl
 | y :: l, _, r => by
   have r' : aA K CL Z (D.str y :: l.map D.str) _ := r
   cases r' with
   | cons r1 r2 => rw [r1.sc rfl, aA.strs r2]; rfl
theorem cJ : ∀ l : List Str, (l.map V.str).all ko = true
 | [] => rfl
 | y :: l => by rw [Wg, List.all_cons, cJ l]; rfl
theorem MT {l : List Str} (h1 : bW X CL b e1 δ (.str x) δ1) (h2 : bW X CL b e2 δ1 (.tup (l.map .str)) δ2) (hm : behindInMarks .In e2 = false) :
   kU X CL b (.Compare e1 [.In] [e2] pos) δ (decide (x ∈ l)) δ2 /\ bY X CL b (.Compare e1 [.In] [e2] pos) δ (.sh (.bl (decide (x ∈ l)))) δ2 := by
 constructor
 . intro H Z σ ts vs Q S k
   refine vO (ju fH cU cU hm) (h1 H Z σ ts vs _ S fun v1 H1 Z1 z1 k1 S1 r1 => h2 H1 Z1 σ ts vs _ S1 fun v2 H2 Z2 z2 k2 S2 r2 => ?_)
   cases r2 with
   | tup hq rr =>
     have e := rr.strs
     subst e
     refine ⟨_, _, rfl, .inr hq, by rw [r1.sc rfl]; rfl, cJ l, _, rfl, ?_⟩
     rw [Vx VB, r1.sc rfl, ia]
     exact k H2 Z2 (z1.trans z2) (k1.trans k2) S2
 . intro H Z σ ts vs Q S k
   refine cL (jt fH cU cU hm) (h1 H Z σ ts vs _ S fun v1 H1 Z1 z1 k1 S1 r1 => h2 H1 Z1 σ ts vs _ S1 fun v2 H2 Z2 z2 k2 S2 r2 => ?_)
   cases r2 with
   | tup hq rr =>
     have e := rr.strs
     subst e
     refine ⟨_, _, rfl, .inr hq, by rw [r1.sc rfl]; rfl, cJ l, ?_⟩
     rw [Vx VB, r1.sc rfl, ia]
     exact k _ H2 Z2 (z1.trans z2) (k1.trans k2) (S2.push (.bl _))
theorem BH {l : List Str} {j : Nat} (h1 : bW X CL b e1 δ (.str x) δ1) (h2 : xT X CL b es δ1 ((l.map D.str).map T.sh) δ2) (hl : (l.map D.str).length <= sizeLine := by exact aC rfl) :
   kU X CL b (.Compare e1 [.In] [.Tuple es j p2] pos) δ (decide (x ∈ l)) δ2 /\ bY X CL b (.Compare e1 [.In] [.Tuple es j p2] pos) δ (.sh (.bl (decide (x ∈ l)))) δ2 := MT h1 (ah (bL h2 hl)) rfl
theorem Ez {p : Bool} (hm : X.mg "int" = none) (h : bW X CL b e δ (.bl p) δ1) (hg : Gl X "int") (hs : starEach [e] X.env = (false, eval e X.env) :: starEach [] X.env := by exact bR rfl) : bY X CL b (.Call (.Name "int" pp) [e] [] pos) δ (.sh (.int (if p then 1 else 0))) δ1 := fun H Z σ ts vs Q S k =>
 cL (jv zO hg hm Aa (cA cU eK hs) (he := hs)) (h H Z σ ts vs _ S fun v H1 Z1 z1 k1 S1 r => .inr ⟨p, by rw [r.sc rfl], k _ H1 Z1 z1 k1 (S1.push (.int _))⟩)
def pF : Expr -> Option Str
 | .Constant (.str x) _ _ => some x
 | _ => none
def mE : List Expr -> Option (List Str)
 | [] => some []
 | e :: es => (pF e).bind fun x => (mE es).map (x :: ·)
theorem vY {e : Expr} {x : Str} (h : pF e = some x) : ∃ j p, e = .Constant (.str x) j p := by
 unfold pF at h
 split at h
 . cases h; exact ⟨_, _, rfl⟩
 . cases h
theorem k7 : ∀ {es : List Expr} {l : List Str}, mE es = some l -> xT X CL b es δ ((l.map D.str).map T.sh) δ
 | [], l, h => by
   have e : l = [] := (VR h).symm
   subst e
   exact eZ
 | e :: es, l, h => by
   rw [mE] at h
   obtain ⟨x, hx, h⟩ := Option.bind_eq_some_iff.mp h
   obtain ⟨l', hl, rfl⟩ := Option.map_eq_some_iff.mp h
   obtain ⟨j, p, rfl⟩ := vY hx
   exact fB bF (k7 hl)
end
theorem BI {α : Type} {l : List α} {k : Int} (z : α) (h0 : 0 <= k) (h1 : k < l.length) : nO l k = some (l.getD k.toNat z) := by
 obtain ⟨j, rfl⟩ : ∃ j : Nat, k = j := ⟨k.toNat, by omega⟩
 refine fZ ?_
 have hl : j < l.length := by omega
 rw [V2 hl]
 simp [List.getD, hl]
theorem str_len (x y : Str) : (x ++ y).length = x.length + y.length := by
 show (x.cps ++ y.cps).size = _
 rw [Array.size_append]; rfl
theorem mF (x y : Str) (h1 : PyData.strOk x = true) (h2 : PyData.strOk y = true) : PyData.strOk (x ++ y) = true := by
 unfold PyData.strOk at *
 show (x.cps ++ y.cps).all _ = true
 rw [Array.all_append, h1, h2]; rfl
theorem ny (l : List Int) : T.cV ((l.map D.int).map T.sh) = true := by
 rw [Wu]
 induction l with
 | nil => rfl
 | cons i r ih => rw [Wg, T.cV, ih]; rfl
section
variable {X : Cx} {tg : Expr}
end
section
variable {X : Cx} {CL : Str -> Addr} {b : Bx} {δ δ1 : List (Option T)} {e : Expr} {ds : List D} {tg : Expr} {pr pc : Pos}
end
section
variable {K : PySem.W.Frag} {CL : Str -> Addr} {b : Bx} {H Z : Hp} {δ : List (Option T)} {σ : L2.St} {ts tt : List T} {vs : List V} {t : T}
end
section
variable {X : Cx} {CL : Str -> Addr} {b : Bx} {δ : List (Option T)} {tt : List T} {t : T} {i : Nat} {x : Str} {pp pc ps : Pos} {kj : Nat}
end
section
variable {X : Cx} {CL : Str -> Addr} {b : Bx} {δ δ1 : List (Option T)} {e : Expr} {ds : List D} {t : T} {i : Nat} {x : Str} {pos pp p2 : Pos} {kj : Nat}
end
section
variable {K : PySem.W.Frag} {CL : Str -> Addr} {b : Bx} {H H' Z Z' : Hp} {δ δ' : List (Option T)} {σ σ' : L2.St} {ts tl : List T} {vs us : List V} {t : T} {v : V}
theorem gM.get : ∀ {fs : List (Str × D)} {gs : List (Str × V)} {f : Str} {d : D}, gM K CL Z fs gs -> fs.lookup f = some d -> ∃ v, gs.lookup f = some v /\ aR K CL Z d v
 | _, _, _, _, .nil, e => by simp at e
 | _, _, f, d, .cons (x := x) r t, e => by
   rw [V8] at e ⊢
   cases h : f == x with
   | true => rw [h] at e; cases e; exact ⟨_, rfl, r⟩
   | false => rw [h] at e; exact gM.get t e
def qG (f : Str) (t : T) : List (Str × T) -> List (Str × T)
 | [] => [(f, t)]
 | (g, x) :: r => if g = f then (g, t) :: r else (g, x) :: qG f t r
theorem bG.length : ∀ {fs : List (Str × T)} {gs : List (Str × V)} {fp : List Addr}, bG K CL H Z fs gs fp -> fs.length = gs.length
 | _, _, _, .nil => rfl
 | _, _, _, .cons _ r => by rw [VX, VX, bG.length r]
theorem bG.put {f : Str} {g : List Addr} (q : bV K CL H Z t v g) : ∀ {fs : List (Str × T)} {gs : List (Str × V)} {fp : List Addr}, bG K CL H Z fs gs fp →
   ∃ yQ f', bG K CL H Z (qG f t fs) (fL f v gs) yQ /\ f'.Sublist fp /\ yQ.Perm (g ++ f')
 | _, _, _, .nil => ⟨g ++ [], [], .cons q .nil, V9 _, Xm _⟩
 | _, _, _, .cons (x := x) (fp := fp) (gp := gp) r rs => by
   rw [qG, fL]
   by_cases h : x = f
   . rw [Vy h, Vy h]
     exact ⟨g ++ gp, gp, .cons q rs, WD _ _, Xm _⟩
   . rw [Vx h, Vx h]
     obtain ⟨p, p', h1, h2, h3⟩ := bG.put (f := f) q rs
     refine ⟨fp ++ p, fp ++ p', .cons r h1, Wa (V9 _) h2, (Wq fp h3).trans ?_⟩
     rw [← VA, ← VA]
     exact Wj.append_right p'
theorem bK.J5 {a : Addr} {o : HO} {yQ gp fp JT : List Addr} {δ2 : List (Option T)} (hm : fW o = false) (S : bK K CL b H Z δ σ ts vs) (own : ∀ c ∈ fp ++ gp, Z c = none /\ b.B c = none) (ha : a ∈ fp ++ gp)
   (e' : dF K CL (upd H a o) Z δ2 σ yQ) (r' : aJ K CL (upd H a o) Z tl us JT) (pm : (yQ ++ JT).Nodup) (sub : ∀ c ∈ yQ ++ JT, c ∈ fp ++ gp) :
   bK K CL b (upd H a o) Z δ2 σ tl us := by
 have oa := own a ha
 refine ⟨⟨_, _, e', r', pm, fun c hc => own c (sub c hc)⟩, fun c u q => ?_, S.zz, fun c u q => ?_, S.new, fun c u q i => ?_, S.tab⟩
 . rw [au (az q oa.2)]; exact S.bh c u q
 . rw [au (az q oa.1)]; exact S.zh c u q
 . by_cases hc : c = a
   . subst hc; rw [aK] at q; cases q; rw [hm] at i; cases i
   . rw [au hc] at q; exact S.tp c u q i
theorem bK.setField {i : Nat} {x : Addr} {c f : Str} {fs : List (Str × T)} (S : bK K CL b H Z δ σ (t :: ts) (v :: vs)) (hi : δ[i]? = some (some (.pin x (.ins c fs)))) :
   ∃ dx gs, σ[i]? = some (some (.ref x)) /\ H x = some (.ins (CL c) dx gs) /\ gs.length = fs.length /\ bK K CL b (upd H x (.ins (CL c) dx (fL f v gs))) Z (δ.set i (some (.pin x (.ins c (qG f t fs))))) σ ts vs := by
 obtain ⟨fp, gp, e, r, nd, k⟩ := S.rep
 obtain ⟨v0, f1, f2, f3, hv, n6, rt, put, _⟩ := e.get hi
 subst n6
 cases rt with
 | pin rt =>
 cases rt with
 | @ins a dx _ gs _ g ha rs =>
   cases r with
   | @cons _ _ _ _ ft gr q1 q2 =>
     have ne : ∀ c ∈ (f1 ++ (g ++ f3)) ++ (ft ++ gr), c ≠ x := fun c hc e => by
       subst e
       have hp : ((f1 ++ ((c :: g) ++ f3)) ++ (ft ++ gr)).Perm (c :: ((f1 ++ (g ++ f3)) ++ (ft ++ gr))) := by
         rw [V7, ← V7]
         exact (List.perm_middle.append_right _)
       exact (WZ.mp (hp.nodup_iff.mp nd)).1 hc
     refine ⟨dx, gs, hv, ha, rs.length.symm, ?_⟩
     have T7 := q1.mono (H' := upd H x (.ins (CL c) dx (fL f v gs))) (.refl _) fun c hc => au (ne c (by simp [hc]))
     have T8 := rs.mono (H' := upd H x (.ins (CL c) dx (fL f v gs))) (.refl _) fun c hc => au (ne c (by simp [hc]))
     obtain ⟨p, p', h1, h2, h3⟩ := bG.put (f := f) T7 T8
     have r1 : bV K CL (upd H x (.ins (CL c) dx (fL f v gs))) Z (.pin x (.ins c (qG f t fs))) (.ref x) (x :: p) := .pin (.ins aK h1)
     have e2 := put (H' := upd H x (.ins (CL c) dx (fL f v gs))) (.refl _) (fun c hc => au (ne c (by
       rcases VZ.mp hc with h | h
       . simp [h]
       . simp [h]))) r1
     rw [pA hv] at e2
     have hp : ((f1 ++ ((x :: p) ++ f3)) ++ gr).Perm ((f1 ++ ((x :: p') ++ f3)) ++ (ft ++ gr)) := by
       have h4 : ((f1 ++ ((x :: p) ++ f3)) ++ gr).Perm ((f1 ++ ((x :: (ft ++ p')) ++ f3)) ++ gr) := ((h3.cons x).append_right f3).append_left f1 |>.append_right gr
       refine h4.trans ?_
       simp only [V7, VA]
       refine Wq f1 (List.Perm.cons x ?_)
       have := (Wj (l₁ := ft) (l₂ := p' ++ f3)).append_right gr
       simp only [VA] at this
       exact this
     have sb : ((f1 ++ ((x :: p') ++ f3)) ++ (ft ++ gr)).Sublist ((f1 ++ ((x :: g) ++ f3)) ++ (ft ++ gr)) :=
       Wa (Wa (V9 _) (Wa (List.Sublist.cons₂ x h2) (V9 _))) (V9 _)
     exact S.J5 rfl k (by simp) e2 (q2.mono (.refl _) fun c hc => au (ne c (by simp [hc]))) (hp.nodup_iff.mpr (nd.sublist sb)) fun c hc => sb.subset (hp.mem_iff.mp hc)
end
section
variable {X : Cx} {CL : Str -> Addr} {b : Bx} {δ δ1 δ2 : List (Option T)} {e : Expr} {es : List Expr} {t : T} {d : D} {c f x : Str} {fs : List (Str × D)} {pos pp : Pos} {DD : cC} {i : Nat}
theorem sF (hc : vo X.K (CL c)) (n : aY X.K (CL c) f) (h : bW X CL b e δ (.ins c fs) δ1) (hl : fs.lookup f = some d) (hb : attributeBase e f X.env (eval e X.env) = eval e X.env := by rfl) :
   bW X CL b (.Attribute e f pos) δ d δ1 := fun H Z σ ts vs Q S k =>
 cL (Bb cU hb) (h H Z σ ts vs _ S fun v H' Z' z s S' r => by
   cases r with
   | @ins a dx _ gs _ ha rf =>
     obtain ⟨w, hw, Jp⟩ := rf.get hl
     exact ⟨a, CL c, dx, gs, w, rfl, ha, hc, n, hw, k w H' Z' z s S' Jp⟩)
theorem BJ (hc : vo X.K (CL c)) (n : aY X.K (CL c) f) (h : bY X CL b e δ (.sh (.ins c fs)) δ1) (hl : fs.lookup f = some d) (hb : attributeBase e f X.env (eval e X.env) = eval e X.env := by rfl) :
   bY X CL b (.Attribute e f pos) δ (.sh d) δ1 := fun H Z σ ts vs Q S k =>
 cL (Bb cU hb) (h H Z σ ts vs _ S fun v H' Z' z s S' => by
   obtain ⟨fp, gp, _, r, _, _⟩ := S'.rep
   cases r with
   | cons r _ =>
     cases r with
     | sh r =>
       cases r with
       | @ins a dx _ gs _ ha rf =>
         obtain ⟨w, hw, Jp⟩ := rf.get hl
         exact ⟨a, CL c, dx, gs, w, rfl, S'.zh _ _ ha, hc, n, hw, k w H' Z' z s (S'.pop.push Jp)⟩)
theorem k8 {fc : List Stmt} {a : Addr} {gs : List (Str × T)} {pa pb pc : Pos} (hc : vo X.K (CL c)) (n : aY X.K (CL c) f) (nm : Vn X i x) (h : bY X CL b e δ t δ1) (h1 : δ1[i]? = some (some (.pin a (.ins c gs)))) (hl : gs.length < 1000)
   (k : eO X CL b fc (δ1.set i (some (.pin a (.ins c (qG f t gs))))) DD) (hs : swapsWith e (some (.Attribute (.Name x pa) f pb)) pc.line X.env = pure false := by rfl) :
   eO X CL b (.Assign [.Attribute (.Name x pa) f pb] e pc :: fc) δ DD := dG fun H Z σ ts vs E S M =>
 vP (Jj (lY nm.hi nm.hv nm.hd nm.gY) cU hs) (h H Z σ ts vs _ S fun v H' Z' z s S' => by
   obtain ⟨dx, ws, hv, hx, hlen, S2⟩ := S'.setField (f := f) h1
   exact ⟨.ref a, hv, a, CL c, dx, ws, rfl, hx, hc, n, by rw [hlen]; exact hl, M.nx _ σ _ Z' z S2 k⟩)
end
def MV (K : PySem.W.Frag) (CL : Str -> Addr) {A : Type} (c : Str) (n : Nat) (arg : A -> List D) (Pre : A -> Prop) (res : A -> List (Str × T)) : Sp := fun vs H Q _ =>
 ∃ (W H0 : Hp) (a : A) (x dx : Addr) (us : List V), vs = .ref x :: us /\ H0 x = none /\ H0 dx = none /\ dx ≠ x /\ H = upd (upd H0 dx (.own x)) x (.ins (CL c) dx []) ∧
   ay W H0 /\ (∀ c o, H0 c = some o -> fW o = true -> W c = some o) /\ aA K CL W (arg a) us /\ (arg a).length + 1 = n /\ Pre a /\ iZ CL W ∧
   ∀ H' W' fp, ay H0 H' -> ay W W' -> ay W' H' -> (∀ c o, W' c = some o -> W c = none -> H0 c = none) -> (∀ c o, H' c = some o -> fW o = true -> W' c = some o) →
     bV K CL H' W' (.ins c (res a)) (.ref x) fp -> fp.Nodup -> (∀ c ∈ fp, W' c = none /\ H0 c = none) -> Q .non H'
section
variable {X : Cx} {CL : Str -> Addr} {b : Bx} {δ δ1 δ2 : List (Option T)} {e o : Expr} {es : List Expr} {pos pp apos : Pos}
variable {A : Type} {k n : Nat} {f : Addr} {fd : FuncData} {ps : List Str} {arg : A -> List D} {Pre : A -> Prop} {x c m : Str}
theorem EA {res : A -> List (Str × T)} (a : A) (M : Mk X.K (CL c) f) (F : bX X.prog X.w X.K X.mg X.base f6 k f fd ps (MV X.K CL c n arg Pre res)) (hr : dg (k + 1) X.A) (hm : X.mg x = some (.ref (CL c))) (hb : Binds X.K fd ps [])
   (h : HM X CL b (e :: es) δ (arg a) δ1) (hn : (arg a).length + 1 = n) (hp : Pre a) (hc : T.aQ (res a) = true) (hg : Gl X x)
   (qA : (x == ("__debug__" : Str)) = false := by decide) (he : starEach (e :: es) X.env = (false, eval e X.env) :: starEach es X.env := by exact bR rfl) (qB : (backTo pos (starEach es X.env)).any (·.1) = false := by rfl) :
   bY X CL b (.Call (.Name x pp) (e :: es) [] pos) δ (.ins c (res a)) δ1 := fun H Z σ ts vs Q S kk =>
 cL (yM M F hr hg hm hb .nil yO Eg qA he qB) (h H Z σ ts vs _ S fun us H1 Z1 z1 k1 S1 r x dx hx MX ne => by
   rw [Wx]
   refine ⟨H1, H1, a, x, dx, us, rfl, hx, MX, ne, rfl, .refl _, fun _ _ q _ => q, r, hn, hp, S1.z0, fun H' W' fp hh ww wh nw tp rt nd own => ⟨rfl, ?_⟩⟩
   obtain ⟨Z', z', S'⟩ := S1.back hh S1.zh ww wh nw tp rt nd own (.inr (by rw [T.clean]; exact hc))
   exact kk _ H' Z' (z1.trans z') (k1.trans hh) S')
end
theorem yR {P : Program} {w : World} {K : PySem.W.Frag} {mg : Str -> Option Value} {base : Heap} {CL : Str -> Addr} {x qual c : Str} {st : Stmt} {f : Addr} {fd : FuncData} {N ps : List Str} {k : Nat} {A : Type} {arg : A -> List D} {Pre : A -> Prop} {res : A -> List (Str × T)} (F : kI K x qual st f fd) (S : aP N ps (aq st))
   (hb : ∀ (cS : Value) (Ar : Around) (outer : List Env) (s : Shared) (H : Hp) (E : XK) (b : Bx) (a : A) (y : Addr), dg k (Ar.deeper (envOfC qual (aq st) s.heap.objs.size f cS)) -> Pre a →
     eO (oU f6 P w K mg base N qual (aq st) f cS Ar outer s H E).DH CL b (dJ st) (some (.pin y (.ins c [])) :: ((arg a).map (fun d => some (T.sh d)) ++ List.replicate (N.length - ((arg a).length + 1)) none))
       { nx := fun δ => δ[0]? = some (some (.pin y (.ins c (res a)))), rt := fun _ _ => False }) :
   bX P w K mg base f6 (k + 1) f fd ps (MV K CL c ps.length arg Pre res) := by
 refine F.ok S (fun vs H Q E h => ?_) (fun cS Ar outer s H vs Q E hr h => ?_)
 . obtain ⟨W, H0, a, y, dx, us, rfl, _, _, _, _, _, _, r, hl, _⟩ := h
   rw [VX, ← r.length]; exact hl
 . obtain ⟨W, H0, a, y, dx, us, rfl, hy, MX, ne, rfl, wh, tp, r, hl, hp, tb, kk⟩ := h
   have old : ∀ {d : Addr} {o : HO}, H0 d = some o -> upd (upd H0 dx (.own y)) y (.ins (CL c) dx []) d = some o := fun {d o} q => by
     rw [au (az q hy), au (az q MX)]; exact q
   refine ⟨_, HK, hb cS Ar outer s _ E ⟨H0, W⟩ a y hr hp _ W _ [] [] _ ⟨⟨[y] ++ [], [], ?_, .nil, by simp, fun d hd => ?_⟩, fun d o q => old q, .refl _, fun d o q => old (wh d o q), fun d o q z => ?_, fun d o q i => ?_, tb⟩ ⟨fun δ' σ' H' Z' s' S' e => ?_, fun t v H' Z' δ' σ' s' S' e => e.elim, fun _ _ _ _ _ _ e => e.elim, fun _ _ _ _ _ _ e => e.elim⟩⟩
   . unfold L2.start
     rw [Wg, VX, V7, ← r.length]
     exact .cons (.pin (.ins aK .nil)) (fM _ r)
   . have : d = y := by simpa using hd
     subst this
     exact ⟨Jz wh hy, hy⟩
   . have q' : W d = some o := q
     have z' : W d = none := z
     rw [q'] at z'; cases z'
   . by_cases h1 : d = y
     . subst h1; rw [aK] at q; cases q; cases i
     . rw [au h1] at q
       by_cases h2 : d = dx
       . subst h2; rw [aK] at q; cases q; cases i
       . rw [au h2] at q; exact tp d o q i
   . obtain ⟨fp, gp, eE, _, nd, own⟩ := S'.rep
     obtain ⟨v, f1, f2, f3, hv, n6, rt, _, _⟩ := eE.get e
     subst n6
     cases rt with
     | pin rt =>
       refine kk H' Z' f2 S'.bh S'.zz S'.zh S'.new S'.tp rt ?_ fun d hd => own d (by simp [hd])
       have h1 := (Wm.mp nd).1
       exact (Wm.mp (Wm.mp h1).2.1).1
section
variable {X : Cx} {CL : Str -> Addr} {b : Bx} {δ δ1 δ2 : List (Option T)} {e e1 e2 : Expr} {es : List Expr} {t : T} {d : D} {ds EB : List D} {x : Str} {pos pp : Pos} {DD : cC} {i : Nat} {fc body : List Stmt}
theorem EC (g : Gx X) (P : Nat -> List (Option T) -> Prop) (m : Nat) (h0 : P m δ)
   (hs : ∀ m δ, P m δ -> ∃ p δ1, kU X CL b e δ p δ1 ∧
     (p = true -> eO X CL b body δ1 { nx := fun δ2 => ∃ m', m' < m /\ P m' δ2, rt := DD.rt, bk := fun δ2 => eO X CL b fc δ2 DD, ct := fun δ2 => ∃ m', m' < m /\ P m' δ2 }) /\ (p = false -> eO X CL b fc δ1 DD)) :
   eO X CL b (.While e body [] pos :: fc) δ DD := dG fun H Z σ ts vs E S M =>
 vP (A4 (by rw [g.xe]; exact PassesOwn.never) Jy HK) (by
   refine ⟨fun m σ H => ∃ Z2 δ2, ay Z Z2 /\ bK X.K CL b H Z2 δ2 σ ts vs /\ P m δ2, ⟨m, Z, δ, .refl _, S, h0⟩, ?_⟩
   rintro m σ H ⟨Z2, δ2, z2, S2, p2⟩
   obtain ⟨p, δ3, ht, h1, h2⟩ := hs m δ2 p2
   refine ht H Z2 σ ts vs _ S2 fun H3 Z3 z3 k3 S3 => ?_
   cases p with
   | true =>
     rw [Vy rfl]
     refine ⟨fun σ' H' => ∃ m', m' < m /\ ∃ Z2 δ2, ay Z Z2 /\ bK X.K CL b H' Z2 δ2 σ' ts vs /\ P m' δ2, fun σ' H' q => q, ?_⟩
     refine h1 rfl H3 Z3 σ ts vs _ S3 ⟨fun δ' σ' H' Z' s' S' ⟨m', l, q⟩ => ⟨m', l, Z', δ', z2.trans (z3.trans s'), S', q⟩, fun t v H' Z' δ' σ' s' S' q => M.rt t v H' Z' δ' σ' (z2.trans (z3.trans s')) S' q,
       fun δ' σ' H' Z' s' S' q => M.nx δ' σ' H' Z' (z2.trans (z3.trans s')) S' q, fun δ' σ' H' Z' s' S' ⟨m', l, q⟩ => ⟨m', l, Z', δ', z2.trans (z3.trans s'), S', q⟩⟩
   | false =>
     rw [Vx (by decide)]
     exact M.nx δ3 σ H3 Z3 (z2.trans z3) S3 (h2 rfl))
def MY (K : PySem.W.Frag) : R2 := fun x y H Q => ∃ l b xs zs, x = .ref l /\ y = .ref b /\ kW K H l xs /\ kW K H b zs /\ xs.length + zs.length <= sizeLine /\ ∀ p, H p = none -> Q (.ref p) (upd H p (.lst (xs ++ zs)))
theorem ED : mh X (binaryOp .Add) (MY X.K) := by
 intro pins s σ H x y v u Q I rx ry h
 obtain ⟨l, b, xs, zs, rfl, rfl, hH, hB, hz, q⟩ := h
 cases rx
 cases ry
 obtain ⟨its, r, pl, _⟩ := I.list hH
 obtain ⟨J6, r2, T9, _⟩ := I.list hB
 have e1 := r.length
 have e2 := r2.length
 obtain ⟨⟨c1, dd, Ua, sl⟩, ho, hc, n, hd⟩ := pl.isList
 obtain ⟨⟨c2, Ub, Vg, Uc⟩, R3, J7, n2, hd2⟩ := T9.isList
 cases hc; cases J7; cases hd; cases hd2
 refine concat_meets ⟨_, ho, rfl⟩ ⟨_, R3, rfl⟩ noFill_list_add seq_list_add PySem.F.slot_list_add PySem.F.entry_list_add (PySem.F.args_list_add_2 (Value.ref l) (Value.ref b))
   (list_addW l b its.toArray J6.toArray n n2 dd Ub sl Uc (by rw [V0, V0]; omega)) ⟨ho, R3, ?_⟩
 have ea : its.toArray ++ J6.toArray = (its ++ J6).toArray := by simp
 rw [ea]
 exact ⟨.ref _, _, I.Mz (t' := s.toks) (r.append r2) (by rw [V1]; omega), rfl, q _ I.fresh⟩
theorem aA.app {K : PySem.W.Frag} {Z : Hp} : ∀ {ds EB : List L3.D} {vs R4 : List V}, aA K CL Z ds vs -> aA K CL Z EB R4 -> aA K CL Z (ds ++ EB) (vs ++ R4)
 | _, _, _, _, .nil, r2 => r2
 | _, _, _, _, .cons r t, r2 => .cons r (aA.app t r2)
theorem EE (h1 : bW X CL b e1 δ (.lst ds) δ1) (h2 : bW X CL b e2 δ1 (.lst EB) δ2) (i1 : D.bw ds = true) (i2 : D.bw EB = true) (hz : ds.length + EB.length <= sizeLine) :
   bY X CL b (.BinOp e1 .Add e2 pos) δ (.lst ((ds ++ EB).map T.sh)) δ2 := fun H Z σ ts vs Q S k =>
 cL (A6 ED cU cU) (h1 H Z σ ts vs _ S fun v1 H1 Z1 z1 k1 S1 r1 => h2 H1 Z1 σ ts vs _ S1 fun v2 H2 Z2 z2 k2 S2 r2 => by
   have JM := r1.mono k2
   cases JM with
   | lst QD Lv =>
     cases r2 with
     | lst Ud QF =>
       refine ⟨_, _, _, _, rfl, rfl, QD, Ud, by rw [← Lv.length, ← QF.length]; exact hz, fun p hp => ?_⟩
       have rc := aA.app (aA.g6 S2.tp i1 Lv) (aA.g6 S2.tp i2 QF)
       obtain ⟨c, S4⟩ := (bK.oZ rc S2).mq (g0 := []) (by simp [rc.length, Lv.length, QF.length]) hp
       exact k _ _ _ (z1.trans z2) (k1.trans (k2.trans c)) S4)
theorem boot_str : bootBuiltins "str" = some (.type "str") := by decide +kernel
theorem yS {i : Int} (hm : X.mg "str" = none) (hg : Gl X "str") (h : bW X CL b e δ (.int i) δ1) (hi : i.natAbs.log2 < 1920) (hs : starEach [e] X.env = (false, eval e X.env) :: starEach [] X.env := by exact bR rfl) :
   bY X CL b (.Call (.Name "str" pp) [e] [] pos) δ (.sh (.str (toString i))) δ1 := fun H Z σ ts vs Q S k =>
 cL (jv se hg hm boot_str (cA cU eK hs) (he := hs)) (h H Z σ ts vs _ S fun v H1 Z1 z1 k1 S1 r => by
   rw [r.sc rfl]
   exact ⟨i, rfl, hi, k _ H1 Z1 z1 k1 (S1.push (.str _))⟩)
end
structure Fm (X : Cx) (CL : Str -> Addr) (x : Str) (k n : Nat) {A : Type} (arg : A -> List D) (Pre : A -> Prop) (res : A -> List (Str × T)) : Prop where
 ex : ∃ f fd ps, Mk X.K (CL x) f /\ bX X.prog X.w X.K X.mg X.base f6 k f fd ps (MV X.K CL x n arg Pre res) /\ X.mg x = some (.ref (CL x)) /\ Binds X.K fd ps []
 room : dg (k + 1) X.A
def BK (N : List Str) (y : Addr) (c : Str) (ds : List D) : List (Option T) := some (.pin y (.ins c [])) :: (ds.map (fun d => some (T.sh d)) ++ List.replicate (N.length - (ds.length + 1)) none)
section
variable {X : Cx} {CL : Str -> Addr} {b : Bx} {δ δ1 δ2 : List (Option T)} {e e1 e2 o : Expr} {es : List Expr} {d : L3.D} {t : T} {i : Nat} {x c m : Str} {pos pp apos : Pos} {D : cC} {fc : List Stmt} {ds : List L3.D}
theorem Ue {k n : Nat} {A : Type} {arg : A -> List L3.D} {Pre : A -> Prop} {res : A -> List (Str × T)} (a : A) (F : Fm X CL x k n arg Pre res) (hg : Gl X x) (h : HM X CL b (e :: es) δ (arg a) δ1) (hp : Pre a) (hc : T.aQ (res a) = true) (hn : (arg a).length + 1 = n := by rfl)
   (qA : (x == ("__debug__" : Str)) = false := by decide) (he : starEach (e :: es) X.env = (false, eval e X.env) :: starEach es X.env := by exact bR rfl) (qB : (backTo pos (starEach es X.env)).any (·.1) = false := by rfl) :
   bY X CL b (.Call (.Name x pp) (e :: es) [] pos) δ (.ins x (res a)) δ1 := by
 obtain ⟨f, fd, ps, M, F1, m, b⟩ := F.ex
 exact EA a M F1 F.room m b h hn hp hc hg qA he qB
end
theorem k9 {α : Type} {f : Str} {d : α} {fs : List (Str × α)} : ((f, d) :: fs).lookup f = some d := by
 rw [V8, Xe]
theorem eS {α : Type} {f g : Str} {d : α} {fs : List (Str × α)} (h : (f == g) = false) : ((g, d) :: fs).lookup f = fs.lookup f := by
 rw [V8, h]
theorem dU {f : Str} {t : T} : qG f t [] = [(f, t)] := rfl
theorem aZ {f g : Str} {t u : T} {fs : List (Str × T)} (h : ¬ g = f) : qG f t ((g, u) :: fs) = (g, u) :: qG f t fs := by
 rw [qG, Vx h]
section
variable {X : Cx} {CL : Str -> Addr} {b : Bx} {δ δ1 δ2 : List (Option T)} {e1 e2 : Expr} {x : Str} {pos : Pos} {d : L3.D}
theorem sG (x : Int) : ∀ l : List Int, HJ (.int x) (l.map V.int) = decide (x ∈ l)
 | [] => by simp [HJ]
 | y :: l => by
   have ih := sG x l
   unfold HJ at ih ⊢
   rw [Wg, List.any_cons, ih]
   by_cases h : y = x
   . subst h; simp [AV]
   . have h' : ¬ x = y := fun e => h e.symm
     simp [AV, h, h']
theorem aA.ints {K : PySem.W.Frag} {Z : Hp} : ∀ {l : List Int} {vs : List V}, aA K CL Z (l.map D.int) vs -> vs = l.map V.int
 | [], _, r => by
   have r' : aA K CL Z [] _ := r
   cases r'; rfl
 | y :: l, _, r => by
   have r' : aA K CL Z (D.int y :: l.map D.int) _ := r
   cases r' with
   | cons r1 r2 => rw [r1.sc rfl, aA.ints r2]; rfl
theorem ic : ∀ l : List Int, (l.map V.int).all ko = true
 | [] => rfl
 | y :: l => by rw [Wg, List.all_cons, ic l]; rfl
def pG (d : L3.D) : Option (List L3.D) := match d with
 | .lst ds => some ds
 | .tup ds => some ds
 | _ => none
theorem aR.pG {K : PySem.W.Frag} {Z : Hp} {v : V} {ds : List L3.D} (r : aR K CL Z d v) (h : L3.pG d = some ds) : ∃ p us, v = .ref p /\ (kW K Z p us \/ qz K Z p us) /\ aA K CL Z ds us := by
 cases r with
 | tup hq rr => cases h; exact ⟨_, _, rfl, .inr hq, rr⟩
 | lst hq rr => cases h; exact ⟨_, _, rfl, .inl hq, rr⟩
 | non => cases h
 | bl => cases h
 | int => cases h
 | str => cases h
 | any => cases h
 | val => cases h
 | n5 => cases h
 | ins => cases h
theorem sH {l : List Int} {i : Int} (h1 : bW X CL b e1 δ (.int i) δ1) (h2 : bW X CL b e2 δ1 d δ2) (hd : L3.pG d = some (l.map .int)) (hm : behindInMarks .In e2 = false) :
   kU X CL b (.Compare e1 [.In] [e2] pos) δ (decide (i ∈ l)) δ2 /\ bY X CL b (.Compare e1 [.In] [e2] pos) δ (.sh (.bl (decide (i ∈ l)))) δ2 := by
 constructor
 . intro H Z σ ts vs Q S k
   refine vO (ju fH cU cU hm) (h1 H Z σ ts vs _ S fun v1 H1 Z1 z1 k1 S1 r1 => h2 H1 Z1 σ ts vs _ S1 fun v2 H2 Z2 z2 k2 S2 r2 => ?_)
   obtain ⟨p, us, rfl, hq, rr⟩ := aR.pG r2 hd
   have e := rr.ints
   subst e
   refine ⟨_, _, rfl, hq, by rw [r1.sc rfl]; rfl, ic l, _, rfl, ?_⟩
   rw [Vx VB, r1.sc rfl, sG]
   exact k H2 Z2 (z1.trans z2) (k1.trans k2) S2
 . intro H Z σ ts vs Q S k
   refine cL (jt fH cU cU hm) (h1 H Z σ ts vs _ S fun v1 H1 Z1 z1 k1 S1 r1 => h2 H1 Z1 σ ts vs _ S1 fun v2 H2 Z2 z2 k2 S2 r2 => ?_)
   obtain ⟨p, us, rfl, hq, rr⟩ := aR.pG r2 hd
   have e := rr.ints
   subst e
   refine ⟨_, _, rfl, hq, by rw [r1.sc rfl]; rfl, ic l, ?_⟩
   rw [Vx VB, r1.sc rfl, sG]
   exact k _ H2 Z2 (z1.trans z2) (k1.trans k2) (S2.push (.bl _))
theorem EF {l : List Str} (h1 : bW X CL b e1 δ (.str x) δ1) (h2 : bW X CL b e2 δ1 d δ2) (hd : L3.pG d = some (l.map .str)) (hm : behindInMarks .In e2 = false) :
   kU X CL b (.Compare e1 [.In] [e2] pos) δ (decide (x ∈ l)) δ2 /\ bY X CL b (.Compare e1 [.In] [e2] pos) δ (.sh (.bl (decide (x ∈ l)))) δ2 := by
 constructor
 . intro H Z σ ts vs Q S k
   refine vO (ju fH cU cU hm) (h1 H Z σ ts vs _ S fun v1 H1 Z1 z1 k1 S1 r1 => h2 H1 Z1 σ ts vs _ S1 fun v2 H2 Z2 z2 k2 S2 r2 => ?_)
   obtain ⟨p, us, rfl, hq, rr⟩ := aR.pG r2 hd
   have e := rr.strs
   subst e
   refine ⟨_, _, rfl, hq, by rw [r1.sc rfl]; rfl, cJ l, _, rfl, ?_⟩
   rw [Vx VB, r1.sc rfl, ia]
   exact k H2 Z2 (z1.trans z2) (k1.trans k2) S2
 . intro H Z σ ts vs Q S k
   refine cL (jt fH cU cU hm) (h1 H Z σ ts vs _ S fun v1 H1 Z1 z1 k1 S1 r1 => h2 H1 Z1 σ ts vs _ S1 fun v2 H2 Z2 z2 k2 S2 r2 => ?_)
   obtain ⟨p, us, rfl, hq, rr⟩ := aR.pG r2 hd
   have e := rr.strs
   subst e
   refine ⟨_, _, rfl, hq, by rw [r1.sc rfl]; rfl, cJ l, ?_⟩
   rw [Vx VB, r1.sc rfl, ia]
   exact k _ H2 Z2 (z1.trans z2) (k1.trans k2) (S2.push (.bl _))
theorem EG {l : List Str} (h1 : bW X CL b e1 δ (.str x) δ1) (h2 : bW X CL b e2 δ1 d δ2) (hd : L3.pG d = some (l.map .str)) (hm : behindInMarks .NotIn e2 = false) :
   kU X CL b (.Compare e1 [.NotIn] [e2] pos) δ (!decide (x ∈ l)) δ2 /\ bY X CL b (.Compare e1 [.NotIn] [e2] pos) δ (.sh (.bl (!decide (x ∈ l)))) δ2 := by
 constructor
 . intro H Z σ ts vs Q S k
   refine vO (ju kY cU cU hm) (h1 H Z σ ts vs _ S fun v1 H1 Z1 z1 k1 S1 r1 => h2 H1 Z1 σ ts vs _ S1 fun v2 H2 Z2 z2 k2 S2 r2 => ?_)
   obtain ⟨p, us, rfl, hq, rr⟩ := aR.pG r2 hd
   have e := rr.strs
   subst e
   refine ⟨_, _, rfl, hq, by rw [r1.sc rfl]; rfl, cJ l, _, rfl, ?_⟩
   rw [Vy rfl, r1.sc rfl, ia]
   exact k H2 Z2 (z1.trans z2) (k1.trans k2) S2
 . intro H Z σ ts vs Q S k
   refine cL (jt kY cU cU hm) (h1 H Z σ ts vs _ S fun v1 H1 Z1 z1 k1 S1 r1 => h2 H1 Z1 σ ts vs _ S1 fun v2 H2 Z2 z2 k2 S2 r2 => ?_)
   obtain ⟨p, us, rfl, hq, rr⟩ := aR.pG r2 hd
   have e := rr.strs
   subst e
   refine ⟨_, _, rfl, hq, by rw [r1.sc rfl]; rfl, cJ l, ?_⟩
   rw [Vy rfl, r1.sc rfl, ia]
   exact k _ H2 Z2 (z1.trans z2) (k1.trans k2) (S2.push (.bl _))
end
section
variable {X : Cx} {CL : Str -> Addr} {b : Bx} {δ δ1 δ2 : List (Option T)} {e : Expr} {es : List Expr} {d : L3.D} {ds : List L3.D} {t : T} {i : Nat} {x : Str} {pos pp : Pos} {DD : cC} {fc : List Stmt}
theorem bI : xT X CL b [] δ (([] : List L3.D).map T.sh) δ := eZ
theorem aB (h1 : bY X CL b e δ (.sh d) δ1) (h2 : xT X CL b es δ1 (ds.map T.sh) δ2) (hs : starEach (e :: es) X.env = (false, eval e X.env) :: starEach es X.env := by exact bR rfl) : xT X CL b (e :: es) δ ((d :: ds).map T.sh) δ2 := fB h1 h2 hs
theorem gb (h : xT X CL b es δ (ds.map T.sh) δ1) (hl : ds.length <= sizeLine) : bY X CL b (.List es pos) δ (.lst (ds.map T.sh)) δ1 := e7 h (by simpa using hl)
theorem jb (l : List Str) : D.bw (l.map L3.D.str) = true := fQ (fun _ => rfl) _
theorem EH (h : bY X CL b e δ (.lst (ds.map T.sh)) δ1) : bY X CL b e δ (.sh (.lst ds)) δ1 := by
 have := xU h
 rwa [T.cT, f7] at this
theorem MZ {d2 : L3.D} (h : bW X CL b e δ d δ1) (q : d = d2) : bW X CL b e δ d2 δ1 := q ▸ h
theorem bz {t2 : T} (h : bY X CL b e δ t δ1) (q : t = t2) : bY X CL b e δ t2 δ1 := q ▸ h
end
structure EI (Z H Z' H' : Hp) : Prop where
 z : ay Z Z'
 h : ay H H'
 zh : ay Z' H'
 new : ∀ a o, Z' a = some o -> Z a = none -> H a = none
 tp : ∀ a o, H' a = some o -> fW o = true -> Z' a = some o
theorem EI.refl {Z H : Hp} (zh : ay Z H) (tp : ∀ a o, H a = some o -> fW o = true -> Z a = some o) : EI Z H Z H := ⟨.refl _, .refl _, zh, fun a o q z => (by rw [q] at z; cases z), tp⟩
section
variable {K : PySem.W.Frag} {CL : Str -> Addr} {b : Bx} {H H' Z Z' : Hp} {δ : List (Option T)} {σ : L2.St} {ts : List T} {vs : List V}
def M0 (δ : List (Option T)) : List Nat -> List D -> List (Option T)
 | i :: is, d :: ds => M0 (δ.set i (some (.sh d))) is ds
 | _, _ => δ
def vZ (σ : L2.St) : List Nat -> List V -> L2.St
 | i :: is, v :: vs => vZ (σ.set i (some v)) is vs
 | _, _ => σ
end
section
variable {X : Cx} {CL : Str -> Addr} {b : Bx} {δ δ1 : List (Option T)} {ds : List D} {iter tg : Expr} {pos : Pos}
structure sJ (X : Cx) (CL : Str -> Addr) (b : Bx) (δ1 : List (Option T)) (σ : L2.St) (ts : List T) (vs : List V) (Z H : Hp) (ds : List D) (J : It) (H1 : Hp) : Prop where
 ex : ∃ Z1, ay Z Z1 /\ ay H H1 /\ bK X.K CL b H1 Z1 δ1 σ ts vs /\ (∀ i H2, ay Z1 H2 -> i < ds.length -> J.go i H2) ∧
   (∀ i Z2 H2 x H', ay Z1 Z2 -> ay Z2 H2 -> (∀ a o, H2 a = some o -> fW o = true -> Z2 a = some o) -> i < ds.length -> J.HD i H2 x H' -> ∃ Z3 d, ds[i]? = some d /\ EI Z2 H2 Z3 H' /\ aR X.K CL Z3 d x) /\ (∀ H2, ay Z1 H2 -> J.stop ds.length H2)
def O6 (X : Cx) (CL : Str -> Addr) (b : Bx) (tg e : Expr) (δ : List (Option T)) (ds : List D) (δ1 : List (Option T)) : Prop :=
 ∃ wi, PI X tg e wi /\ ∀ (H Z : Hp) (σ : L2.St) (ts : List T) (vs : List V) (R : It -> Hp -> Prop), bK X.K CL b H Z δ σ ts vs -> (∀ J H1, sJ X CL b δ1 σ ts vs Z H ds J H1 -> R J H1) -> wi σ H R
theorem HY (h : Er X CL b tg iter δ ds δ1) : O6 X CL b tg iter δ ds δ1 := by
 obtain ⟨wi, pi, hw⟩ := h
 refine ⟨wi, pi, fun H Z σ ts vs R S k => hw H Z σ ts vs R S fun J H1 ⟨Z1, us, z1, k1, S1, rr, go, yl, st⟩ => k J H1 ⟨Z1, z1, k1, S1, go, fun i Z2 H2 x H' s1 s2 tp hi hy => ?_, st⟩⟩
 obtain ⟨e, hu⟩ := yl i H2 x H' (s1.trans s2) hi hy
 subst e
 obtain ⟨d, hd, rd⟩ := rr.Ed hu
 exact ⟨Z2, d, hd, .refl s2 tp, rd.mono s1⟩
def R5 (X : Cx) (CL : Str -> Addr) (tg : Expr) (is : List Nat) (parts : D -> Option (List D)) : Prop :=
 ∃ t : TG, PG X tg t /\ ∀ (Z H : Hp) (d : D) (ps : List D) (x : V) (σ : L2.St) (Q : L2.St -> Hp -> Prop), ay Z H -> aR X.K CL Z d x -> parts d = some ps -> (∀ ys, aA X.K CL Z ps ys -> Q (vZ σ is ys) H) -> t x σ H Q
def part1 (d : D) : Option (List D) := some [d]
theorem BL {i : Nat} {x : Str} {px : Pos} (hN : X.N.Nodup) (n : Ln X i x) : R5 X CL (.Name x px) [i] part1 :=
 ⟨yG i, r9 hN n.hi n.loc n.hf, fun Z H d ps x σ Q zh r e k => by
   cases e
   exact k [x] (.cons r .nil)⟩
end
structure jc (X : Cx) (scope : Scope) (xs : List Str) (Nc : List Str) (ix : List Nat) : Prop where
 kind : scope.kind = .function
 mw : ∀ y ∈ scope.names, y.2 ≠ .cell
 nd : Nc.Nodup
 names : ∀ y ∈ scope.names, y.2 = .local -> scope.names.lookup y.1 = some .local
 own : ∀ x ∈ xs, scope.names.lookup x = some .local
 frees : ∀ y ∈ scope.names, y.2 = .free -> scope.names.lookup y.1 = some .free /\ (X.env.kindOf y.1 = some .cell \/ X.env.kindOf y.1 = some .free)
 hd : Nc = xs ++ ix.filterMap (X.N[·]?)
 HW : ∀ i ∈ ix, ∃ y, X.N[i]? = some y /\ scope.names.lookup y = some .free
def Ac (σ : L2.St) (ix : List Nat) (os : List (Option V)) : L2.St := os ++ ix.map fun i => (σ[i]?).getD none
section
variable {X : Cx} {scope : Scope} {xs : List Str} {Nc : List Str} {ix : List Nat} {pins : List (Addr × Obj)} {σ : L2.St} {H : Hp} {s : Shared}
theorem v5 {fp : List Addr} (sc : jc X scope xs Nc ix) (I : Inv X pins σ H s) (n6 : ∀ b ∈ fp, fz X pins H b /\ b < s.heap.objs.size) {h' : Heap} {m : Str -> Option Value} {tk : Nat}
   (hn : h'.Ns s.heap.objs.size m) (hk : ∀ b o, s.heap.get? b = some o -> h'.get? b = some o) :
   Inv (ck X scope Nc s.heap.objs.size s H fp) [] (Ac σ ix (List.replicate xs.length none)) H { s with heap := h', toks := tk } := by
 have frees : ∀ y ∈ scope.names, y.2 = .free -> ∃ c, X.env.cells.lookup y.1 = some c := fun y hy e => I.ok.has y.1 (sc.frees y hy e).2
 have sub : ∀ {y : Str} {c : Addr}, (bH X.env scope.names []).lookup y = some c -> X.env.cells.lookup y = some c := fun {y c} e => g7 frees (fun _ _ z => by cases z) e
 have hlen : (Ac σ ix (List.replicate xs.length none)).length = Nc.length := by
   have all : ∀ l : List Nat, (∀ i ∈ l, ∃ y, X.N[i]? = some y /\ scope.names.lookup y = some .free) -> (l.filterMap (X.N[·]?)).length = l.length := by
     intro l
     induction l with
     | nil => intro _; rfl
     | cons i r ih =>
       intro h
       obtain ⟨y, e, _⟩ := h i VJ
       rw [Wy, e]
       show _ + 1 = _ + 1
       rw [ih fun j hj => h j (VH _ hj)]
   unfold Ac
   rw [sc.hd, V1, V1, VL, WN, all ix sc.HW]
 have C0 : s.heap.get? s.heap.objs.size = none := Heap.get?_none_of_le (Vz _)
 refine ⟨⟨I.ok.mod, sc.kind, I.ok.glob, I.ok.blt, Vz _, fun y z c h1 h2 => I.ok.inj y z c (sub h1) (sub h2), fun y hy => ?_, fun y c hf _ => (by cases (show false = true from hf)), I.ok.hd, I.ok.frames, .inl rfl, fun b hb => ⟨Wd (n6 b hb).2, fun y c e => (n6 b hb).1.2.2.2.2.1 y c (sub e)⟩, I.bs, Wk I.ok.DG I.sz, fun b o e hb => ?_, fun b hb hf => ?_, I.stack, I.r6⟩,
   rfl, I.bare, Un.kept hk, ⟨m, hn, fun i y v h1 h2 h3 => ?_⟩, fun y c e => ?_, I.cK.fresh (Vz _), fun y c e => I.iV y c (sub e), fun p hp => absurd (show p ∈ ([] : List (Addr × Obj)) from hp) (by simp), I.cK.kept hk, hlen⟩
 . 
   have O7 : (relabel scope X.env).names.lookup y = some .cell \/ (relabel scope X.env).names.lookup y = some .free := hy
   cases e : scope.names.lookup y with
   | none => 
     have := fq (env := X.env) e
     rcases O7 with q | q <;> (rw [show (relabel scope X.env).names.lookup y = none from this] at q; cases q)
   | some k =>
     have q := cW (env := X.env) e
     have hk : k = .free := by
       by_cases hk : k = .free
       . exact hk
       . have hb : (k == NameKind.free) = false := by simpa using hk
         rw [Vx (by rw [hb]; simp)] at q
         have nc : k ≠ .cell := fun z => by
           subst z
           exact sc.mw _ (Wv e) rfl
         rcases O7 with z | z
         . rw [show (relabel scope X.env).names.lookup y = some k from q] at z
           exact absurd (VR z) nc
         . rw [show (relabel scope X.env).names.lookup y = some k from q] at z
           exact absurd (VR z) hk
     subst hk
     exact fN e
 . 
   rcases (n6 b hb).1.2.2.2.1 with z | z
   . exact I.ok.AZ b o e z
   . exact absurd (V6 (VN e) (Wk I.ok.DG z)) (Xg _)
 . rcases VC.mp (I.rZ b hf) with z | z
   . exact (n6 b hb).1.2.1 z
   . exact (n6 b hb).1.2.2.1 z
 . 
   unfold Ac at h2
   by_cases hi : i < xs.length
   . rw [Xi (by rw [WN]; exact hi), List.getElem?_replicate, Vy hi] at h2
     cases h2
   . obtain ⟨n, rfl⟩ : ∃ n, i = xs.length + n := ⟨i - xs.length, by omega⟩
     rw [WM (by rw [WN]; omega), WN, Nat.add_sub_cancel_left, Wn] at h2
     cases ei : ix[n]? with
     | none => rw [ei] at h2; cases h2
     | some j =>
       rw [ei] at h2
       have BO : (σ[j]?).getD none = some v := VR h2
       have hj : σ[j]? = some (some v) := by
         cases q : σ[j]? with
         | none => rw [q] at BO; cases BO
         | some o => rw [q] at BO; exact congrArg some BO
       obtain ⟨y', M3, J8⟩ := sc.HW j (Wr ei)
       have QG : Nc[xs.length + n]? = some y' := by
         have all : ∀ (l : List Nat) (i : Nat), (∀ j ∈ l, ∃ y, X.N[j]? = some y /\ scope.names.lookup y = some .free) -> l[i]? = some j -> (l.filterMap (X.N[·]?))[i]? = some y' := by
           intro l
           induction l with
           | nil => intro i _ h; simp at h
           | cons a r ih =>
             intro i h hi
             obtain ⟨ya, ea, _⟩ := h a VJ
             rw [Wy, ea]
             cases i with
             | zero =>
               simp at hi
               subst hi
               rw [M3] at ea
               cases ea
               rfl
             | succ i => exact ih i (fun j hj => h j (List.mem_cons_of_mem _ hj)) (by simpa using hi)
         rw [sc.hd, WM (by omega), Nat.add_sub_cancel_left]
         exact all ix n sc.HW ei
       have ey : y' = y := by
         have HZ : Nc[xs.length + n]? = some y := h1
         rw [QG] at HZ
         exact VR HZ
       subst ey
       have oV := (sc.frees (y', .free) (Wv J8) rfl).2
       have J9 : Iw X.env.scope y' := oV.elim (fun z => .inr (.inl z)) (fun z => .inr (.inr z))
       obtain ⟨m0, QH, O8⟩ := I.loc
       obtain ⟨u, ru, lk⟩ := O8 j y' v M3 hj J9
       refine ⟨u, ru, ?_⟩
       rcases lk with ⟨kk, _⟩ | ⟨_, c, hc, m8⟩
       . rcases oV with z | z
         . rw [kk] at z; cases z
         . rw [kk] at z; cases z
       . obtain ⟨c', A0⟩ := fN (env := X.env) (cs := []) J8
         have : c' = c := by
           have := sub A0
           rw [hc] at this
           exact (VR this).symm
         subst this
         obtain ⟨o, ho, hd⟩ := m8
         refine .inr ⟨?_, c', A0, o, hk _ _ ho, hd⟩
         have q := cW (env := X.env) J8
         show (relabel scope X.env).names.lookup y' = some .cell \/ (relabel scope X.env).names.lookup y' = some .free
         rw [show (relabel scope X.env).names.lookup y' = _ from q]
         split
         . exact .inl rfl
         . exact .inr rfl
 . obtain ⟨v, o, ho, hd⟩ := I.cell y c (sub e)
   exact ⟨v, o, hk _ _ ho, hd⟩
def BP (X : Cx) (tg elt : Expr) (ifs : List Expr) (n : Nat) (σ : L2.St) (ix : List Nat) (D : Addr) (N : Hp -> Prop) (xv : V) (os : List (Option V)) (H3 : Hp) : Prop :=
 ∃ t : TG, PG X tg t /\ t xv (Ac σ ix os) H3 fun σ8 H4 => ∃ Lj, Lj.length = n /\ σ8 = Ac σ ix Lj /\ JS X ifs σ8 H4 fun ok H5 =>
   if ok = true then vN X elt σ8 H5 fun y H6 => ∃ acc, H6 D = some (.lst acc) /\ acc.length < sizeLine /\ N (upd H6 D (.lst (acc ++ [y]))) else N H5
theorem xY {elt iter tg : Expr} {pos : Pos} {ifs : List Expr} {J : It} {fp : List Addr} {it : Addr} {tn : Nat -> Heap -> Prop} {G : Addr -> Hp -> Prop} {RR : Value -> Addr -> Result -> Shared -> Prop} {E : Value -> Shared -> Prop}
   (sc : jc X scope xs Nc ix) (hc : X.calm = true) (I : Inv X pins σ H s) (Tn : Turn X.prog X.w X.K tg J fp it tn) (st : tn 0 s.heap) (hf : ∀ b ∈ fp, fz X pins H b)
   (loop : ∀ D, H D = none -> ∃ W : Nat -> Nat -> Hp -> Prop, (∃ m, W 0 m (upd H D (.lst []))) /\ ∀ i m H2, W i m H2 -> (J.stop i H2 /\ G D H2) ∨
     (J.go i H2 /\ ∃ N : Hp -> Prop, (∀ H', N H' -> ∃ m', m' < m /\ W (i + 1) m' H') /\ ∀ xv H3, J.HD i H2 xv H3 -> ∀ C s0 H0 f0 os, os.length = xs.length -> BP (ck X scope Nc C s0 H0 f0) tg elt ifs xs.length σ ix D N xv os H3))
   (QI : ∀ D C s' H', (∃ m, s'.heap.Ns C m) -> (∃ o, s'.heap.get? C = some o /\ ∀ v, o.data ≠ .cell v) -> H' C = none -> (C ≠ X.env.locals /\ C ∉ X.fs /\ X.s₀.heap.objs.size <= C /\ (∀ y c, X.env.cells.lookup y = some c -> c ≠ C) /\ ∀ q ∈ X.pn ++ pins, q.1 ≠ C) -> (∀ h', Heap.SameBut C s'.heap h' -> Inv X pins σ H' { s' with heap := h' }) -> G D H' -> RR (.ref D) C (.ok .next) s') :
   wpAny (model X.prog X.w) X.A (newList []) (fun acc s₃ => wpAny (model X.prog X.w) X.A (newFunctionEnv scope X.env.globals (bH X.env scope.names []) [] X.env.qual none .none (some X.env)) (fun BQ s₄ =>
     codeAny (model X.prog X.w) X.A (.compStart (.ListComp elt [⟨tg, iter, ifs, 0⟩] scope pos) 0 (.ref it) acc { BQ with scope := relabel scope X.env }) (RR acc BQ.locals) s₄) E s₃) E s := by
 refine wpAny_newObj_type ?_
 have I3 : Inv X pins σ (upd H s.heap.objs.size (.lst [])) { s with heap := s.heap.push { cls := .type "list", dict := none, data := .seq ([] : List Value).toArray } } :=
   I.laid (t' := s.toks) (fun b u e => VD _ e) (Vz _) ⟨by show 0 <= sizeLine; exact Wi _, [], 0, .nil, V5 _ rfl⟩
 have hD : H s.heap.objs.size = none := I.cK.fresh (Vz _)
 obtain ⟨W, ⟨m0, w0⟩, turn⟩ := loop _ hD
 have BR : ∀ b ∈ fp, fz X pins (upd H s.heap.objs.size (.lst [])) b /\ b < (s.heap.push { cls := .type "list", dict := none, data := .seq ([] : List Value).toArray }).objs.size := fun b hb => by
   obtain ⟨f0, f1⟩ := hf b hb
   obtain ⟨o, ho, _⟩ := Tn.obj 0 _ st b hb
   have qF := VN ho
   refine ⟨⟨by rw [au (Wd qF)]; exact f0, f1⟩, ?_⟩
   rw [Heap.size_push]; exact Nat.lt_succ_of_lt qF
 have Mb : tn 0 (s.heap.push { cls := .type "list", dict := none, data := .seq ([] : List Value).toArray }) := Tn.keep 0 _ _ st fun b _ o e => VD _ e
 generalize Ug : ({ s with heap := s.heap.push { cls := .type "list", dict := none, data := .seq ([] : List Value).toArray } } : Shared) = s3 at I3 ⊢
 have Ka : s3.heap = s.heap.push { cls := .type "list", dict := none, data := .seq ([] : List Value).toArray } := by rw [← Ug]
 rw [← Ka] at BR Mb
 refine wpAny_newFunctionEnv sc.mw (by intro y hy; simp at hy) (fun h₁ Kc Kd => ?_) sc.kind
 have old : ∀ b o, s3.heap.get? b = some o -> h₁.get? b = some o := fun b o e => (Kd.2 b (Wd (VN e))).trans (VD _ e)
 have J0 := v5 (tk := s3.toks + ([] : List (Str × Value)).length) sc I3 BR Kc old
 have R6 : tn 0 h₁ := Tn.keep 0 _ _ Mb fun b _ o e => old b o e
 have Ic : ∀ s4 : Shared, s4 = { s3 with heap := h₁, toks := s3.toks + ([] : List (Str × Value)).length } -> codeAny (model X.prog X.w) X.A (.compLoop (.ListComp elt [⟨tg, iter, ifs, 0⟩] scope pos) 0 (.ref it) (.ref s.heap.objs.size) (compEnvC scope (bH X.env scope.names []) s3.heap.objs.size X.env)) (RR (.ref s.heap.objs.size) s3.heap.objs.size) s4 := by
   rintro s4 rfl
   have stat : ∀ {H' : Hp}, (∀ b ∈ fp, H' b = none) -> ∀ b ∈ fp, fz (ck X scope Nc s3.heap.objs.size s3 (upd H s.heap.objs.size (.lst [])) fp) [] H' b := fun {H'} hn b hb => by
     obtain ⟨⟨f0, f1, f2, f3, f4, f5⟩, qF⟩ := BR b hb
     refine ⟨hn b hb, Wd qF, fun z => ?_, .inl hb, fun y c e => f4 y c (g7 (fun y hy e => I.ok.has y.1 (sc.frees y hy e).2) (fun _ _ z => by cases z) e), fun p hp => absurd (show p ∈ ([] : List (Addr × Obj)) from hp) (by simp)⟩
     rcases VC.mp (I3.rZ b z) with q | q
     . exact f1 q
     . exact f2 q
   refine sy (fun n s' => ∃ i o H', o.length = xs.length /\ Inv (ck X scope Nc s3.heap.objs.size s3 (upd H s.heap.objs.size (.lst [])) fp) [] (Ac σ ix o) H' s' /\ tn i s'.heap /\ (∀ b ∈ fp, H' b = none) /\ W i n H') ?_ m0 ⟨0, _, _, WN, J0, R6, fun b hb => (BR b hb).1.1, w0⟩
   rintro n s5 ⟨i, o5, H5, Uh, I5, Li, OX, w5⟩
   rcases turn i n H5 w5 with ⟨stop, g⟩ | ⟨go, N, hN, step⟩
   . refine cR (Tn.done (ck X scope Nc s3.heap.objs.size s3 (upd H s.heap.objs.size (.lst [])) fp) rfl rfl rfl hc i [] s5 _ H5 _ I5 (stat OX) Li stop) fun r s6 ⟨hr, I6⟩ => ?_
     subst hr
     obtain ⟨m6, R7, _⟩ := I6.loc
     obtain ⟨oc, Vh, Vi, Lh, QJ, _⟩ := id R7
     have O9 := I3.zJ (Vz s3.heap.objs.size) (H' := fun _ => none) rfl
     refine QI _ _ s6 H5 ⟨m6, R7⟩ ⟨oc, Lh, fun v z => by rw [QJ] at z; cases z⟩ I6.free ⟨O9.2.1, O9.2.2.1, ?_, O9.2.2.2.2.1, O9.2.2.2.2.2⟩ (fun h' M4 => z6 I3 (fun b hb => (BR b hb).1) I6 M4) g
     exact I3.sz
   . refine cR (Tn.item (ck X scope Nc s3.heap.objs.size s3 (upd H s.heap.objs.size (.lst [])) fp) rfl rfl rfl hc i [] s5 _ H5 _ I5 (stat OX) Li go) fun r s6 ⟨u, hr, h6⟩ => ?_
     subst hr
     refine cR h6 fun _ s7 ⟨xv, H7, I7, r7, y7, QK, Ui⟩ => ?_
     have Uj := I7.pinned (stat Ui) (Tn.obj _ _ QK)
     obtain ⟨t, hg, ht⟩ := step xv _ y7 s3.heap.objs.size s3 (upd H s.heap.objs.size (.lst [])) fp o5 Uh
     refine cR (hg _ s7 _ H7 xv u _ Uj r7 ht) fun _ s8 ⟨σ8, H8, I8, R8, Uk, e8, h8⟩ => ?_
     subst e8
     refine cR (Bu I8 h8 rfl) fun ok s9 ⟨H9, I9, q9⟩ => ?_
     have again : ∀ {Ha : Hp} {sa : Shared}, Inv (ck X scope Nc s3.heap.objs.size s3 (upd H s.heap.objs.size (.lst [])) fp) ([] ++ oR fp s7.heap) (Ac σ ix R8) Ha sa -> N Ha -> ∃ m, m < n /\ ∃ i o H', o.length = xs.length /\ Inv (ck X scope Nc s3.heap.objs.size s3 (upd H s.heap.objs.size (.lst [])) fp) [] (Ac σ ix o) H' sa /\ tn i sa.heap /\ (∀ b ∈ fp, H' b = none) /\ W i m H' := fun {Ha sa} Ia na => by
       obtain ⟨m', hm, wa⟩ := hN Ha na
       refine ⟨m', hm, i + 1, R8, Ha, Uk, Ia.iX, Tn.keep _ _ _ QK fun b hb o e => (Ia.pin (b, o) (Vw _ (Vw _ (eH hb e)))).1, fun b hb => ?_, wa⟩
       obtain ⟨o, e, d⟩ := Tn.obj _ _ QK b hb
       exact (Ia.pin (b, o) (Vw _ (Vw _ (eH hb e)))).2.1
     cases ok with
     | false =>
       rw [Vx VB] at q9 ⊢
       exact again I9 q9
     | true =>
       rw [Vy rfl] at q9 ⊢
       refine cR (q9 _ s9 I9) fun v sa ⟨y, Ha, Ia, ra, acc, QL, hlen, na⟩ => ?_
       refine cR (rA (X := ck X scope Nc s3.heap.objs.size s3 (upd H s.heap.objs.size (.lst [])) fp) _ sa _ Ha (.ref s.heap.objs.size) [y] (.ref s.heap.objs.size) [v] (fun _ Hb => Hb = upd Ha s.heap.objs.size (.lst (acc ++ [y]))) Ia rfl (.cons ra .nil) ⟨_, acc, y, rfl, rfl, QL, hlen, rfl⟩) fun _ sb ⟨_, Hb, Ib, _, eb⟩ => ?_
       subst eb
       exact again Ib na
 exact codeAny_compStart_list (Ic _ rfl) (Tn.self _ 0 _ _ _ R6 (Ic _ rfl))
end
def BU (ps : List D) : List (Option T) := ps.map fun p => some (.sh p)
theorem rE : ∀ {ys : List V} {os : List (Option V)} {pre r : L2.St}, os.length = ys.length -> vZ (pre ++ (os ++ r)) (List.range' pre.length ys.length) ys = pre ++ (ys.map some ++ r)
 | [], os, pre, r, h => by
   have : os = [] := List.length_eq_zero_iff.mp h
   subst this
   rfl
 | y :: ys, os, pre, r, h => by
   match os, h with
   | o :: os, h =>
     show vZ ((pre ++ (o :: (os ++ r))).set pre.length (some y)) (List.range' (pre.length + 1) ys.length) ys = _
     rw [List.set_append_right _ _ (Vz _), Nat.sub_self, List.set_cons_zero]
     have := rE (ys := ys) (os := os) (pre := pre ++ [some y]) (r := r) (by simpa using h)
     simp only [V1, VX, WO, VA, List.singleton_append] at this
     rw [this]
     simp
theorem yT {K : PySem.W.Frag} {CL : Str -> Addr} {H Z : Hp} : ∀ {ps : List D} {ys : List V} {δc : List (Option T)} {σc : L2.St}, aA K CL Z ps ys -> dF K CL H Z δc σc [] -> dF K CL H Z (BU ps ++ δc) (ys.map some ++ σc) []
 | _, _, _, _, .nil, e => e
 | _, _, _, _, .cons r rr, e => .cons (fp := []) (gp := []) (.sh r) (yT rr e)
section
variable {X : Cx} {CL : Str -> Addr} {b : Bx} {H Z W1 : Hp} {δ δc : List (Option T)} {σ : L2.St} {ts : List T} {vs : List V} {ds : List D} {scope : Scope} {Nc : List Str} {n : Nat} {ix : List Nat} {elt tg : Expr} {ifs : List Expr} {p : D -> Bool} {g : D -> T} {J : It} {parts : D -> Option (List D)}
def mG (X : Cx) (CL : Str -> Addr) (scope : Scope) (Nc : List Str) (n : Nat) (tg : Expr) (parts : D -> Option (List D)) (ifs : List Expr) (elt : Expr) (δc : List (Option T)) (ds : List D) (p : D -> Bool) (g : D -> T) : Prop :=
 ∀ C s0 H0 f0 b', R5 (ck X scope Nc C s0 H0 f0) CL tg (List.range' 0 n) parts /\ ∀ d, d ∈ ds -> ∃ ps, parts d = some ps /\ ps.length = n /\ O5 (ck X scope Nc C s0 H0 f0) CL b' ifs (BU ps ++ δc) (p d) /\ (p d = true -> bY (ck X scope Nc C s0 H0 f0) CL b' elt (BU ps ++ δc) (g d) (BU ps ++ δc))
theorem pH (S : bK X.K CL b H Z δ σ ts vs) (zw : ay Z W1) (wh : ay W1 H) (tp : ∀ a o, H a = some o -> fW o = true -> W1 a = some o)
   (cap : ∀ H', dF X.K CL H' W1 δc (ix.map fun i => (σ[i]?).getD none) []) (inner : mG X CL scope Nc n tg parts ifs elt δc ds p g)
   (Ul : ∀ i H2, ay W1 H2 -> i < ds.length -> J.go i H2)
   (hy : ∀ i Z2 H2 x H', ay W1 Z2 -> ay Z2 H2 -> (∀ a o, H2 a = some o -> fW o = true -> Z2 a = some o) -> i < ds.length -> J.HD i H2 x H' -> ∃ Z3 d, ds[i]? = some d /\ EI Z2 H2 Z3 H' /\ aR X.K CL Z3 d x)
   (JW : ∀ H2, ay W1 H2 -> J.stop ds.length H2) (hlen : ds.length <= sizeLine) (c : W1 = Z \/ ∀ d ∈ ds, (g d).clean = true) :
   ∀ D, H D = none -> ∃ W : Nat -> Nat -> Hp -> Prop, (∃ m, W 0 m (upd H D (.lst []))) /\ ∀ i m H2, W i m H2 -> (J.stop i H2 /\ ∃ Z2, ay Z Z2 /\ ay H H2 /\ bK X.K CL b H2 Z2 δ σ (.lst ((ds.filter p).map g) :: ts) (.ref D :: vs)) ∨
     (J.go i H2 /\ ∃ N : Hp -> Prop, (∀ H', N H' -> ∃ m', m' < m /\ W (i + 1) m' H') /\ ∀ xv H3, J.HD i H2 xv H3 -> ∀ C s0 H0 f0 os, os.length = n -> BP (ck X scope Nc C s0 H0 f0) tg elt ifs n σ ix D N xv os H3) := by
 intro D hD
 have wD : W1 D = none := wh.free hD
 refine ⟨fun i m H2 => m = ds.length - i /\ i <= ds.length /\ ∃ Z2 xC fp, ay H H2 /\ ay W1 Z2 /\ ay Z2 H2 /\ Z2 D = none /\ (∀ a o, Z2 a = some o -> W1 a = none -> H a = none) /\ (∀ a o, H2 a = some o -> fW o = true -> Z2 a = some o) ∧
   H2 D = some (.lst xC) /\ aJ X.K CL H2 Z2 (((ds.take i).filter p).map g) xC fp /\ fp.Nodup /\ D ∉ fp /\ (∀ a ∈ fp, Z2 a = none /\ H a = none) /\ xC.length <= i, ⟨ds.length, rfl, Wi _, W1, [], [], ay.upd hD, .refl _, wh.trans (ay.upd hD), wD, fun a o q z => ?_, fun a o q i => ?_, aK, .nil, WT, by simp, by simp, by simp⟩, ?_⟩
 . rw [q] at z; cases z
 . by_cases ha : a = D
   . subst ha; rw [aK] at q; cases q; cases i
   . rw [au ha] at q; exact tp a o q i
 . rintro i m H2 ⟨rfl, hi, Z2, xC, fp, hh, wz, zh, zD, nw, QM, Pa, ra, nd, nD, own, Vj⟩
   by_cases qF : i < ds.length
   . refine .inr ⟨Ul i H2 (wz.trans zh) qF, fun H' => ∃ Z2 xC fp, ay H H' /\ ay W1 Z2 /\ ay Z2 H' /\ Z2 D = none /\ (∀ a o, Z2 a = some o -> W1 a = none -> H a = none) /\ (∀ a o, H' a = some o -> fW o = true -> Z2 a = some o) ∧
       H' D = some (.lst xC) /\ aJ X.K CL H' Z2 (((ds.take (i + 1)).filter p).map g) xC fp /\ fp.Nodup /\ D ∉ fp /\ (∀ a ∈ fp, Z2 a = none /\ H a = none) /\ xC.length <= i + 1, fun H' h => ⟨ds.length - (i + 1), by omega, rfl, qF, h⟩, fun xv H3 y C s0 H0 f0 os Um => ?_⟩
     obtain ⟨Z3, d, hd, gr, rd⟩ := hy i Z2 H2 xv H3 wz zh QM qF y
     have Ke : ∀ a, Z2 a = none -> (∃ o, H2 a = some o) -> Z3 a = none := fun a e ⟨o, e2⟩ => by
       cases q : Z3 a with
       | none => rfl
       | some u => rw [gr.new a u q e] at e2; cases e2
     have R9 : ∀ a o, Z3 a = some o -> W1 a = none -> H a = none := fun a o q z => by
       cases e : Z2 a with
       | none => exact hh.free (gr.new a o q e)
       | some u =>
         have := gr.z a u e
         rw [q] at this; cases this
         exact nw a o e z
     have Kf : aJ X.K CL H3 Z3 (((ds.take i).filter p).map g) xC fp := ra.mono gr.z fun a ha => by
       obtain ⟨o, e⟩ := ra.there a ha
       rw [e]; exact gr.h a o e
     have Pb : ∀ a ∈ fp, Z3 a = none /\ H a = none := fun a ha => ⟨Ke a (own a ha).1 (ra.there a ha), (own a ha).2⟩
     have QN : Z3 D = none := Ke D zD ⟨_, Pa⟩
     have Ie : H3 D = some (.lst xC) := gr.h D _ Pa
     have Ka := hh.trans gr.h
     have Pg := wz.trans gr.z
     have Sb := gr.zh
     have Uo := gr.tp
     clear own nw ra zD Pa hh wz zh QM gr Ke
     have QO : d ∈ ds := Wr hd
     have Sd : ds.take (i + 1) = ds.take i ++ [d] := by rw [List.take_add_one, hd]; rfl
     obtain ⟨tgt, Up⟩ := inner C s0 H0 f0 ⟨H3, Z3⟩
     obtain ⟨ps, Uq, qB, it, ie⟩ := Up d QO
     obtain ⟨t, pg, ht⟩ := tgt
     refine ⟨t, pg, ht Z3 H3 d ps xv _ _ Sb rd Uq fun ys Se => ?_⟩
     have QS : ys.length = n := by rw [← Se.length]; exact qB
     have es : vZ (Ac σ ix os) (List.range' 0 n) ys = Ac σ ix (ys.map some) := by
       have := rE (ys := ys) (os := os) (pre := []) (r := ix.map fun i => (σ[i]?).getD none) (by rw [Um, QS])
       rw [QS] at this
       exact this
     refine ⟨ys.map some, by rw [VL]; exact QS, es, ?_⟩
     rw [es]
     have S0 : bK X.K CL ⟨H3, Z3⟩ H3 Z3 (BU ps ++ δc) (Ac σ ix (ys.map some)) [] [] :=
       ⟨⟨[], [], yT Se ((cap H3).mono Pg fun a ha => by cases ha), .nil, WT, fun a ha => by cases ha⟩, .refl _, .refl _, Sb, fun a o q z => (by have z' : Z3 a = none := z; rw [show Z3 a = some o from q] at z'; cases z'), Uo, (S.MF.mono zw).mono Pg⟩
     refine it.TV S0 fun H4 Z4 z4 k4 S4 => ?_
     have QT : ∀ a ∈ fp, H4 a = H3 a := fun a ha => by
       obtain ⟨o, e⟩ := Kf.there a ha
       rw [e]; exact k4 a o e
     have BV : ∀ a, Z3 a = none -> (∃ o, H3 a = some o) -> Z4 a = none := fun a e ⟨o, e2⟩ => by
       cases q : Z4 a with
       | none => rfl
       | some u =>
         have := S4.new a u q e
         rw [show H3 a = none from this] at e2; cases e2
     cases hp : p d with
     | false =>
       refine Eb ⟨Z4, xC, fp, Ka.trans k4, Pg.trans z4, S4.zh, BV D QN ⟨_, Ie⟩, fun a o q z => ?_, S4.tp, k4 D _ Ie, ?_, nd, nD, fun a ha => ⟨BV a (Pb a ha).1 (Kf.there a ha), (Pb a ha).2⟩, by omega⟩
       . cases e : Z3 a with
         | none => exact Ka.free (S4.new a o q e)
         | some u => 
           have := z4 a u e
           rw [q] at this; cases this
           exact R9 a o e z
       . rw [Sd, List.filter_append, List.filter_cons_of_neg (by simp [hp]), List.filter_nil, Wx]
         exact Kf.mono z4 QT
     | true =>
       refine Ec ((ie hp) H4 Z4 (Ac σ ix (ys.map some)) [] [] _ S4 fun yv H5 Z5 z5 k5 S5 => ⟨xC, k5 D _ (k4 D _ Ie), by omega, ?_⟩)
       obtain ⟨f1, g1, e1, r1, MG, M5⟩ := S5.rep
       cases r1 with
       | @cons _ _ _ _ fy fn ry rn =>
         cases rn
         rw [Wx] at MG M5
         have Ur : fy.Nodup := (Wm.mp MG).2.1
         have EJ : ∀ a ∈ fy, Z5 a = none /\ H3 a = none := fun a ha => M5 a (Vw _ ha)
         have xZ : ∀ a, Z3 a = none -> (∃ o, H3 a = some o) -> Z5 a = none := fun a e ⟨o, e2⟩ => by
           cases q : Z5 a with
           | none => rfl
           | some u =>
             have := S5.new a u q e
             rw [show H3 a = none from this] at e2; cases e2
         have yD : ∀ a ∈ fy, a ≠ D := fun a ha e => by
           subst e
           rw [(EJ a ha).2] at Ie; cases Ie
         have Vk : H5 D = some (.lst xC) := k5 D _ (k4 D _ Ie)
         have sD : ay H (upd H5 D (.lst (xC ++ [yv]))) := fun a o q => by
           rw [au (az q hD)]
           exact k5 a o (k4 a o (Ka a o q))
         refine ⟨Z5, xC ++ [yv], fp ++ fy, sD, Pg.trans (z4.trans z5), fun a o q => ?_, xZ D QN ⟨_, Ie⟩, fun a o q z => ?_, fun a o q im => ?_, aK, ?_, ?_, ?_, fun a ha => ?_, ?_⟩
         . rw [au (az q (xZ D QN ⟨_, Ie⟩))]; exact S5.zh a o q
         . cases e : Z3 a with
           | none => exact Ka.free (S5.new a o q e)
           | some u =>
             have := z5 a u (z4 a u e)
             rw [q] at this; cases this
             exact R9 a o e z
         . by_cases ha : a = D
           . subst ha; rw [aK] at q; cases q; cases im
           . rw [au ha] at q; exact S5.tp a o q im
         . rw [Sd, List.filter_append, List.filter_cons_of_pos hp, List.filter_nil, List.map_append]
           refine aJ.app (Kf.mono (z4.trans z5) fun a ha => ?_) (by
             have := aJ.cons (fp := fy) (gp := []) (ry.mono (.refl _) fun a ha => au (yD a ha)) (aJ.nil (H := upd H5 D (.lst (xC ++ [yv]))) (Z := Z5))
             rwa [Wx] at this)
           have : a ≠ D := fun e => nD (e ▸ ha)
           rw [au this]
           obtain ⟨o, e⟩ := Kf.there a ha
           rw [e]; exact k5 a o (k4 a o e)
         . refine Wm.mpr ⟨nd, Ur, fun a ha a' Bp e => ?_⟩
           subst e
           obtain ⟨o, e⟩ := Kf.there a ha
           rw [(EJ a Bp).2] at e; cases e
         . intro h
           rcases VZ.mp h with h | h
           . exact nD h
           . exact yD D h rfl
         . rcases VZ.mp ha with h | h
           . exact ⟨xZ a (Pb a h).1 (Kf.there a h), (Pb a h).2⟩
           . exact ⟨(EJ a h).1, Ka.free (EJ a h).2⟩
         . rw [V1, List.length_singleton]; omega
   . have e : i = ds.length := by omega
     subst e
     refine .inl ⟨JW H2 (wz.trans zh), ?_⟩
     rw [List.take_length] at ra
     obtain ⟨Z', z', S'⟩ := S.back (H' := H2) (W := W1) (W' := Z2) (t := .lst ((ds.filter p).map g)) (v := .ref D) (fp := D :: fp) hh zw wz zh nw QM (.lst Pa ra) (WZ.mpr ⟨nD, nd⟩) (fun a ha => by
       rcases VC.mp ha with h | h
       . subst h; exact ⟨zD, hD⟩
       . exact own a h) (c.imp id fun c => by
         rw [fJ]
         exact pe fun d hd => c d (WX.mp hd).1)
     exact ⟨Z', z', hh, S'⟩
end
section
variable {X : Cx} {CL : Str -> Addr} {b : Bx} {δ δ1 : List (Option T)} {scope : Scope} {xs : List Str} {Nc : List Str} {ix : List Nat} {elt iter tg : Expr} {ifs : List Expr} {pos : Pos} {ds : List D} {p : D -> Bool} {g : D -> T} {δc : List (Option T)} {parts : D -> Option (List D)}
theorem rG {J : It} {fp : List Addr} {it : Addr} {tn : Nat -> Heap -> Prop} {pins : List (Addr × Obj)} {σ : L2.St} {H H1 Z : Hp} {s : Shared} {ts : List T} {vs : List V} {RR : Value -> Addr -> Result -> Shared -> Prop} {E : Value -> Shared -> Prop}
   (sc : jc X scope xs Nc ix) (hc : X.calm = true) (C : sJ X CL b δ1 σ ts vs Z H ds J H1) (I : L2.Inv X pins σ H1 s) (Tn : Turn X.prog X.w X.K tg J fp it tn) (st : tn 0 s.heap) (hf : ∀ b ∈ fp, fz X pins H1 b)
   (hb : (δc = qE δ1 ix /\ ∀ d ∈ ds, (g d).clean = true) \/ δc = vR δ1 ix) (inner : mG X CL scope Nc xs.length tg parts ifs elt δc ds p g) (hlen : ds.length <= sizeLine)
   (QI : ∀ D C s' H' Z', (∃ m, s'.heap.Ns C m) -> (∃ o, s'.heap.get? C = some o /\ ∀ v, o.data ≠ .cell v) -> H' C = none -> (C ≠ X.env.locals /\ C ∉ X.fs /\ X.s₀.heap.objs.size <= C /\ (∀ y c, X.env.cells.lookup y = some c -> c ≠ C) /\ ∀ q ∈ X.pn ++ pins, q.1 ≠ C) -> (∀ h', Heap.SameBut C s'.heap h' -> L2.Inv X pins σ H' { s' with heap := h' }) -> ay Z Z' -> ay H H' -> bK X.K CL b H' Z' δ1 σ (.lst ((ds.filter p).map g) :: ts) (.ref D :: vs) -> RR (.ref D) C (.ok .next) s') :
   wpAny (model X.prog X.w) X.A (newList []) (fun acc s₃ => wpAny (model X.prog X.w) X.A (newFunctionEnv scope X.env.globals (bH X.env scope.names []) [] X.env.qual none .none (some X.env)) (fun BQ s₄ =>
     codeAny (model X.prog X.w) X.A (.compStart (.ListComp elt [⟨tg, iter, ifs, 0⟩] scope pos) 0 (.ref it) acc { BQ with scope := relabel scope X.env }) (RR acc BQ.locals) s₄) E s₃) E s := by
 obtain ⟨Z1, z1, k1, S1, go, yl, Sf⟩ := C.ex
 have lp : ∀ D, H1 D = none -> ∃ W : Nat -> Nat -> Hp -> Prop, (∃ m, W 0 m (upd H1 D (.lst []))) /\ ∀ i m H2, W i m H2 -> (J.stop i H2 /\ ∃ Z2, ay Z1 Z2 /\ ay H1 H2 /\ bK X.K CL b H2 Z2 δ1 σ (.lst ((ds.filter p).map g) :: ts) (.ref D :: vs)) ∨
     (J.go i H2 /\ ∃ N : Hp -> Prop, (∀ H', N H' -> ∃ m', m' < m /\ W (i + 1) m' H') /\ ∀ xv H3, J.HD i H2 xv H3 -> ∀ C s0 H0 f0 os, os.length = xs.length -> BP (ck X scope Nc C s0 H0 f0) tg elt ifs xs.length σ ix D N xv os H3) := by
   rcases hb with ⟨e, cl⟩ | e
   . subst e
     exact pH (W1 := H1) S1 S1.zh (.refl _) (fun _ _ q _ => q) (pB S1 ix) inner (fun i H2 s => go i H2 (S1.zh.trans s)) (fun i Z2 H2 y H' s => yl i Z2 H2 y H' (S1.zh.trans s)) (fun H2 s => Sf H2 (S1.zh.trans s)) hlen (.inr cl)
   . subst e
     exact pH (W1 := Z1) S1 (.refl _) S1.zh S1.tp (vS S1 ix) inner go yl Sf hlen (.inl rfl)
 exact xY sc hc I Tn st hf lp fun D C s' H' m io nC ch ci ⟨Z', z', k', S'⟩ => QI D C s' H' Z' m io nC ch ci (z1.trans z') (k1.trans k') S'
theorem nA (sc : jc X scope xs Nc ix) {pins : List (Addr × Obj)} {σ : L2.St} {H : Hp} {s : Shared} (I : L2.Inv X pins σ H s) : closureFor scope X.env = pure (bH X.env scope.names []) :=
 gk fun y hy e => I.ok.has y.1 (sc.frees y hy e).2
theorem v7 (sc : jc X scope xs Nc ix) (hc : X.calm = true) (h : O6 X CL b tg iter δ ds δ1) (hb : (δc = qE δ1 ix /\ ∀ d ∈ ds, (g d).clean = true) \/ δc = vR δ1 ix) (inner : mG X CL scope Nc xs.length tg parts ifs elt δc ds p g) (hlen : ds.length <= sizeLine)
   (hs : ∀ x, foldedSetIterable iter X.env x = pure x := by intro _; rfl) : bY X CL b (.ListComp elt [⟨tg, iter, ifs, 0⟩] scope pos) δ (.lst ((ds.filter p).map g)) δ1 := fun H Z σ ts vs Q S k pins s I => by
 obtain ⟨wi, pi, hw⟩ := h
 rw [eval_ListComp]
 refine wpAny_comprehension_free (use := none) rfl hs (nA sc I) sc.kind sc.names ?_
 refine cR (pi pins s σ H _ I (hw H Z σ ts vs (fun J H1 => sJ X CL b δ1 σ ts vs Z H ds J H1) S fun J H1 C => C)) fun v s1 h1 => cR h1 fun OV s2 ⟨it, fp, tn, J, H1, e, I1, Tn, st, hf, C⟩ => ?_
 subst e
 refine rG (RR := fun acc C => compPost (model X.prog X.w) X.A X.xe none (EP X pins σ Q) acc C) sc hc C I1 Tn st hf hb inner hlen fun D C' s' H' Z' m io nC ch ci z' k' S' => ?_
 obtain ⟨m, hn⟩ := m
 exact ⟨m, hn, fun h' M4 => ⟨.ref D, H', ci h' M4, rfl, k _ H' Z' z' k' S'⟩⟩
theorem EK {D : cC} {y : Str} {py M6 : Pos} (i : Nat) (sc : jc X scope xs Nc ix) (hc : X.calm = true) (h : O6 X CL b tg iter δ ds δ1) (hb : (δc = qE δ1 ix /\ ∀ d ∈ ds, (g d).clean = true) \/ δc = vR δ1 ix) (inner : mG X CL scope Nc xs.length tg parts ifs elt δc ds p g) (hlen : ds.length <= sizeLine)
   (k : D.nx (δ1.set i (some (.lst ((ds.filter p).map g))))) (hl : i < δ1.length) (hN : X.N.Nodup) (hi : X.N[i]? = some y) (hx : Loc X.env.scope y) (Us : X.fn y = true \/ X.env.scope.names.lookup y = some .local)
   (z7 : swapsWith (.ListComp elt [⟨tg, iter, ifs, 0⟩] scope pos) (some (.Name y py)) M6.line X.env = pure true)
   (hs : ∀ x, foldedSetIterable iter X.env x = pure x := by intro _; rfl) : JB X CL b (.Assign [.Name y py] (.ListComp elt [⟨tg, iter, ifs, 0⟩] scope pos) M6) δ D := fun H Z σ ts vs E S M pins s I => by
 obtain ⟨wi, pi, hw⟩ := h
 rw [exec_Assign_Name_used _ _ _ _ z7]
 refine VG (wpAny_standAt (VG ?_))
 show wpAny _ X.A (do let _ ← comprehension (.ListComp elt [⟨tg, iter, ifs, 0⟩] scope pos) scope X.env _ (newList []) false (eval iter X.env) (some (assign (.Name y py) X.env))) _ _ s
 refine VG (WL (wpAny_comprehension_free (use := some (assign (.Name y py) X.env)) (Q := fun _ s' => SP X pins E .next s') rfl hs (nA sc I) sc.kind sc.names ?_) (fun _ s' hq => Wh (Wh hq)) fun _ _ e => e)
 refine cR (pi pins s σ H _ I (hw H Z σ ts vs (fun J H1 => sJ X CL b δ1 σ ts vs Z H ds J H1) S fun J H1 C => C)) fun v s1 h1 => cR h1 fun OV s2 ⟨it, fp, tn, J, H1, e, I1, Tn, st, hf, C⟩ => ?_
 subst e
 refine rG (RR := fun acc C => compPost (model X.prog X.w) X.A X.xe (some (assign (.Name y py) X.env)) (fun _ s' => SP X pins E .next s') acc C) sc hc C I1 Tn st hf hb inner hlen fun D' C' s' H' Z' m io nC ch ci z' k' S' => ?_
 obtain ⟨m, hn⟩ := m
 obtain ⟨o, ho, m8⟩ := io
 have I' : L2.Inv X pins σ H' s' := ci s'.heap (.refl ..)
 have I2 : L2.Inv X (pins ++ [(C', o)]) σ H' s' := I'.nW fun q hq => by
   rcases VZ.mp hq with z | z
   . exact I'.pin q (Vw _ z)
   . have e : q = (C', o) := by simpa using z
     subst e
     exact ⟨ho, nC, ch.1, ch.2.1, m8⟩
 show wpAny _ X.A (assign (.Name y py) X.env (.ref D')) _ _ s'
 have hg : PG X (.Name y py) (yG i) := r9 hN hi hx Us
 refine cR (hg _ s' σ H' (.ref D') (.ref D') (fun σ8 H8 => σ8 = σ.set i (some (.ref D')) /\ H8 = H') I2 rfl ⟨rfl, rfl⟩) fun _ s8 ⟨σ8, H8, I8, e8, Ut⟩ => ?_
 subst e8
 subst Ut
 obtain ⟨Uu, Uv, _⟩ := I8.pin (C', o) (Vw _ (Vw _ (by simp)))
 refine ⟨m, hn.at' fun o' e' => by rw [ho] at e'; cases e'; exact Uu, fun h' M4 => ?_⟩
 have I9 : L2.Inv X pins (σ.set i (some (.ref D'))) _ s8 := I8.nW fun q hq => I8.pin q (Vw _ (VQ _ hq))
 have Uw := I9.turned (it := C') (h' := h') (t' := s8.toks) (fun b o hb e => (M4.2 b hb).trans e) Uv ch.1.symm.symm (.inr ch.2.2.1) ch.2.2.2.1 ch.2.2.2.2
 exact ⟨_, _, Uw, M.nx _ _ _ Z' z' (S'.set hl) k⟩
theorem Kg {D : cC} {fc : List Stmt} {i : Nat} {x : Str} {pos' pc : Pos} (gx : Gx X) (n : Ln X i x) (sc : jc X scope xs Nc ix) (h : O6 X CL b tg iter δ ds δ1)
   (hb : (δc = qE δ1 ix /\ ∀ d ∈ ds, (g d).clean = true) \/ δc = vR δ1 ix) (inner : mG X CL scope Nc xs.length tg parts ifs elt δc ds p g) (hlen : ds.length <= sizeLine) (k : eO X CL b fc (δ1.set i (some (.lst ((ds.filter p).map g)))) D) (hl : i < δ1.length)
   (z7 : swapsWith (.ListComp elt [⟨tg, iter, ifs, 0⟩] scope pc) (some (.Name x pos')) pos.line X.env = pure true \/ swapsWith (.ListComp elt [⟨tg, iter, ifs, 0⟩] scope pc) (some (.Name x pos')) pos.line X.env = pure false) (hs : ∀ x, foldedSetIterable iter X.env x = pure x := by intro _; rfl) :
   eO X CL b (.Assign [.Name x pos'] (.ListComp elt [⟨tg, iter, ifs, 0⟩] scope pc) pos :: fc) δ D := by
 rcases z7 with z7 | z7
 . exact dG (EK i sc gx.calm h hb inner hlen k hl gx.nd n.hi n.loc n.hf z7 hs)
 . exact dG (Bt i (v7 sc gx.calm h hb inner hlen hs) k hl gx.nd n.hi n.loc z7 n.hf)
theorem Kh {i : Nat} {x : Str} {C : Addr} {s : Shared} {H : Hp} {fp : List Addr} (h1 : Nc[i]? = some x) (h2 : scope.names.lookup x = some .local) (hd : (x == ("__debug__" : Str)) = false := by decide) (gY : (x == ("__classdict__" : Str)) = false := by decide) : Ln (ck X scope Nc C s H fp) i x :=
 ⟨dO h1 h2 hd gY, .inl (lookup_relabel_local h2), .inr (lookup_relabel_local h2)⟩
end
section
variable {X : Cx} {elts : List Expr} {kk : Nat} {pt : Pos}
end
section
variable {X : Cx} {CL : Str -> Addr} {b : Bx} {δ δ1 : List (Option T)} {e : Expr} {ds : List D} {elts : List Expr} {kk : Nat} {pt pr pc : Pos}
end
section
variable {X : Cx}
theorem sL : bootBuiltins "sorted" = some (.builtin "sorted") := by decide +kernel
end
section
variable {X : Cx} {CL : Str -> Addr} {b : Bx} {δ δ1 : List (Option T)} {e : Expr} {pos pp : Pos}
end
section
variable {X : Cx}
end
section
variable {X : Cx} {CL : Str -> Addr} {b : Bx} {δ δ1 : List (Option T)} {e : Expr} {pos pp : Pos}
end
section
variable {prog : Program} {w : World} {A : Around} {s : Shared}
end
section
variable {prog : Program} {w : World} {A : Around} {s : Shared}
end
section
variable {X : Cx}
end
section
variable {X : Cx} {CL : Str -> Addr} {b : Bx} {δ δ1 : List (Option T)} {e : Expr} {ds : List D} {pos pp pq pr : Pos}
end
theorem Kl (n : Nat) {l : List Str} (h : ∀ x ∈ l, PyData.strOk x = true) : fX (n + 1) (.lst (l.map L3.D.str)) := .lst fun d hd => by
 obtain ⟨i, hi, rfl⟩ := Wc.mp hd
 exact .str _ _ (h i hi)
def D.Lw : L3.D -> L3.D
 | .tup (a :: _) => a
 | d => d
section
variable {X : Cx} {CL : Str -> Addr} {b : Bx} {δ δ1 : List (Option T)} {e : Expr} {elts : List Expr} {kk : Nat} {pt pr pc : Pos}
end
section
variable {K : PySem.W.Frag} {CL : Str -> Addr} {b : Bx} {H H' Z Z' : Hp} {δ δ' : List (Option T)} {σ σ' : L2.St} {ts tl : List T} {vs us : List V} {t : T} {v : V}
end
section
variable {X : Cx} {CL : Str -> Addr} {b : Bx} {δ δ1 δ2 : List (Option T)} {e e2 : Expr} {t : T} {tl Ep tt RX : List T} {D : cC} {pos pp pa pb : Pos}
end
section
variable {X : Cx} {CL : Str -> Addr} {b : Bx} {δ δ1 : List (Option T)} {e : Expr} {t : T} {i : Nat} {x : Str} {pos pp : Pos} {DD : cC} {fc : List Stmt}
end
section
variable {X : Cx}
end
section
variable {K : PySem.W.Frag} {CL : Str -> Addr} {b : Bx} {H Z : Hp} {δ : List (Option T)} {σ : L2.St} {ts tl : List T} {vs : List V} {t : T} {v : V}
end
section
variable {X : Cx} {CL : Str -> Addr} {b : Bx} {δ δ1 : List (Option T)} {e : Expr} {t : T} {tl Ep : List T} {D : cC} {pos pp pa pb pc : Pos} {kj i : Nat} {x : Str} {fc : List Stmt}
end
section
variable {X : Cx} {CL : Str -> Addr} {b : Bx} {δ δ1 : List (Option T)} {e : Expr} {pos pp : Pos}
end
section
variable {K : PySem.W.Frag} {CL : Str -> Addr} {b : Bx} {H Z : Hp} {δ : List (Option T)} {σ : L2.St} {ts tl Sg : List T} {vs : List V} {v : V}
end
section
variable {X : Cx} {CL : Str -> Addr} {b : Bx} {δ δ1 : List (Option T)} {e : Expr} {tl Ep Sg : List T} {D : cC} {pos pp pa pb : Pos} {i : Nat} {x : Str} {fc : List Stmt}
end
section
variable {X : Cx} {CL : Str -> Addr} {b : Bx} {e1 e2 : Expr} {δ δ1 δ2 : List (Option T)} {ds : List L3.D} {pos : Pos}
def M7 (K : PySem.W.Frag) : R2 := fun x y H Q => ∃ l k xs, x = .ref l /\ y = .int k /\ kW K H l xs /\ -(2 ^ 63) <= k /\ k < 2 ^ 63 /\ xs.length * k.toNat <= sizeLine ∧
 ∀ p, H p = none -> Q (.ref p) (upd H p (.lst (List.replicate k.toNat xs).flatten))
theorem EL : mh X (binaryOp .Mult) (M7 X.K) := by
 intro pins s σ H x y v u Q I rx ry h
 obtain ⟨l, k, xs, rfl, rfl, hH, h1, h2, hz, q⟩ := h
 cases rx
 obtain ⟨t, rfl⟩ := ry
 obtain ⟨its, r, pl, _⟩ := I.list hH
 have hl := r.length
 obtain ⟨⟨c1, dd, Ua, sl⟩, e, hc, n, hd⟩ := pl.isList
 cases hc; cases hd
 have hlen : its.toArray.size * k.toNat <= sizeLine := by rw [V0, ← hl]; exact hz
 have QV : ¬ its.toArray.size * k.toNat > (2 ^ 63 - 1) / 8 := by
   have : (sizeLine : Nat) <= (2 ^ 63 - 1) / 8 := by decide
   omega
 have QW : ¬ (!Builtin.List.listFitsIndex k) = true := by
   rw [fitsIndex_both h1 h2]
   exact VB
 have M8 : ¬ Builtin.List.listTooLong (its.toArray.size * k.toNat) = true := by
   rw [Bl hlen]
   exact VB
 have QX : List.foldl (fun x1 x2 => x1 ++ x2) #[] (List.replicate (if its.toArray.isEmpty = true then 0 else k.toNat) its.toArray) = (List.replicate k.toNat its).flatten.toArray := by
   have f0 : ∀ m : Nat, List.foldl (fun x1 x2 => x1 ++ x2) #[] (List.replicate m its.toArray) = (List.replicate m its).flatten.toArray := fun m => by
     have := foldl_rep its m []
     rw [Xj] at this
     exact this
   rw [f0]
   cases its with
   | nil => simp
   | cons a r' => rw [Vx (by simp)]
 refine wpAny_binaryOp_repeat_ref (T := "list") (U := "int") (by decide) ⟨_, e, rfl⟩ (fun s' => typeIs_int s' k t) noFill_list_mul F.fills_int_mul F.slot_int_rmul repeat_list F.slot_int_index.lookup
   (call_meets F.slot_int_rmul (typeIs_int s k t) F.entry_int_rmul (F.args_int_rmul_2 _ _) (lm_int_rmul_list_any k t l its.toArray n dd sl)
     ⟨e, rfl, ⟨_, e, rfl⟩, call_meets F.slot_list_mul ⟨_, e, rfl⟩ F.entry_list_mul (F.args_list_mul_2 _ _) (lm_list_mul_any l its.toArray n dd sl k t QW QV M8) ⟨e, ?_⟩⟩)
 rw [QX]
 exact ⟨.ref _, _, I.Mz (t' := s.toks) (r.rep k.toNat) (by rw [len_rep, Nat.mul_comm]; exact hz), rfl, q _ I.fresh⟩
theorem aA.rep {K : PySem.W.Frag} {Z : Hp} {ds : List L3.D} {vs : List V} (r : aA K CL Z ds vs) : ∀ k : Nat, aA K CL Z (List.replicate k ds).flatten (List.replicate k vs).flatten
 | 0 => .nil
 | k + 1 => by
   rw [WK, WK, W2, W2]
   exact aA.app r (aA.rep r k)
theorem yU {k : Int} (h1 : bW X CL b e1 δ (.lst ds) δ1) (h2 : bW X CL b e2 δ1 (.int k) δ2) (i1 : D.bw ds = true) (k1 : -(2 ^ 63) <= k) (k2 : k < 2 ^ 63) (hz : ds.length * k.toNat <= sizeLine) :
   bY X CL b (.BinOp e1 .Mult e2 pos) δ (.lst ((List.replicate k.toNat ds).flatten.map T.sh)) δ2 := fun H Z σ ts vs Q S kk =>
 cL (A6 EL cU cU) (h1 H Z σ ts vs _ S fun v1 H1 Z1 z1 q1 S1 r1 => h2 H1 Z1 σ ts vs _ S1 fun v2 H2 Z2 z2 q2 S2 r2 => by
   have JM := r1.mono q2
   cases JM with
   | lst QD Lv =>
     cases r2 with
     | int =>
       refine ⟨_, _, _, rfl, rfl, QD, k1, k2, by rw [← Lv.length]; exact hz, fun p hp => ?_⟩
       have rc := aA.rep (aA.g6 S2.tp i1 Lv) k.toNat
       obtain ⟨c, S4⟩ := (bK.oZ rc S2).mq (g0 := []) (by rw [VL, rc.length]) hp
       exact kk _ _ _ (z1.trans z2) (q1.trans (q2.trans c)) S4)
end
section
variable {X : Cx} {CL : Str -> Addr} {b : Bx} {δ : List (Option T)} {x : Str} {pos : Pos}
end
section
variable {X : Cx} {CL : Str -> Addr} {b : Bx} {e1 e2 e iter : Expr} {δ δ1 δ2 : List (Option T)} {pos : Pos}
end
section
variable {X : Cx} {CL : Str -> Addr} {b : Bx} {e : Expr} {δ δ1 δ2 δ3 : List (Option T)} {pos p2 : Pos}
def QY : V -> Option Int -> Option Int -> Hp -> VK -> Prop := fun x lo hi H Q => ∃ z, x = .str z /\ z.length <= sizeLine /\ Q (.str (Txt.slice z lo hi)) H
theorem Km : Qk X QY := by
 intro pins s σ H x v vl vu lo hi sl Q I rx hs pl pu h
 obtain ⟨z, rfl, hz, q⟩ := h
 obtain ⟨t, rfl⟩ := rx
 obtain ⟨o, ho, hc, hd⟩ := hs
 have fin : ∀ t' k, EP X pins σ Q (.str (Txt.slice z lo hi) t') { s with toks := k } := fun t' k => ⟨.str _, H, I.tok k, ⟨t', rfl⟩, q⟩
 refine ⟨"str", _, F.slot_str_getitem.lookup, typeIs_str _ _ _, ?_⟩
 cases pl with
 | none =>
   cases pu with
   | none => exact W6 (l := none) (u := none) (st := none) ⟨o, ho, hc, hd⟩ rfl (post_val_or_str ⟨Wk (Txt.slice_le z _ _) hz, fin⟩)
   | int j uj => exact W6 (l := none) (u := some (j, uj)) (st := none) ⟨o, ho, hc, hd⟩ rfl (post_val_or_str ⟨Wk (Txt.slice_le z _ _) hz, fin⟩)
 | int i ui =>
   cases pu with
   | none => exact W6 (l := some (i, ui)) (u := none) (st := none) ⟨o, ho, hc, hd⟩ rfl (post_val_or_str ⟨Wk (Txt.slice_le z _ _) hz, fin⟩)
   | int j uj => exact W6 (l := some (i, ui)) (u := some (j, uj)) (st := none) ⟨o, ho, hc, hd⟩ rfl (post_val_or_str ⟨Wk (Txt.slice_le z _ _) hz, fin⟩)
theorem Ad {lo hi : Option Expr} {l h : Option Int} {z : Str} (h1 : bW X CL b e δ (.str z) δ1) (hz : z.length <= sizeLine) (h2 : Ls X CL b lo δ1 l δ2) (h3 : Ls X CL b hi δ2 h δ3) : bY X CL b (.Subscript e (.Slice lo hi none p2) pos) δ (.sh (.str (Txt.slice z l h))) δ3 := fun H Z σ ts vs Q S k => by
 obtain ⟨t2, QB, w2⟩ := h2
 obtain ⟨t3, QC, w3⟩ := h3
 refine cL (vF Km cU QB QC) (h1 H Z σ ts vs _ S fun v H1 Z1 z1 k1 S1 r => w2 H1 Z1 σ ts vs _ S1 fun H2 Z2 z2 k2 S2 => w3 H2 Z2 σ ts vs _ S2 fun H3 Z3 z3 k3 S3 => ?_)
 exact ⟨z, r.sc rfl, hz, k _ H3 Z3 (z1.trans (z2.trans z3)) (k1.trans (k2.trans k3)) (S3.push (.str _))⟩
end
end L3
namespace L3
open PySem PySem.Spec PyProof.Rows L2 PySem.Builtin PySem.Builtin.Str
section
variable {X : Cx} {CL : Str -> Addr} {b : Bx} {e o : Expr} {δ δ1 δ2 : List (Option T)} {pos apos : Pos}
end
end L3
namespace L3
open PySem PySem.Spec PyProof.Rows L2
section
variable {X : Cx} {CL : Str -> Addr} {b : Bx} {δ : List (Option T)} {pos pp : Pos} {x : Str}
theorem c0 {k n : Nat} {A : Type} {arg : A -> List L3.D} {Pre : A -> Prop} {res : A -> T} (a : A) (F : Fc X CL x k n arg Pre res) (hg : Gl X x) (ha : arg a = []) (hp : Pre a) (hc : (res a).clean = true) (hn : (arg a).length = n := by rfl)
   (qA : (x == ("__debug__" : Str)) = false := by decide) : bY X CL b (.Call (.Name x pp) [] [] pos) δ (res a) δ := by
 obtain ⟨f, fd, ps, F1, m, kk, bb⟩ := F.ex
 intro H Z σ ts vs Q S k
 refine cL (Bf F1 F.room hg m kk bb .nil yO qA) ?_
 refine ⟨H, a, .refl _, fun _ _ q _ => q, by rw [ha]; exact .nil, hn, hp, S.z0, fun v H' W' fp hh ww wh nw tp rt nd own => ?_⟩
 obtain ⟨Z', z', S'⟩ := S.back hh S.zh ww wh nw tp rt nd own (.inr hc)
 exact k v H' Z' z' hh S'
end
section
variable {K : PySem.W.Frag} {CL : Str -> Addr} {b : Bx} {H Z : Hp} {δ : List (Option T)} {σ : L2.St} {ts tl : List T} {vs : List V} {t : T} {v : V} {d : D} {jr : List (Key × D)} {gs : List (Key × V)}
end
section
variable {X : Cx} {CL : Str -> Addr} {b : Bx} {δ δ1 δ2 : List (Option T)} {e e1 e2 : Expr} {t : T} {d : L3.D} {D : cC} {pos pp ps : Pos} {i : Nat} {x : Str} {fc : List Stmt} {jr : List (Key × L3.D)} {k : Key}
end
section
variable {K : PySem.W.Frag} {CL : Str -> Addr} {b : Bx} {H Z : Hp} {δ : List (Option T)} {σ : L2.St} {ts : List T} {vs : List V} {t : T} {v w : V} {f c : Str} {AW : List (Str × T)}
theorem bG.ER {ft : List Addr} (rt : bV K CL H Z t v ft) : ∀ {v8 : List (Str × T)} {gs : List (Str × V)} {fp : List Addr}, bG K CL H Z (v8 ++ (f, .sh (.val v)) :: AW) gs fp -> ∃ yQ, bG K CL H Z (v8 ++ (f, t) :: AW) gs yQ /\ yQ.Perm (fp ++ ft)
 | [], _, _, r => by
   cases r with
   | @cons _ _ v' _ _ f1 gp h r =>
     cases h with
     | sh h =>
       cases h
       exact ⟨ft ++ gp, .cons rt r, Wj⟩
 | (y, u) :: v8, _, _, r => by
   cases r with
   | @cons _ _ v' _ _ f1 gp h r =>
     obtain ⟨yQ, r', p⟩ := bG.ER rt (v8 := v8) r
     refine ⟨f1 ++ yQ, .cons h r', ?_⟩
     rw [VA]
     exact p.append_left f1
theorem bK.ER {v8 : List (Str × T)} (S : bK K CL b H Z δ σ (.ins c (v8 ++ (f, .sh (.val v)) :: AW) :: t :: ts) (w :: v :: vs)) : bK K CL b H Z δ σ (.ins c (v8 ++ (f, t) :: AW) :: ts) (w :: vs) := by
 obtain ⟨fp, gp, e, r, nd, k⟩ := S.rep
 cases r with
 | @cons _ _ _ _ g1 g2 r1 r2 =>
   cases r2 with
   | @cons _ _ _ _ g3 g4 r3 r4 =>
     cases r1 with
     | @ins a dx _ gs _ Ux ha rf =>
       obtain ⟨yQ, Uy, p⟩ := bG.ER r3 rf
       have pm : (fp ++ ((a :: yQ) ++ g4)).Perm (fp ++ ((a :: Ux) ++ (g3 ++ g4))) := by
         refine Wq fp ?_
         rw [← VA]
         refine List.Perm.append_right g4 ?_
         rw [V7]
         exact List.Perm.cons a p
       exact ⟨⟨fp, (a :: yQ) ++ g4, e, .cons (.ins ha Uy) r4, pm.nodup_iff.mpr nd, fun c hc => k c (pm.mem_iff.mp hc)⟩, S.bh, S.zz, S.zh, S.new, S.tp, S.tab⟩
end
def Ph (X : Cx) (CL : Str -> Addr) (b : Bx) (es : List Expr) (δ : List (Option T)) (dv : V -> List D) (t : T) (δ' : List (Option T)) : Prop :=
 ∀ (H Z : Hp) (σ : L2.St) (ts : List T) (vs : List V) (Q : List V -> Hp -> Prop), bK X.K CL b H Z δ σ ts vs →
   (∀ us H' Z' v, ay Z Z' -> ay H H' -> bK X.K CL b H' Z' δ' σ (t :: ts) (v :: vs) -> aA X.K CL H' (dv v) us -> Q us H') -> Bm X es σ H Q
theorem T.pI {f : Str} {v : V} {AW : List (Str × T)} (h2 : T.aQ AW = true) : ∀ {v8 : List (Str × T)}, T.aQ v8 = true -> T.aQ (v8 ++ (f, .sh (.val v)) :: AW) = true
 | [], _ => by rw [Xj, T.aQ, h2]; rfl
 | (x, t) :: v8, h => by
   rw [T.aQ, Wt] at h
   rw [V7, T.aQ, h.1, T.pI h2 h.2]; rfl
section
variable {X : Cx} {CL : Str -> Addr} {b : Bx} {δ δ1 δ2 : List (Option T)} {e o : Expr} {es : List Expr} {pos pp apos : Pos} {t : T} {ds : List D} {d : D} {dv : V -> List D}
theorem BW (h : bY X CL b e δ t δ1) (r : HM X CL b es δ1 ds δ2) (hs : notStar e = true := by rfl) : Ph X CL b (e :: es) δ (fun v => .val v :: ds) t δ2 := fun H Z σ ts vs Q S k =>
 zY (cA cU Eg (bR hs)) (h H Z σ ts vs _ S fun v H1 Z1 z1 k1 S1 => r H1 Z1 σ _ _ _ S1 fun us H2 Z2 z2 k2 S2 r2 => k (v :: us) H2 Z2 v (z1.trans z2) (k1.trans k2) S2 (.cons (.val v) r2))
theorem v9 (h : bW X CL b e δ d δ1) (r : Ph X CL b es δ1 dv t δ2) (hs : notStar e = true := by rfl) : Ph X CL b (e :: es) δ (fun v => d :: dv v) t δ2 := fun H Z σ ts vs Q S k =>
 zY (cA cU Eg (bR hs)) (h H Z σ ts vs _ S fun v H1 Z1 z1 k1 S1 r1 => r H1 Z1 σ ts vs _ S1 fun us H2 Z2 v2 z2 k2 S2 r2 => k (v :: us) H2 Z2 v2 (z1.trans z2) (k1.trans k2) S2 (.cons (r1.mono k2) r2))
variable {A : Type} {k n : Nat} {arg : A -> List D} {Pre : A -> Prop} {x c m f : Str}
theorem Uz {res : A -> List (Str × T)} (a : V -> A) {v8 AW : List (Str × T)} (F : Fm X CL x k n arg Pre res) (hg : Gl X x) (h : Ph X CL b (e :: es) δ dv t δ1) (ha : ∀ v, arg (a v) = dv v) (hp : ∀ v, Pre (a v)) (hr : ∀ v, res (a v) = v8 ++ (f, .sh (.val v)) :: AW) (hc : T.aQ v8 = true) (J7 : T.aQ AW = true) (hn : ∀ v, (arg (a v)).length + 1 = n := by exact fun _ => rfl)
   (qA : (x == ("__debug__" : Str)) = false := by decide) (he : starEach (e :: es) X.env = (false, eval e X.env) :: starEach es X.env := by exact bR rfl) (qB : (backTo pos (starEach es X.env)).any (·.1) = false := by rfl) :
   bY X CL b (.Call (.Name x pp) (e :: es) [] pos) δ (.ins x (v8 ++ (f, t) :: AW)) δ1 := fun H Z σ ts vs Q S kk => by
 obtain ⟨f', fd, ps, M, F1, hm, hb⟩ := F.ex
 exact cL (yM M F1 F.room hg hm hb .nil yO Eg qA he qB) (h H Z σ ts vs _ S fun us H1 Z1 v z1 k1 S1 r y dx hx MX ne => by
   rw [Wx]
   refine ⟨H1, H1, a v, y, dx, us, rfl, hx, MX, ne, rfl, .refl _, fun _ _ q _ => q, by rw [ha]; exact r, hn v, hp v, S1.z0, fun H' W' fp hh ww wh nw tp rt nd own => ⟨rfl, ?_⟩⟩
   obtain ⟨Z', z', S'⟩ := S1.back hh S1.zh ww wh nw tp rt nd own (.inr (by rw [T.clean, hr]; exact T.pI J7 hc))
   rw [hr] at S'
   exact kk _ H' Z' (z1.trans z') (k1.trans hh) S'.ER)
end
section
variable {X : Cx}
end
section
variable {X : Cx} {CL : Str -> Addr} {b : Bx} {δ δ1 : List (Option T)} {e : Expr} {pos pp : Pos} {l : List Bool}
end
namespace Rv
theorem Ae : PySem.Slot "reversed" "__init__" "object.__init__" :=
 .of (owner := "object") (n := "__init__") (by rw [typeLookup_type, builtinLookup_eq_fast]; kernel_rfl) (by decide +kernel) (by decide +kernel) (by decide +kernel)
   (by first | exact .inl (by decide +kernel) | exact .inr (by decide +kernel)) (by rw [isSubtype_type]; kernel_rfl)
theorem called : TypeCalled "reversed" "reversed.__new__" "object.__init__" :=
 ⟨by decide +kernel, by decide +kernel, ⟨_, _, PySem.F.mro_reversed⟩, PySem.F.made_reversed, by decide +kernel, PySem.F.sub_reversed_self, Ae⟩
def obj (t : Addr) (i : Int) : Obj := { cls := .type "reversed", data := .fields #[.ref t, rawInt i] }
section
variable {prog : Program} {w : World} {A : Around} {E : Value -> Shared -> Prop} {s : Shared}
end
end Rv
namespace Rv
section
variable {prog : Program} {w : World} {A : Around} {E : Value -> Shared -> Prop} {s : Shared}
end
end Rv
section
variable {X : Cx} {tg : Expr}
end
section
variable {X : Cx} {CL : Str -> Addr} {b : Bx} {δ δ1 : List (Option T)} {e : Expr} {ds : List D} {tg : Expr} {pr pc : Pos}
end
section
variable {X : Cx} {CL : Str -> Addr} {b : Bx} {δ δ1 : List (Option T)} {e : Expr} {t : T} {tl Ep tt RX : List T} {D : cC} {pos pp pa pb : Pos}
variable {fc : List Stmt} {i i2 : Nat} {x y : Str} {DD : cC}
end
section
variable {X : Cx} {CL : Str -> Addr} {b : Bx} {δ δ1 : List (Option T)} {e : Expr} {ds : List D} {tg : Expr} {pr pc : Pos} {l : Bool}
end
section
variable {X : Cx} {CL : Str -> Addr} {b : Bx} {δ : List (Option T)}
end
section
variable {K : PySem.W.Frag} {CL : Str -> Addr} {b : Bx} {H Z : Hp} {δ : List (Option T)} {σ : L2.St} {ts tl : List T} {vs : List V} {ds : List D} {us : List V}
end
section
variable {X : Cx} {CL : Str -> Addr} {b : Bx} {δ δ1 : List (Option T)} {e : Expr} {tl Ep : List T} {ds : List L3.D} {D : cC} {pos pp pa pb : Pos} {i : Nat} {x : Str} {fc : List Stmt}
end
section
variable {X : Cx} {CL : Str -> Addr} {b : Bx} {δ δ1 δ2 δ3 : List (Option T)} {e e1 e2 : Expr} {ds EB : List L3.D} {pos p2 : Pos}
end
section
variable {a₀ xs : Array Keyed} {ι : Nat -> Nat} {n : Nat}
structure Tag (a₀ xs : Array Keyed) (ι : Nat -> Nat) (n : Nat) : Prop where
 pl : ∀ k, k < a₀.size -> xs[k]? = a₀[ι k]?
 lo : ∀ k, k < n -> ι k < n
 hi : ∀ k, n <= k -> ι k = k
def jd (xs : Array Keyed) (ι : Nat -> Nat) (n : Nat) : Prop := ∀ i j, i < j -> j < n -> PyProof.Rows.K xs i < PyProof.Rows.K xs j \/ (PyProof.Rows.K xs i = PyProof.Rows.K xs j /\ ι i < ι j)
def qH (xs : Array Keyed) (ι : Nat -> Nat) (n : Nat) : Prop := ∀ i j, i < j -> j < n -> PyProof.Rows.K xs j < PyProof.Rows.K xs i \/ (PyProof.Rows.K xs j = PyProof.Rows.K xs i /\ ι j < ι i)
theorem Tag.grow (h : Tag a₀ xs ι n) : Tag a₀ xs ι (n + 1) := ⟨h.pl, fun k hk => by
   by_cases e : k < n
   . have := h.lo k e
     omega
   . have := h.hi k (by omega)
     omega, fun k hk => h.hi k (by omega)⟩
theorem Tag.QZ (h : Tag a₀ xs ι n) {m : Nat} (hm : n <= m) : Tag a₀ xs ι m := ⟨h.pl, fun k hk => by
   by_cases e : k < n
   . have := h.lo k e
     omega
   . have := h.hi k (by omega)
     omega, fun k hk => h.hi k (by omega)⟩
def turned (ι : Nat -> Nat) (i j : Nat) : Nat -> Nat := fun k => if i <= k /\ k < j then ι (i + j - 1 - k) else ι k
theorem Tag.turn (h : Tag a₀ xs ι n) {i j : Nat} (hj : j <= n) (hn : n <= a₀.size) (hs : xs.size = a₀.size) : Tag a₀ (mirror xs i j ((j - i) / 2)) (turned ι i j) n := by
 refine ⟨fun k hk => ?_, fun k hk => ?_, fun k hk => ?_⟩
 . rw [getElem?_mirror_all (by omega)]
   unfold turned
   split
   . exact h.pl _ (by omega)
   . exact h.pl _ hk
 . unfold turned
   split
   . exact h.lo _ (by omega)
   . exact h.lo _ hk
 . unfold turned
   rw [Vx (by omega)]
   exact h.hi k hk
def Af (ι : Nat -> Nat) (k l : Nat) : Nat -> Nat := fun p => if p = l then ι k else if l < p /\ p <= k then ι (p - 1) else ι p
theorem Tag.sink (h : Tag a₀ xs ι n) {l : Nat} (hl : l <= n) (hn : n < a₀.size) (hs : xs.size = a₀.size) : Tag a₀ (bubble xs n (n - l)) (Af ι n l) (n + 1) := by
 have hg := h.grow
 refine ⟨fun k hk => ?_, fun k hk => ?_, fun k hk => ?_⟩
 . rw [getElem?_bubble (by omega) (n - l) (by omega), show n - (n - l) = l by omega]
   unfold Af
   split
   . exact h.pl _ (by omega)
   . split
     . exact h.pl _ (by omega)
     . exact h.pl _ hk
 . unfold Af
   split
   . exact hg.lo _ (by omega)
   . split
     . exact hg.lo _ (by omega)
     . exact hg.lo _ hk
 . unfold Af
   rw [Vx (by omega), Vx (by omega)]
   exact hg.hi k hk
theorem jd.le (h : jd xs ι n) {i j : Nat} (wc : i <= j) (hj : j < n) : PyProof.Rows.K xs i <= PyProof.Rows.K xs j := by
 by_cases e : i = j
 . subst e; exact Int.le_refl _
 . rcases h i j (by omega) hj with z | z <;> omega
end
section
variable {prog : Program} {w : World} {A : Around} {E : Value -> Shared -> Prop} {s : Shared} {a₀ : Array Keyed}
theorem wg {st : SortSt} {ι : Nat -> Nat} {a dI : Nat} {Q : AscSt -> SortSt -> Prop} (h0 : IntKeys a₀) (hn : dI <= a₀.size) (ha : 1 <= a) (UA : a <= dI) (hB : SBase a₀ st)
   (ht : Tag a₀ (arrOf st) ι a) (hs : jd (arrOf st) ι a)
   (h : ∀ n, a <= n -> n <= dI -> Tag a₀ (arrOf st) ι n -> jd (arrOf st) ι n -> (n = dI \/ PyProof.Rows.K (arrOf st) n < PyProof.Rows.K (arrOf st) (n - 1)) -> Q (none, n) st) :
   wpS (model prog w) A E s (ascLoop a dI) Q st := by
 unfold ascLoop
 refine Xk (I := fun x c z => z = st /\ c = (none, x) /\ Tag a₀ (arrOf st) ι x /\ jd (arrOf st) ι x) ?one ?all ⟨rfl, rfl, ht, hs⟩
 case all =>
   rintro c z ⟨rfl, rfl, t, o⟩
   have e : max a dI = dI := by omega
   rw [e] at t o ⊢
   exact h dI UA (Vz _) t o (.inl rfl)
 case one =>
   rintro x c z Q0 UB ⟨rfl, rfl, t, o⟩
   dsimp only
   refine Wo (wpS_ltK hB h0 (by omega) (by omega) ?_)
   by_cases hl : PyProof.Rows.K (arrOf z) x < PyProof.Rows.K (arrOf z) (x - 1)
   . simp only [hl, decide_true, Xa]
     exact Wz (h x Q0 (by omega) t o (.inr hl))
   . simp only [hl, decide_false, Ws, W0]
     refine Wz ⟨rfl, rfl, t.grow, fun i j wc hj => ?_⟩
     by_cases UC : j < x
     . exact o i j wc UC
     . have e : j = x := by omega
       subst e
       have q := o.le (i := i) (j := j - 1) (by omega) (by omega)
       have l1 := t.lo i wc
       have l2 := t.hi j (Vz _)
       omega
theorem wj {st : SortSt} {ι : Nat -> Nat} {n dI : Nat} {Q : Option Nat -> SortSt -> Prop} (h0 : IntKeys a₀) (hn : dI <= a₀.size) (h1 : 1 <= n) (EV : n <= dI) (hB : SBase a₀ st)
   (ht : Tag a₀ (arrOf st) ι n) (hs : qH (arrOf st) ι n)
   (h : ∀ m z κ, SBase a₀ z -> 1 <= m -> m <= dI -> Tag a₀ (arrOf z) κ m -> jd (arrOf z) κ m -> Q (some m) z) :
   wpS (model prog w) A E s (tail3 n dI) Q st := by
 unfold tail3
 have hz : n <= (arrOf st).size := by rw [hB.size]; omega
 have Sh : SBase a₀ (setArr st (mirror (arrOf st) 0 n ((n - 0) / 2))) := hB.setArr (mirror_perm _ _ _ _)
 refine Wo (wpS_reverse ?_)
 refine Wo (wg (ι := turned ι 0 n) h0 hn h1 EV Sh (ht.turn (Vz _) (by omega) hB.size) ?_ fun m m1 m2 t o _ => Wz (h m _ _ Sh (by omega) m2 t o))
 intro i j wc hj
 show PyProof.Rows.K (mirror (arrOf st) 0 n ((n - 0) / 2)) i < PyProof.Rows.K (mirror (arrOf st) 0 n ((n - 0) / 2)) j \/ _
 rw [K_mirror hz, K_mirror hz, Vy (by omega), Vy (by omega)]
 unfold turned
 rw [Vy (by omega), Vy (by omega)]
 exact hs _ _ (by omega) (by omega)
structure nQ (xs : Array Keyed) (ι : Nat -> Nat) (p x : Nat) : Prop where
 f : qH xs ι p
 l : ∀ i j, i < p -> p <= j -> j < x -> PyProof.Rows.K xs j < PyProof.Rows.K xs i
 e : ∀ i j, p <= i -> i < j -> j < x -> PyProof.Rows.K xs i = PyProof.Rows.K xs j /\ ι i < ι j
theorem nQ.one {xs : Array Keyed} {ι : Nat -> Nat} {p : Nat} (h : nQ xs ι p (p + 1)) : qH xs ι (p + 1) := fun i j wc hj => by
 by_cases e : j < p
 . exact h.f i j wc e
 . exact .inl (h.l i j (by omega) (by omega) hj)
theorem nQ.turn {xs : Array Keyed} {ι : Nat -> Nat} {p x : Nat} (h : nQ xs ι p x) (hx : x <= xs.size) : qH (mirror xs p x ((x - p) / 2)) (turned ι p x) x := by
 intro i j wc hj
 rw [K_mirror hx, K_mirror hx]
 unfold turned
 by_cases hi : p <= i
 . rw [Vy (by omega), Vy (by omega), Vy (by omega), Vy (by omega)]
   have q := h.e (p + x - 1 - j) (p + x - 1 - i) (by omega) (by omega) (by omega)
   exact .inr ⟨q.1, q.2⟩
 . rw [Vx (show ¬ (p <= i /\ i < x) by omega), Vx (show ¬ (p <= i /\ i < x) by omega)]
   by_cases Vl : p <= j
   . rw [Vy (by omega), Vy (by omega)]
     exact .inl (h.l _ _ (by omega) (by omega) (by omega))
   . rw [Vx (by omega), Vx (by omega)]
     exact h.f i j wc (by omega)
theorem qH.le {xs : Array Keyed} {ι : Nat -> Nat} {n : Nat} (h : qH xs ι n) {i j : Nat} (wc : i <= j) (hj : j < n) : PyProof.Rows.K xs j <= PyProof.Rows.K xs i := by
 by_cases e : i = j
 . subst e; exact Int.le_refl _
 . rcases h i j (by omega) hj with z | z <;> omega
theorem qH.half {xs : Array Keyed} {ι : Nat -> Nat} {x : Nat} (h : qH xs ι x) (hx : 0 < x) (hl : PyProof.Rows.K xs x < PyProof.Rows.K xs (x - 1)) : nQ xs ι x (x + 1) :=
 ⟨h, fun i j hi h1 h2 => by
   have e : j = x := by omega
   subst e
   have := h.le (i := i) (j := j - 1) (by omega) (by omega)
   omega, fun i j h1 h2 h3 => by omega⟩
theorem Ag {st : SortSt} {ι : Nat -> Nat} {n dI : Nat} {Q : DescSt -> SortSt -> Prop} (h0 : IntKeys a₀) (hn : dI <= a₀.size) (EV : n + 1 <= dI) (hB : SBase a₀ st)
   (ht : Tag a₀ (arrOf st) ι (n + 1)) (hs : nQ (arrOf st) ι n (n + 1))
   (h : ∀ m qx z κ, SBase a₀ z -> n + 1 <= m -> m <= dI -> qx + 1 <= m -> Tag a₀ (arrOf z) κ m -> nQ (arrOf z) κ (m - (qx + 1)) m -> Q (none, m, qx) z) :
   wpS (model prog w) A E s (descLoop (n + 1) dI) Q st := by
 unfold descLoop
 refine Xk (I := fun x c z => ∃ qx κ, c = (none, x, qx) /\ SBase a₀ z /\ qx + 1 <= x /\ Tag a₀ (arrOf z) κ x /\ nQ (arrOf z) κ (x - (qx + 1)) x) ?one ?all ⟨0, ι, rfl, hB, by omega, ht, hs⟩
 case all =>
   rintro c z ⟨qx, κ, rfl, b2, q, t, o⟩
   have e : max (n + 1) dI = dI := by omega
   rw [e] at q t o ⊢
   exact h dI qx z κ b2 EV (Vz _) q t o
 case one =>
   rintro x c z Q0 UB ⟨qx, κ, rfl, b2, q, t, o⟩
   dsimp only
   have hz : x <= (arrOf z).size := by rw [b2.size]; omega
   refine Wo (wpS_ltK b2 h0 (by omega) (by omega) ?_)
   by_cases hl : PyProof.Rows.K (arrOf z) x < PyProof.Rows.K (arrOf z) (x - 1)
   . simp only [hl, decide_true, Xa]
     by_cases hq : qx > 0
     . rw [Vy hq]
       have hm : ∀ k, PyProof.Rows.K (mirror (arrOf z) (x - (qx + 1)) x ((x - (x - (qx + 1))) / 2)) k = PyProof.Rows.K (arrOf z) k := K_mirror_equal hz fun k k1 k2 => by
         by_cases e : k = x - 1
         . rw [e]
         . exact (o.e k (x - 1) k1 (by omega) (by omega)).1
       refine Wo (wpS_reverse (Wz ⟨0, turned κ (x - (qx + 1)) x, rfl, b2.setArr (mirror_perm _ _ _ _), by omega, (t.turn (Vz _) (by omega) b2.size).grow, ?_⟩))
       have hf := o.turn hz
       refine hf.half (by omega) ?_
       rw [hm, hm]
       exact hl
     . rw [Vx hq]
       have e0 : qx = 0 := by omega
       subst e0
       obtain ⟨y, rfl⟩ : ∃ y, x = y + 1 := ⟨x - 1, by omega⟩
       have hf : qH (arrOf z) κ (y + 1) := nQ.one o
       exact Wz ⟨0, κ, rfl, b2, by omega, t.grow, hf.half (by omega) hl⟩
   . simp only [hl, decide_false, Ws, W0]
     refine Wo (wpS_ltK b2 h0 (by omega) (by omega) ?_)
     by_cases hg : PyProof.Rows.K (arrOf z) (x - 1) < PyProof.Rows.K (arrOf z) x
     . simp only [hg, decide_true, Xa]
       exact Wz (h x qx z κ b2 Q0 (by omega) q t o)
     . simp only [hg, decide_false, Ws, W0]
       have he : PyProof.Rows.K (arrOf z) x = PyProof.Rows.K (arrOf z) (x - 1) := by omega
       refine Wz ⟨qx + 1, κ, rfl, b2, by omega, t.grow, ?_⟩
       rw [show x + 1 - (qx + 1 + 1) = x - (qx + 1) by omega]
       refine ⟨o.f, fun i j hi h1 h2 => ?_, fun i j h1 h2 h3 => ?_⟩
       . by_cases e : j = x
         . rw [e, he]
           exact o.l i (x - 1) hi (by omega) (by omega)
         . exact o.l i j hi h1 (by omega)
       . by_cases e : j = x
         . subst e
           have l1 := t.lo i h2
           have l2 := t.hi j (Vz _)
           refine ⟨?_, by omega⟩
           rw [he]
           by_cases e2 : i = j - 1
           . rw [e2]
           . exact (o.e i (j - 1) h1 (by omega) (by omega)).1
         . exact o.e i j h1 h2 (by omega)
theorem rH {st : SortSt} {ι : Nat -> Nat} {n dI : Nat} {Q : Option Nat -> SortSt -> Prop} (h0 : IntKeys a₀) (hn : dI <= a₀.size) (EV : n + 1 <= dI) (hB : SBase a₀ st)
   (ht : Tag a₀ (arrOf st) ι (n + 1)) (hs : nQ (arrOf st) ι n (n + 1))
   (h : ∀ m z κ, SBase a₀ z -> 1 <= m -> m <= dI -> Tag a₀ (arrOf z) κ m -> jd (arrOf z) κ m -> Q (some m) z) :
   wpS (model prog w) A E s (descPart n dI) Q st := by
 unfold descPart
 refine Wo (wpS_lift (wpAny_rule ⟨rfl, ?_⟩))
 refine Wo (Ag h0 hn EV hB ht hs fun m qx z κ b2 m1 m2 q t o => ?_)
 dsimp only
 have hz : m <= (arrOf z).size := by rw [b2.size]; omega
 by_cases hq : qx > 0
 . rw [Vy hq]
   exact Wo (wpS_reverse (wj h0 hn (by omega) m2 (b2.setArr (mirror_perm _ _ _ _)) (t.turn (Vz _) (by omega) b2.size) (o.turn hz) h))
 . rw [Vx hq]
   have e0 : qx = 0 := by omega
   subst e0
   obtain ⟨y, rfl⟩ : ∃ y, m = y + 1 := ⟨m - 1, by omega⟩
   exact wj h0 hn (by omega) m2 b2 t (nQ.one o) h
theorem BX {st : SortSt} {dI : Nat} {Q : Option Nat -> SortSt -> Prop} (h0 : IntKeys a₀) (hn : dI <= a₀.size) (h1 : 1 <= dI) (hB : SBase a₀ st) (ht : Tag a₀ (arrOf st) id 0)
   (h : ∀ m z κ, SBase a₀ z -> 1 <= m -> m <= dI -> Tag a₀ (arrOf z) κ m -> jd (arrOf z) κ m -> Q (some m) z) :
   wpS (model prog w) A E s (countRun' 0 dI) Q st := by
 rw [countRun0_eq]
 refine Wo (wg (ι := id) h0 hn (Vz 1) h1 hB (ht.QZ (by omega)) (fun i j wc hj => by omega) fun n n1 n2 t o UD => ?_)
 dsimp only
 by_cases EV : n = dI
 . rw [if_pos (by simpa using EV)]
   exact Wz (h n st id hB n1 n2 t o)
 . rw [if_neg (by simpa using EV)]
   have qF := UD.resolve_left EV
   have hz : n <= (arrOf st).size := by rw [hB.size]; omega
   by_cases Si : n > 1
   . rw [Vy Si]
     refine Wo (wpS_ltK hB h0 (by omega) (by omega) ?_)
     by_cases hr : PyProof.Rows.K (arrOf st) 0 < PyProof.Rows.K (arrOf st) (n - 1)
     . simp only [hr, decide_true, Xa]
       exact Wz (h n st id hB n1 n2 t o)
     . simp only [hr, decide_false, Ws, W0]
       have EW : ∀ k, 0 <= k -> k < n -> PyProof.Rows.K (arrOf st) k = PyProof.Rows.K (arrOf st) (n - 1) := fun k _ hk => by
         have a1 := o.le (i := 0) (j := k) (by omega) hk
         have a2 := o.le (i := k) (j := n - 1) (by omega) (by omega)
         omega
       have hm := K_mirror_equal (i := 0) hz EW
       refine Wo (wpS_reverse (rH (ι := turned id 0 n) h0 hn (by omega) (hB.setArr (mirror_perm _ _ _ _)) (t.turn (Vz _) (by omega) hB.size).grow ?_ h))
       have hh : nQ (arrOf st) id 0 n := ⟨fun i j _ hj => by omega, fun i j hi => by omega, fun i j i1 i2 i3 => ⟨by rw [EW i (by omega) (by omega), EW j (by omega) i3], i2⟩⟩
       refine (hh.turn hz).half (by omega) ?_
       rw [hm, hm]
       exact qF
   . rw [Vx Si]
     have e1 : n = 1 := by omega
     subst e1
     exact rH h0 hn (by omega) hB t.grow ((show qH (arrOf st) id 1 from fun i j wc hj => by omega).half (by omega) qF) h
theorem BZ {st : SortSt} {ι : Nat -> Nat} {n ok : Nat} {Q : Bool -> SortSt -> Prop} (h0 : IntKeys a₀) (hn : n <= a₀.size) (cK : ok <= n) (Q5 : 1 <= ok) (hB : SBase a₀ st) (ht : Tag a₀ (arrOf st) ι ok) (hs : jd (arrOf st) ι ok)
   (h : ∀ z κ, SBase a₀ z -> Tag a₀ (arrOf z) κ n -> jd (arrOf z) κ n -> Q true z) : wpS (model prog w) A E s (binarySort' 0 n ok) Q st := by
 rw [binarySort'_eq]
 simp only [Nat.zero_add]
 refine Wo (wpS_mono (Xk (I := fun k c z => c = (none, ()) /\ SBase a₀ z /\ ∃ κ, Tag a₀ (arrOf z) κ k /\ jd (arrOf z) κ k)
   (Q := fun c z => c = (none, ()) /\ SBase a₀ z /\ ∃ κ, Tag a₀ (arrOf z) κ n /\ jd (arrOf z) κ n) ?one ?all ?new) ?post)
 case post =>
   rintro c z ⟨rfl, b2, κ, t, o⟩
   exact Wz (h z κ b2 t o)
 case new =>
   rw [show max ok 1 = ok by omega]
   exact ⟨rfl, hB, ι, ht, hs⟩
 case all =>
   rintro c z ⟨hc, b2, κ, t, o⟩
   rw [show max (max ok 1) n = n by omega] at t o
   exact ⟨hc, b2, κ, t, o⟩
 case one =>
   rintro k c z Vm Vo ⟨rfl, b2, κ, t, o⟩
   have hk : k < a₀.size := by omega
   refine Wo (wpS_mono (Xk (I := fun x c y => y = z /\ ∃ l r, c = (none, l, r) /\ l <= r /\ r <= k /\ r - l <= k - x /\ (∀ i, i < l -> PyProof.Rows.K (arrOf z) i <= PyProof.Rows.K (arrOf z) k) /\ (∀ i, r <= i -> i < k -> PyProof.Rows.K (arrOf z) k < PyProof.Rows.K (arrOf z) i))
     (Q := fun c y => y = z /\ ∃ l r, c = (none, l, r) /\ l <= k /\ (∀ i, i < l -> PyProof.Rows.K (arrOf z) i <= PyProof.Rows.K (arrOf z) k) /\ (∀ i, l <= i -> i < k -> PyProof.Rows.K (arrOf z) k < PyProof.Rows.K (arrOf z) i)) ?two ?fin ?beg) ?Q6)
   case beg => exact ⟨rfl, 0, k, rfl, by omega, by omega, by omega, fun i hi => by omega, fun i g1 g2 => by omega⟩
   case fin =>
     rintro c y ⟨rfl, l, r, rfl, g1, g2, g3, g4, g5⟩
     have e : l = r := by omega
     subst e
     exact ⟨rfl, l, l, rfl, g2, g4, g5⟩
   case two =>
     rintro x c y _ Vp ⟨rfl, l, r, rfl, g1, g2, g3, g4, g5⟩
     dsimp only
     by_cases M9 : l ≥ r
     . rw [Vy M9]
       have e : l = r := by omega
       subst e
       exact Wz ⟨rfl, l, l, rfl, g2, g4, g5⟩
     . rw [Vx M9]
       refine Wo (wpS_ltK b2 h0 hk (by omega) ?_)
       by_cases hl : PyProof.Rows.K (arrOf y) k < PyProof.Rows.K (arrOf y) ((l + r) / 2)
       . simp only [hl, decide_true, Xa]
         refine Wz ⟨rfl, l, (l + r) / 2, rfl, by omega, by omega, by omega, g4, fun i i1 i2 => ?_⟩
         have := o.le i1 i2
         omega
       . simp only [hl, decide_false, Ws, W0]
         refine Wz ⟨rfl, (l + r) / 2 + 1, r, rfl, by omega, by omega, by omega, fun i i1 => ?_, g5⟩
         have := o.le (i := i) (j := (l + r) / 2) (by omega) (by omega)
         omega
   case Q6 =>
     rintro c y ⟨rfl, l, r, rfl, g2, g4, g5⟩
     show wpS _ _ _ _ (do moveDown' k l; pure (ForInStep.yield (none, ()))) _ _
     rw [moveDown'_eq]
     have Q7 : k < (arrOf y).size := by rw [b2.size]; exact hk
     refine Wo (wpS_modify (Wz ⟨rfl, b2.setArr (bubble_perm _ _ _), Af κ k l, t.sink g2 hk b2.size, ?_⟩))
     intro i j wc hj
     show PyProof.Rows.K (bubble (arrOf y) k (k - l)) i < PyProof.Rows.K (bubble (arrOf y) k (k - l)) j \/ (PyProof.Rows.K (bubble (arrOf y) k (k - l)) i = PyProof.Rows.K (bubble (arrOf y) k (k - l)) j /\ _)
     rw [K_bubble Q7 (by omega), K_bubble Q7 (by omega), show k - (k - l) = l by omega]
     unfold Af
     have tk := t.hi k (Vz _)
     by_cases ei : i = l
     . rw [Vy ei, Vy ei, Vx (show ¬ j = l by omega), Vx (show ¬ j = l by omega), Vy (by omega), Vy (by omega)]
       exact .inl (g5 _ (by omega) (by omega))
     . rw [Vx ei, Vx ei]
       by_cases ej : j = l
       . rw [Vy ej, Vy ej, Vx (by omega), Vx (by omega)]
         have := g4 i (by omega)
         have := t.lo i (by omega)
         omega
       . rw [Vx ej, Vx ej]
         by_cases hi : l < i /\ i <= k
         . rw [Vy hi, Vy hi, Vy (by omega), Vy (by omega)]
           exact o _ _ (by omega) (by omega)
         . rw [Vx hi, Vx hi]
           by_cases Pj : l < j /\ j <= k
           . rw [Vy Pj, Vy Pj]
             exact o _ _ (by omega) (by omega)
           . rw [Vx Pj, Vx Pj]
             exact o _ _ (by omega) (by omega)
def B3 (a₀ : Array Keyed) (st : SortSt) : Prop := failedOf st = none /\ pendingOf st = #[(0, a₀.size, 0)] /\ ∃ κ, Tag a₀ (arrOf st) κ a₀.size /\ jd (arrOf st) κ a₀.size /\ (arrOf st).size = a₀.size
theorem Ig {st : SortSt} {κ : Nat -> Nat} (hB : SBase a₀ st) (t : Tag a₀ (arrOf st) κ a₀.size) (o : jd (arrOf st) κ a₀.size) : B3 a₀ (setPending st ((pendingOf st).push (0, a₀.size, 0))) :=
 ⟨hB.failed, by show (pendingOf st).push _ = _; rw [hB.pend]; rfl, κ, t, o, hB.size⟩
theorem Ah {st : SortSt} {Q : Unit -> SortSt -> Prop} (h0 : IntKeys a₀) (hB : SBase a₀ st) (ht : Tag a₀ (arrOf st) id 0) (h2 : 2 <= a₀.size) (Ih : a₀.size < 64)
   (h : ∀ z κ, failedOf z = none -> Tag a₀ (arrOf z) κ a₀.size -> jd (arrOf z) κ a₀.size -> (arrOf z).size = a₀.size -> Q () z) : wpS (model prog w) A E s sortRuns' Q st := by
 rw [sortRuns'_eq]
 refine Wo (wpS_get ?_)
 dsimp only
 have UE : minRun' a₀.size a₀.size 0 = a₀.size := by
   obtain ⟨f, hf⟩ : ∃ f, a₀.size = f + 1 := ⟨a₀.size - 1, by omega⟩
   have q : minRun' (f + 1) a₀.size 0 = a₀.size := by
     rw [minRun'_succ, Vy Ih]
     rfl
   rwa [← hf] at q
 simp only [hB.size, UE]
 refine Wo (wpS_mono (Xk (I := fun x c z => (x = 0 /\ c = (none, 0) /\ SBase a₀ z /\ Tag a₀ (arrOf z) id 0) \/ (1 <= x /\ c = (none, a₀.size) /\ B3 a₀ z))
   (Q := fun c z => c = (none, a₀.size) /\ B3 a₀ z) ?one ?all (.inl ⟨rfl, rfl, hB, ht⟩)) ?Q6)
 case all =>
   rintro c z (⟨hx, _⟩ | ⟨_, hc, hD⟩)
   . omega
   . exact ⟨hc, hD⟩
 case one =>
   rintro x c z _ hx (⟨rfl, rfl, b2, t0⟩ | ⟨Vq, rfl, hD⟩)
   . dsimp only
     rw [Vx (by omega)]
     simp only [Nat.sub_zero, Nat.min_self, Nat.zero_add]
     refine Wo (BX h0 (Vz _) (by omega) b2 t0 fun m z2 κ b3 m1 m2 t o => ?_)
     dsimp only
     by_cases hl : m < a₀.size
     . rw [Vy hl]
       refine Wo (wpS_lift (wpAny_rule ⟨rfl, ?_⟩))
       refine Wo (BZ h0 (Vz _) m2 m1 b3 t o fun z3 κ3 b4 t4 o4 => ?_)
       simp only [Bool.not_true, Ws, W0]
       refine Wo (wpS_get ?_)
       have hb : (pendingOf z3).back? = none := by rw [b4.pend]; rfl
       rw [hb]
       dsimp only
       exact Wo (wpS_modify (Wz (.inr ⟨by omega, rfl, Ig b4 t4 o4⟩)))
     . rw [Vx hl]
       have hm : m = a₀.size := by omega
       subst hm
       refine Wo (wpS_get ?_)
       have hb : (pendingOf z2).back? = none := by rw [b3.pend]; rfl
       rw [hb]
       dsimp only
       exact Wo (wpS_modify (Wz (.inr ⟨by omega, rfl, Ig b3 t o⟩)))
   . dsimp only
     rw [Vy (Vz _)]
     exact Wz ⟨rfl, hD⟩
 case Q6 =>
   rintro c z ⟨rfl, hD⟩
   dsimp only
   refine Wo (wpS_mono (Xk (I := fun _ c y => y = z /\ c = (none, ())) (Q := fun c y => y = z /\ c = (none, ())) ?_ (fun _ _ q => q) ⟨rfl, rfl⟩) ?_)
   . rintro x c y _ _ ⟨rfl, rfl⟩
     refine Wo (wpS_get ?_)
     rw [Vy (by rw [hD.2.1]; exact Vz 1)]
     exact Wz ⟨rfl, rfl⟩
   . rintro c y ⟨rfl, rfl⟩
     obtain ⟨κ, t, o, z1⟩ := hD.2.2
     exact Wz (h _ κ hD.1 t o z1)
end
section
variable {X : Cx}
end
section
variable {X : Cx} {CL : Str -> Addr} {b : Bx} {δ δ1 : List (Option T)} {e : Expr} {pos pp p1 p2 : Pos} {kj : Nat}
end
section
variable {X : Cx} {i : Nat} {x : Str}
theorem UG (hi : X.N[i]? = some x) (h : X.env.scope.names.lookup x = some .local) (hf : X.fn x = true) (hd : (x == ("__debug__" : Str)) = false := by decide) (hc : (x == ("__classdict__" : Str)) = false := by decide) : Ln X i x := ⟨⟨hi, .inl h, hd, hc⟩, .inl h, .inl hf⟩
theorem UH (hi : X.N[i]? = some x) (h : X.env.scope.names.lookup x = some .cell) (hf : X.fn x = true) (hd : (x == ("__debug__" : Str)) = false := by decide) (hc : (x == ("__classdict__" : Str)) = false := by decide) : Ln X i x := ⟨⟨hi, .inr (.inl h), hd, hc⟩, .inr h, .inl hf⟩
end
theorem dW {P : Program} {w : World} {K : PySem.W.Frag} {mg : Str -> Option Value} {base : Heap} {k : Nat} {f : Addr} {fd : FuncData} {ps : List Str} {sp : Sp} {x : Str} (G : bX P w K mg base f6 k f fd ps sp) (m : mg x = some (.ref f)) (q : PySem.W.keepIn K (.ref f) = true) (b : Binds K fd ps []) :
   ∃ f fd ps, bX P w K mg base f6 k f fd ps sp /\ mg x = some (.ref f) /\ PySem.W.keepIn K (.ref f) = true /\ Binds K fd ps [] := ⟨_, _, _, G, m, q, b⟩
section
variable {X : Cx} {CL : Str -> Addr} {b : Bx} {δ δ1 δc : List (Option T)} {scope : Scope} {y : Str} {Nc : List Str} {ix : List Nat} {elt iter : Expr} {ifs : List Expr} {px pc pos : Pos} {p : L3.D -> Bool} {g : L3.D -> T} {ds : List L3.D}
theorem Nb (sc : dP X scope y Nc ix) : jc X scope [y] Nc ix := ⟨sc.kind, sc.mw, sc.nd, sc.names, (fun x hx => by rw [Wf] at hx; subst hx; exact sc.own), sc.frees, sc.hd, sc.HW⟩
theorem Nf (sc : dP X scope y Nc ix) (h : Block X CL scope Nc ifs elt δc ds p g) (h1 : (y == ("__debug__" : Str)) = false) (h2 : (y == ("__classdict__" : Str)) = false) : mG X CL scope Nc [y].length (.Name y px) part1 ifs elt δc ds p g := fun C s0 H0 f0 b' =>
 ⟨BL (i := 0) sc.nd (Kh (by rw [sc.hd]; rfl) sc.own h1 h2), fun d hd => ⟨[d], rfl, rfl, (h C s0 H0 f0 b' d hd).1, (h C s0 H0 f0 b' d hd).2⟩⟩
theorem yV (sc : dP X scope y Nc ix) (hc : X.calm = true) (h : Er X CL b (.Name y px) iter δ ds δ1) (hb : (δc = qE δ1 ix /\ ∀ d ∈ ds, (g d).clean = true) \/ δc = vR δ1 ix) (inner : Block X CL scope Nc ifs elt δc ds p g) (hlen : ds.length <= sizeLine)
   (hs : ∀ x, foldedSetIterable iter X.env x = pure x := by intro _; rfl) (h1 : (y == ("__debug__" : Str)) = false := by decide) (h2 : (y == ("__classdict__" : Str)) = false := by decide) : bY X CL b (.ListComp elt [⟨.Name y px, iter, ifs, 0⟩] scope pos) δ (.lst ((ds.filter p).map g)) δ1 :=
 v7 (xs := [y]) (Nb sc) hc (HY h) hb (Nf sc inner h1 h2) hlen hs
theorem mH {D : cC} {fc : List Stmt} {i : Nat} {x : Str} {pos' : Pos} {gg : L3.D -> T} (g : Gx X) (n : Ln X i x) (sc : dP X scope y Nc ix) (h : Er X CL b (.Name y px) iter δ ds δ1) (hb : (δc = qE δ1 ix /\ ∀ d ∈ ds, (gg d).clean = true) \/ δc = vR δ1 ix) (inner : Block X CL scope Nc ifs elt δc ds p gg)
   (hlen : ds.length <= sizeLine) (k : eO X CL b fc (δ1.set i (some (.lst ((ds.filter p).map gg)))) D) (hl : i < δ1.length)
   (z7 : swapsWith (.ListComp elt [⟨.Name y px, iter, ifs, 0⟩] scope pc) (some (.Name x pos')) pos.line X.env = pure true \/ swapsWith (.ListComp elt [⟨.Name y px, iter, ifs, 0⟩] scope pc) (some (.Name x pos')) pos.line X.env = pure false) (hs : ∀ x, foldedSetIterable iter X.env x = pure x := by intro _; rfl)
   (h1 : (y == ("__debug__" : Str)) = false := by decide) (h2 : (y == ("__classdict__" : Str)) = false := by decide) : eO X CL b (.Assign [.Name x pos'] (.ListComp elt [⟨.Name y px, iter, ifs, 0⟩] scope pc) pos :: fc) δ D :=
 Kg (xs := [y]) g n (Nb sc) (HY h) hb (Nf sc inner h1 h2) hlen k hl z7 hs
end
section
variable {X : Cx} {CL : Str -> Addr} {b : Bx} {δ : List (Option T)} {i : Nat} {x : Str} {d : L3.D} {pos : Pos}
theorem aM (n : Ln X i x) (h : δ[i]? = some (some (.sh d)) := by rfl) : bW X CL b (.Name x pos) δ d δ := ah (v_ n.1 h)
end
structure dz (X : Cx) : Prop where
 g : Gx X
 u : X.A.units + 64 < cLine
abbrev aH (X : Cx) (CL : Str -> Addr) (b : Bx) (st : Stmt) (N : List Str) (l : List L3.D) (r : T) : Prop := eO X CL b (dJ st) (entry N l) { nx := fun _ => r = .sh .non, rt := fun Kn _ => Kn = r }
abbrev aG : NameKind := .globalImplicit
abbrev av : NameKind := .local
theorem bD {N P : List Str} {sc : Scope} (h1 : sc.kind = .function := by rfl) (h2 : sc.isCoroutine = false := by rfl) (h3 : sc.isGenerator = false := by rfl) (h4 : N.Nodup := by decide +kernel) (h5 : N.take P.length = P := by rfl) (h6 : ∀ x ∈ P, sc.names.lookup x = some .local \/ sc.names.lookup x = some .cell := by decide +kernel) (h7 : ∀ y ∈ sc.names, y.2 ≠ .free := by decide +kernel) : aP N P sc := ⟨h1, h2, h3, h4, h5, h6, h7⟩
section
variable {X : Cx} {i : Nat} {x : Str} {tb : List (Str × NameKind)}
theorem bT (c : mC X.env.scope tb = true) (j : Nat) (hj : tb[j]? = some (x, .local) := by rfl) (hi : X.N[i]? = some x := by rfl) (hf : X.fn x = true := by rfl) (hd : (x == ("__debug__" : Str)) = false := by decide) (hc : (x == ("__classdict__" : Str)) = false := by decide) : Ln X i x := UG hi (di c j hj) hf hd hc
theorem DL (c : mC X.env.scope tb = true) (j : Nat) (hj : tb[j]? = some (x, .cell) := by rfl) (hi : X.N[i]? = some x := by rfl) (hf : X.fn x = true := by rfl) (hd : (x == ("__debug__" : Str)) = false := by decide) (hc : (x == ("__classdict__" : Str)) = false := by decide) : Ln X i x := UH hi (di c j hj) hf hd hc
theorem fh (c : mC X.env.scope tb = true) (j : Nat) (hj : tb[j]? = some (x, .globalImplicit) := by rfl) : Gl X x := di c j hj
theorem eX {CL : Str -> Addr} {k n m : Nat} {A : Type} {arg : A -> List D} {Pre : A -> Prop} {res : A -> T} (F : ∃ f fd ps, bX X.prog X.w X.K X.mg X.base f6 k f fd ps (ni X.K CL n arg Pre res) /\ X.mg x = some (.ref f) /\ PySem.W.keepIn X.K (.ref f) = true /\ Binds X.K fd ps []) (r : dg m X.A) (h : k <= m := by decide) : Fc X CL x k n arg Pre res := ⟨F, r.mono h⟩
end
section
variable {K : PySem.W.Frag} {CL : Str -> Addr} {b : Bx} {H H' Z Z' : Hp} {δ δ' : List (Option T)} {σ σ' : L2.St} {ts tl : List T} {vs us : List V} {t : T} {v : V} {y : Addr} {i : Nat}
end
section
variable {K : PySem.W.Frag} {CL : Str -> Addr} {b : Bx} {H Z : Hp} {σ : L2.St} {ts : List T} {vs : List V}
end
section
variable {X : Cx} {CL : Str -> Addr} {b : Bx} {δ δ1 δ2 : List (Option T)} {e : Expr} {es : List Expr} {t : T} {d : L3.D} {pos pp : Pos} {D : cC} {i : Nat} {x : Str} {is : List Nat} {fx : List Addr -> Prop} {al : List Addr -> List T} {y : Addr}
variable {fc : List Stmt}
end
section
variable {X : Cx} {CL : Str -> Addr} {b : Bx} {δ δ1 δ2 : List (Option T)} {e e2 : Expr} {t : T} {tl Ep Sg : List T} {D : cC} {pos pp pa pb : Pos} {y : Addr} {fc : List Stmt}
section
variable {i : Nat} {x : Str}
end
end
def lg {α : Type} (g : α -> Int) (x : α) : List α -> List α
 | [] => [x]
 | y :: l => if g x <= g y then x :: y :: l else y :: lg g x l
def dX {α : Type} (g : α -> Int) : List α -> List α
 | [] => []
 | x :: l => lg g x (dX g l)
section
variable {α β : Type} {g : α -> Int}
theorem mJ (x : α) : ∀ l, (lg g x l).Perm (x :: l)
 | [] => .refl _
 | y :: l => by
   rw [lg]
   split
   . exact .refl _
   . exact ((mJ x l).cons y).trans (.swap x y l)
theorem kL : ∀ l : List α, (dX g l).Perm l
 | [] => .refl _
 | x :: l => (mJ x (dX g l)).trans ((kL l).cons x)
theorem mK {l : List α} {x : α} : x ∈ dX g l ↔ x ∈ l := (kL l).mem_iff
theorem jz (l : List α) : (dX g l).length = l.length := (kL l).length_eq
theorem wk (f : β -> α) (x : β) : ∀ l, lg g (f x) (l.map f) = (lg (fun y => g (f y)) x l).map f
 | [] => rfl
 | y :: l => by
   rw [Wg, lg, lg]
   split
   . rfl
   . rw [Wg, wk f x l]
theorem mL (f : β -> α) : ∀ l : List β, dX g (l.map f) = (dX (fun y => g (f y)) l).map f
 | [] => rfl
 | x :: l => by rw [Wg, dX, dX, mL f l, wk]
def x6 (g : Nat -> Int) (i j : Nat) : Prop := g i < g j \/ (g i = g j /\ i < j)
theorem x6.trans {g : Nat -> Int} {i j k : Nat} (a : x6 g i j) (b : x6 g j k) : x6 g i k := by
 unfold x6 at *; omega
theorem x6.Sj {g : Nat -> Int} {i : Nat} (a : x6 g i i) : False := by unfold x6 at a; omega
theorem wm {g : Nat -> Int} {x : Nat} : ∀ {l : List Nat}, l.Pairwise (x6 g) -> (∀ y ∈ l, x < y) -> (lg g x l).Pairwise (x6 g)
 | [], _, _ => List.pairwise_singleton _ _
 | y :: l, h, hx => by
   obtain ⟨h1, h2⟩ := WW.mp h
   rw [lg]
   split
   . rename_i e
     refine WW.mpr ⟨fun z hz => ?_, h⟩
     have a1 : x6 g x y := by have := hx y VJ; unfold x6; omega
     rcases VC.mp hz with rfl | hz
     . exact a1
     . exact a1.trans (h1 z hz)
   . rename_i e
     refine WW.mpr ⟨fun z hz => ?_, wm h2 fun z hz => hx z (VH _ hz)⟩
     rcases VC.mp ((mJ x l).mem_iff.mp hz) with rfl | hz
     . left; omega
     . exact h1 z hz
theorem rJ {g : Nat -> Int} : ∀ {l : List Nat}, l.Pairwise (· < ·) -> (dX g l).Pairwise (x6 g)
 | [], _ => .nil
 | x :: l, h => by
   obtain ⟨h1, h2⟩ := WW.mp h
   exact wm (rJ h2) fun y hy => h1 y (mK.mp hy)
theorem sM {g : Nat -> Int} : ∀ {S A : List Nat}, S.Pairwise (x6 g) -> A.Pairwise (x6 g) -> (∀ a ∈ A, a ∈ S) -> A.length <= S.length /\ (A.length = S.length -> A = S)
 | [], A, _, _, h => by
   cases A with
   | nil => exact ⟨Vz _, fun _ => rfl⟩
   | cons a A => exact absurd (h a VJ) (by simp)
 | s :: S, [], _, _, _ => ⟨Wi _, fun e => by simp at e⟩
 | s :: S, a :: A, hS, hA, h => by
   obtain ⟨s1, s2⟩ := WW.mp hS
   obtain ⟨a1, a2⟩ := WW.mp hA
   by_cases e : a = s
   . subst e
     have q := sM s2 a2 fun z hz => (VC.mp (h z (VH _ hz))).resolve_left fun e => by subst e; exact (a1 _ hz).Sj
     refine ⟨by simpa using q.1, fun e => by rw [q.2 (by simpa using e)]⟩
   . have ha : a ∈ S := (VC.mp (h a VJ)).resolve_left e
     have q := sM (A := a :: A) s2 hA fun z hz => by
       rcases VC.mp hz with rfl | hz
       . exact ha
       . refine (VC.mp (h z (VH _ hz))).resolve_left fun e2 => ?_
         subst e2
         exact ((s1 a ha).trans (a1 _ hz)).Sj
     exact ⟨by have := q.1; simp at this ⊢; omega, fun e3 => by have := q.1; simp at this e3; omega⟩
theorem B4 {l r : List α} {κ : Nat -> Nat} (hn : r.length = l.length) (pl : ∀ k, k < l.length -> r[k]? = l[κ k]?) (lo : ∀ k, k < l.length -> κ k < l.length)
   (st : ∀ i j x y, i < j -> r[i]? = some x -> r[j]? = some y -> g x < g y \/ (g x = g y /\ κ i < κ j)) : r = dX g l := by
 cases l with
 | nil => cases r with
   | nil => rfl
   | cons a r => simp at hn
 | cons d l0 =>
   generalize hl : d :: l0 = l at *
   let f : Nat -> α := fun i => (l[i]?).getD d
   have hf : ∀ i, i < l.length -> l[i]? = some (f i) := fun i hi => by
     show _ = some ((l[i]?).getD d)
     rw [V2 hi]; rfl
   have el : l = (List.range l.length).map f := W8 fun i => by
     rw [Wn]
     by_cases hi : i < l.length
     . rw [hf i hi, W5 hi]; rfl
     . rw [List.getElem?_eq_none (by omega), List.getElem?_eq_none (by simpa using hi)]; rfl
   have er : r = ((List.range l.length).map κ).map f := W8 fun i => by
     rw [Wn, Wn]
     by_cases hi : i < l.length
     . rw [pl i hi, hf _ (lo i hi), W5 hi]; rfl
     . rw [List.getElem?_eq_none (by omega), List.getElem?_eq_none (by simpa using hi)]; rfl
   have gr : ∀ k, k < l.length -> r[k]? = some (f (κ k)) := fun k hk => (pl k hk).trans (hf _ (lo k hk))
   have eA : (List.range l.length).map κ = dX (fun i => g (f i)) (List.range l.length) := by
     refine (sM (rJ (List.pairwise_lt_range)) (List.pairwise_map.mpr ?_) fun a ha => ?_).2 ?_
     . refine List.Pairwise.imp_of_mem (R := (· < ·)) (fun {i j} hi hj wc => ?_) List.pairwise_lt_range
       exact st i j _ _ wc (gr i (W9.mp hi)) (gr j (W9.mp hj))
     . obtain ⟨k, hk, rfl⟩ := Wc.mp ha
       exact mK.mpr (W9.mpr (lo k (W9.mp hk)))
     . rw [VL, jz]
   rw [er, eA, ← mL, ← el]
end
theorem x8 {pos pos' : Pos} {c cv : Value} (l : List Value) (h : TriplesOk l) (e : codeAmong pos (l ++ [rawInt pos'.line, rawInt pos'.col, c]) = some cv) : codeAmong pos l = some cv \/ cv = c := by
 fun_induction TriplesOk l with
 | case1 =>
   simp only [Xj, codeAmong, rawInt] at e
   split at e
   . exact .inr (VR e).symm
   . cases e
 | case2 a t b u x rest ih =>
   simp only [V7, codeAmong] at e ⊢
   split at e
   . rename_i hc; rw [Vy hc]; exact .inl e
   . rename_i hc; rw [Vx hc]; exact ih h e
 | case3 l h1 h2 => exact h.elim
def B5 (f : Addr) (q : Str) (ps : Arguments) (body : Expr) (sc : Scope) (cl : List (Str × Addr)) (c : Addr) : Heap -> Prop := fun h =>
 ∃ pm Lx, h.get? f = some (PySem.W.kla_obj "<lambda>" q ps body sc cl pm c Lx)
structure EX (X : Cx) (CL : Str -> Addr) (x q : Str) : Prop where
 code : ∃ c, X.env.code = .ref c /\ PySem.W.CodeHd X.base c (CL x)
 blt : ∃ bm o, X.mg "__builtins__" = some (.ref bm) /\ bm ≠ builtinsNs /\ bm ≠ mainGlobals /\ X.base.get? bm = some o /\ o.cls = .type "module" /\ o.dict = some builtinsNs /\ o.data = .plain
 qual : X.env.qual ++ "<lambda>" = q
 tab : vQ x = true /\ CL x ≠ 0 /\ zZ x = q
section
variable {X : Cx} {CL : Str -> Addr} {pins : List (Addr × Obj)} {σ : L2.St} {H : Hp} {s : Shared} {x q : Str} {params : Arguments} {body : Expr} {scope : Scope} {pos : Pos}
theorem Ko {Q : Value -> Shared -> Prop} (L : EX X CL x q) (I : L2.Inv X pins σ H s) (ht : H (CL x) = some (.tabs q)) (vt : ∀ y ∈ scope.names, y.2 = .free -> ∃ c, X.env.cells.lookup y.1 = some c)
   (Kp : defaultsOf params X.env = ([], []))
   (k : ∀ f c H' s', L2.Inv X pins σ H' s' -> ay H H' -> H' f = some (.ext (B5 f q params body scope (bH X.env scope.names []) c)) -> H' c = some (.zF q) -> (∀ b o, H' b = some o -> fW o = true -> H b = some o) -> Q (.ref f) s') :
   wpAny (model X.prog X.w) X.A (eval (.Lambda params body scope pos) X.env) Q X.xe s := by
 obtain ⟨c, hc, hd⟩ := L.code
 obtain ⟨bm, ob, b1, b2, b3, b4, b5, b6, b7⟩ := L.blt
 obtain ⟨ps, hP, tr, cs⟩ := I.cK _ _ ht
 have Ng : ∀ {b : Addr} {o : Obj}, X.base.get? b = some o -> b ≠ CL x := fun {b o} e z => by
   have := (I.bs _ _ e).2
   rw [z, ht] at this; cases this
 have hg : s.heap.Ns mainGlobals X.mg := by
   obtain ⟨o, es, ep, e, r⟩ := I.mod.glob
   exact ⟨o, es, ep, I.bk _ _ e, r⟩
 have UI : mainGlobals ≠ CL x := by
   obtain ⟨o, _, _, e, _⟩ := I.mod.glob
   exact Ng e
 have hb : s.heap.BuiltinsAt X.mg (CL x) := ⟨bm, ob, b1, b2, b3, Ng b4, I.bk _ _ b4, b5, b6, b7⟩
 refine PySem.W.kla_eval Kp ?_
 rw [L.qual]
 cases hf : codeAmong pos ps.toList with
 | none =>
   refine PySem.W.kla_makeFunction (gk vt) I.ok.glob hg hc (hd.keeps I.bk) hP tr hf UI hb fun c' Lx h' tk hx M9 qF Q8 Sl => ?_
   obtain ⟨c₂, oc, vs, t, e2, Lh, QJ, hv⟩ := Q8
   cases e2
   have hn : H c' = none := I.cK.fresh M9
   have Sn : ∀ {b : Addr}, H b = none -> b ≠ CL x := fun {b} e z => by rw [z, ht] at e; cases e
   have ne' : ∀ {b : Addr} {o : Obj}, s.heap.get? b = some o -> b ≠ c' := fun {b o} e => Wd (V6 (VN e) M9)
   have cP : CL x ≠ c' := ne' hP
   have un : Un X.fs [] H (upd H c' (.zF q)) s.heap h' := by
     refine ⟨fun b o e n _ _ => hx b o (Sn n) e, fun b o e n _ _ => ⟨o.slots, hx b o (Sn n) e⟩, fun b o e n _ => by rw [au (ne' e)]; exact n, fun b o e _ => ?_, fun b xs e => by rw [au (az e hn)]; exact e, fun b o u e => by rw [au (az e hn)]; exact e, fun b ps e => ⟨#[], by rw [au (az e hn), e]; simp⟩⟩
     by_cases z : b = CL x
     . exact ⟨_, z ▸ Sl⟩
     . exact ⟨o, hx b o z e⟩
   have cK : nK X.prog X.w (upd H c' (.zF q)) h' := fun b u e => by
     by_cases z : b = c'
     . subst z
       rw [aK] at e
       cases e
       exact ⟨oc, vs, t, Lh, QJ, hv⟩
     . rw [au z] at e
       by_cases z2 : b = CL x
       . subst z2
         rw [ht] at e
         cases e
         refine ⟨_, Sl, ?_, fun pos' cv ec => ?_⟩
         . rw [Array.toList_append]
           exact TriplesOk_snoc _ _ _ _ tr
         . rw [Array.toList_append] at ec
           rcases x8 _ tr ec with q1 | q1
           . obtain ⟨c3, e3, e4⟩ := cs pos' cv q1
             exact ⟨c3, e3, by rw [au (az e4 hn)]; exact e4⟩
           . exact ⟨c', q1, aK⟩
       . refine (I.cK b u e).vp (fun d v IC r => hx d v ?_ r) (fun d r => by rw [au (az r hn)]; exact r) (fun d xs r => by rw [au (az r hn)]; exact r) fun d z r => by rw [au (az r hn)]; exact r
         rintro rfl
         rcases IC with w | w
         . exact z2 w.symm
         . rw [ht] at w; cases w
   have I1 := I.un (t' := tk) un cK
   have f1 : (upd H c' (.zF q)) h'.objs.size = none := cK.fresh (Vz _)
   have I2 := I1.laid (t' := tk) (a := h'.objs.size) (o := .ext (B5 h'.objs.size q params body scope (bH X.env scope.names []) c')) (h' := h'.push (PySem.W.kla_obj "<lambda>" q params body scope (bH X.env scope.names []) ((X.mg "__name__").getD .none) c' Lx))
     (fun b u e => VD _ e) (Vz _) ⟨⟨_, _, V5 _ rfl⟩, ⟨_, V5 _ rfl⟩, fun h1 h2 ⟨pm, ct, e⟩ kk => ⟨pm, ct, kk _ e⟩⟩
   refine k _ c' _ _ I2 (fun b o e => ?_) aK ?_ fun b o e im => ?_
   . have z1 := az e hn
     have z2 : b ≠ h'.objs.size := fun z => by
       rw [← z, au z1, e] at f1; cases f1
     rw [au z2, au z1]; exact e
   . rw [au (Wd qF), aK]
   . by_cases z2 : b = h'.objs.size
     . subst z2; rw [aK] at e; cases e; cases im
     . rw [au z2] at e
       by_cases z1 : b = c'
       . subst z1; rw [aK] at e; cases e; cases im
       . rw [au z1] at e; exact e
 | some cv =>
   obtain ⟨c', rfl, A0⟩ := cs pos cv hf
   refine PySem.W.kla_makeFunctionHit (gk vt) I.ok.glob hg hc (hd.keeps I.bk) hP tr hf hb fun Lx h' tk hk A9 => ?_
   have I2 := I.laid (t' := tk) (a := h'.objs.size) (o := .ext (B5 h'.objs.size q params body scope (bH X.env scope.names []) c')) (h' := h'.push (PySem.W.kla_obj "<lambda>" q params body scope (bH X.env scope.names []) ((X.mg "__name__").getD .none) c' Lx))
     (fun b u e => VD _ (hk _ _ e)) A9 ⟨⟨_, _, V5 _ rfl⟩, ⟨_, V5 _ rfl⟩, fun h1 h2 ⟨pm, ct, e⟩ kk => ⟨pm, ct, kk _ e⟩⟩
   have f1 : H h'.objs.size = none := I.cK.fresh A9
   refine k _ c' _ _ I2 (fun b o e => by rw [au (az e f1)]; exact e) aK (by rw [au (az A0 f1)]; exact A0) fun b o e im => ?_
   by_cases z2 : b = h'.objs.size
   . subst z2; rw [aK] at e; cases e; cases im
   . rw [au z2] at e; exact e
end
def wu (X : Cx) (A : Around) (q : Str) (scope : Scope) (Nc : List Str) (f c : Addr) (s : Shared) (H : Hp) : Cx where
 prog := X.prog
 w := X.w
 K := X.K
 mg := X.mg
 base := X.base
 A := A.deeper (PySem.W.envX q scope s.heap.objs.size f (.ref c) (bH X.env scope.names []))
 N := Nc
 s₀ := s
 H₀ := H
 env := PySem.W.envX q scope s.heap.objs.size f (.ref c) (bH X.env scope.names [])
 outer := X.stack
 stack := PySem.W.envX q scope s.heap.objs.size f (.ref c) (bH X.env scope.names []) :: X.stack
 ex := []
 fn := fun _ => false
 calm := true
 pn := []
 xe := fun _ _ => False
section
variable {X : Cx} {scope : Scope} {x q : Str} {Nc : List Str} {ix : List Nat} {pins : List (Addr × Obj)} {σ : L2.St} {H : Hp} {s : Shared} {A : Around} {f c : Addr}
theorem Ai (sc : dP X scope x Nc ix) (I : L2.Inv X pins σ H s) (hA : A.frames = some X.stack) (hh : A.handled = none) {h' : Heap} {tk : Nat} {u : Value} {v : V} (r : RelV v u)
   (hn : h'.Ns s.heap.objs.size (fun y => ([(x, u)] : List (Str × Value)).reverse.lookup y)) (hk : ∀ b o, s.heap.get? b = some o -> h'.get? b = some o) :
   L2.Inv (wu X A q scope Nc f c s H) [] (mz σ ix (some v)) H { s with heap := h', toks := tk } := by
 have frees : ∀ y ∈ scope.names, y.2 = .free -> ∃ c, X.env.cells.lookup y.1 = some c := fun y hy e => I.ok.has y.1 (sc.frees y hy e).2
 have sub : ∀ {y : Str} {c : Addr}, (bH X.env scope.names []).lookup y = some c -> X.env.cells.lookup y = some c := fun {y c} e => g7 frees (fun _ _ z => by cases z) e
 have hlen : (mz σ ix (some v)).length = Nc.length := by
   have all : ∀ l : List Nat, (∀ i ∈ l, ∃ y, X.N[i]? = some y /\ scope.names.lookup y = some .free) -> (l.filterMap (X.N[·]?)).length = l.length := by
     intro l
     induction l with
     | nil => intro _; rfl
     | cons i r ih =>
       intro h
       obtain ⟨y, e, _⟩ := h i VJ
       rw [Wy, e]
       show _ + 1 = _ + 1
       rw [ih fun j hj => h j (VH _ hj)]
   unfold mz
   rw [sc.hd, VX, VX, VL, all ix sc.HW]
 have nil : ∀ b : Addr, b ∉ (wu X A q scope Nc f c s H).ex := fun b z => absurd (show b ∈ ([] : List Addr) from z) (by simp)
 refine ⟨⟨I.ok.mod, sc.kind, rfl, rfl, Vz _, fun y z c h1 h2 => I.ok.inj y z c (sub h1) (sub h2), fun y hy => ?_, fun y c hf _ => (by cases (show false = true from hf)), fun _ => hh, Around.frames_deeper hA, .inr ⟨rfl, rfl⟩, fun b hb => absurd hb (nil b), I.bs, Wk I.ok.DG I.sz, fun b o _ => nil b, fun b hb => absurd hb (nil b), I.stack, I.r6⟩,
   rfl, I.bare, Un.kept hk, ⟨_, hn, fun i y w h1 h2 h3 => ?_⟩, fun y c e => ?_, I.cK.fresh (Vz _), fun y c e => I.iV y c (sub e), fun p hp => absurd (show p ∈ ([] : List (Addr × Obj)) from hp) (by simp), I.cK.kept hk, hlen⟩
 . have O7 : scope.names.lookup y = some .cell \/ scope.names.lookup y = some .free := hy
   rcases O7 with z | z
   . exact absurd rfl (sc.mw _ (Wv z))
   . exact fN z
 . unfold mz at h2
   cases i with
   | zero =>
     have BO : some (some v) = some (some w) := h2
     cases BO
     have e : y = x := by
       have HZ : Nc[0]? = some y := h1
       rw [sc.hd] at HZ
       exact (VR HZ).symm
     subst e
     refine ⟨u, r, .inl ⟨sc.own, ?_⟩⟩
     simp
   | succ i =>
     rw [List.getElem?_cons_succ, Wn] at h2
     cases ei : ix[i]? with
     | none => rw [ei] at h2; cases h2
     | some j =>
       rw [ei] at h2
       have BO : (σ[j]?).getD none = some w := VR h2
       have hj : σ[j]? = some (some w) := by
         cases q : σ[j]? with
         | none => rw [q] at BO; cases BO
         | some o => rw [q] at BO; exact congrArg some BO
       obtain ⟨y', M3, J8⟩ := sc.HW j (Wr ei)
       have QG : Nc[i + 1]? = some y' := by
         have all : ∀ (l : List Nat) (i : Nat), (∀ j ∈ l, ∃ y, X.N[j]? = some y /\ scope.names.lookup y = some .free) -> l[i]? = some j -> (l.filterMap (X.N[·]?))[i]? = some y' := by
           intro l
           induction l with
           | nil => intro i _ h; simp at h
           | cons a r ih =>
             intro i h hi
             obtain ⟨ya, ea, _⟩ := h a VJ
             rw [Wy, ea]
             cases i with
             | zero =>
               simp at hi
               subst hi
               rw [M3] at ea
               cases ea
               rfl
             | succ i => exact ih i (fun j hj => h j (List.mem_cons_of_mem _ hj)) (by simpa using hi)
         rw [sc.hd, List.getElem?_cons_succ]
         exact all ix i sc.HW ei
       have ey : y' = y := by
         have HZ : Nc[i + 1]? = some y := h1
         rw [QG] at HZ
         exact VR HZ
       subst ey
       have oV := (sc.frees (y', .free) (Wv J8) rfl).2
       have J9 : Iw X.env.scope y' := oV.elim (fun z => .inr (.inl z)) (fun z => .inr (.inr z))
       obtain ⟨m0, QH, O8⟩ := I.loc
       obtain ⟨u', ru, lk⟩ := O8 j y' w M3 hj J9
       refine ⟨u', ru, ?_⟩
       rcases lk with ⟨kk, _⟩ | ⟨_, c', hc, m8⟩
       . rcases oV with z | z
         . rw [kk] at z; cases z
         . rw [kk] at z; cases z
       . obtain ⟨c2, A0⟩ := fN (env := X.env) (cs := []) J8
         have : c2 = c' := by
           have := sub A0
           rw [hc] at this
           exact (VR this).symm
         subst this
         obtain ⟨o, ho, hd⟩ := m8
         exact .inr ⟨.inr J8, c2, A0, o, hk _ _ ho, hd⟩
 . obtain ⟨v, o, ho, hd⟩ := I.cell y c (sub e)
   exact ⟨v, o, hk _ _ ho, hd⟩
theorem B6 {params : Arguments} {body : Expr} {u : Value} {v : V} {Q : VK} (sc : dP X scope x Nc ix) (I : L2.Inv X pins σ H s) (hA : A.frames = some X.stack) (hh : A.handled = none) (Nh : A.depth < recursionLimit)
   (hf : H f = some (.ext (B5 f q params body scope (bH X.env scope.names []) c))) (hc : H c = some (.zF q)) (r : RelV v u)
   (wA : ∀ cl pm cd ct u, bindArgs (PySem.W.kla_fn "<lambda>" q params body scope cl pm cd ct) ⟨[u], []⟩ = pure [(x, u)]) (Q9 : scope.isCoroutine = false) (Kq : scope.isGenerator = false)
   (h : vN (wu X A q scope Nc f c s H) body (mz σ ix (some v)) H Q) : wpAny (model X.prog X.w) A (call (.ref f) [u]) (EP X pins σ Q) (fun _ _ => False) s := by
 obtain ⟨⟨pm, Lx, ho⟩, _⟩ := I.cK _ _ hf
 obtain ⟨oc, vs, t, e1, e2, e3⟩ := I.cK _ _ hc
 refine wpAny_call (PySem.W.kla_callFunE Nh ho rfl Q9 Kq rfl ⟨c, oc, vs, t, rfl, e1, e2, e3⟩ ?_)
 rw [wA]
 refine Wh (wpAny_newFunctionEnv sc.mw (fun y hy => ?_) (fun h₁ Pk UJ => ?_) sc.kind)
 . rw [Wf.mp hy]
   exact sc.own
 . have hk : ∀ b o, s.heap.get? b = some o -> h₁.get? b = some o := fun b o e => (UJ.2 b (Wd (VN e))).trans (VD _ e)
   refine ⟨I.nolimit.keeps hk, ?_⟩
   show codeAny _ _ (.expr body (PySem.W.envX q scope s.heap.objs.size f (.ref c) (bH X.env scope.names []))) _ _
   have J := Ai (q := q) (f := f) (c := c) (tk := s.toks + ([(x, u)] : List (Str × Value)).length) sc I hA hh r Pk hk
   refine PySem.W.kla_codeExpr (WL (h [] _ J) (fun w s' hl => ?_) fun e s' hx => False.elim hx)
   obtain ⟨v', H', J', rv, hq⟩ := hl
   exact I.after ⟨v', H', J'.os, J'.bare, J'.base, J'.cK, rv, hq⟩
end
section
variable {X : Cx} {pins : List (Addr × Obj)} {σ : L2.St} {H : Hp} {s : Shared}
theorem Aj {a : Addr} {o : HO} (I : L2.Inv X pins σ H s) (fp : fz X pins H a) (new : eV X.prog X.w (upd H a o) s.heap a o) : L2.Inv X pins σ (upd H a o) s := by
 have hn := fp.1
 refine I.step (H' := upd H a o) (h' := s.heap) (g' := s.gens) (d' := s.drawn) (t' := s.toks) (ch := [a]) (fun b hb => ?_) (fun b o _ _ _ e _ => e) (fun b o _ _ _ e _ => ⟨o.slots, e⟩) (fun b o hc _ n => by rw [au fun z => hc (by simp [z])]; exact n)
   (fun b o _ e => ⟨o, e⟩) (fun b xs e => by rw [au (az e hn)]; exact e) (fun b o u e => by rw [au (az e hn)]; exact e) (fun b ps e => ⟨#[], by rw [au (az e hn), e]; simp⟩) (fun m hm => hm) (fun b u e => ?_) I.bare
 . have e : b = a := by simpa using hb
   subst e
   exact ⟨fp.2.2.2.1, fp.2.1, fp.2.2.2.2.1, fp.2.2.2.2.2⟩
 . by_cases z : b = a
   . subst z; rw [aK] at e; cases e; exact new
   . rw [au z] at e
     exact (I.cK b u e).vp (fun _ _ _ q => q) (fun c q => by rw [au (az q hn)]; exact q) (fun c xs q => by rw [au (az q hn)]; exact q) fun c z q => by rw [au (az q hn)]; exact q
end
def kr (kz : List Int) (xs : List V) : List V := (dX Prod.fst (kz.zip xs)).map Prod.snd
section
variable {α β : Type} {F : α -> β -> Prop} {g1 : α -> Int} {g2 : β -> Int}
theorem nB (hg : ∀ p q, F p q -> g1 p = g2 q) {x : α} {y : β} (hx : F x y) : ∀ {l1 : List α} {l2 : List β}, Paired F l1 l2 -> Paired F (lg g1 x l1) (lg g2 y l2)
 | _, _, .nil => .cons hx .nil
 | p :: l1, q :: l2, .cons r t => by
   rw [lg, lg, hg x y hx, hg p q r]
   split
   . exact .cons hx (.cons r t)
   . exact .cons r (nB hg hx t)
theorem ig (hg : ∀ p q, F p q -> g1 p = g2 q) : ∀ {l1 : List α} {l2 : List β}, Paired F l1 l2 -> Paired F (dX g1 l1) (dX g2 l2)
 | _, _, .nil => .nil
 | _, _, .cons r t => nB hg r (ig hg t)
end
theorem pJ : ∀ {ks us : List Value} {kz : List Int} {xs : List V}, IntsAre ks kz -> Vals xs us -> Paired (fun (p : Int × V) (q : Value × Value) => p.1 = numOf q.1 /\ RelV p.2 q.2) (kz.zip xs) (ks.zip us)
 | _, _, _, _, .nil, _ => by simp only [List.zip_nil_left]; exact .nil
 | _, _, _, _, .cons n t h, .nil => by simp only [List.zip_nil_right]; exact .nil
 | _, _, _, _, .cons n t h, .cons r rr => .cons ⟨rfl, r⟩ (pJ h rr)
theorem wB : ∀ {ps : List (Int × V)} {qs : List (Value × Value)}, Paired (fun (p : Int × V) (q : Value × Value) => p.1 = numOf q.1 /\ RelV p.2 q.2) ps qs -> Vals (ps.map Prod.snd) (qs.map Prod.snd)
 | _, _, .nil => .nil
 | _, _, .cons r t => .cons r.2 (wB t)
theorem wC {keys : Array Value} {us : List Value} {xs : List V} {kz : List Int} (hk : IntsAre keys.toList kz) (r : Vals xs us) {arr : Array Keyed} {κ : Nat -> Nat}
   (t : Tag (keys.zip us.toArray) arr κ (keys.zip us.toArray).size) (o : jd arr κ (keys.zip us.toArray).size) (hz : arr.size = (keys.zip us.toArray).size) : Vals (kr kz xs) (arr.map (·.2)).toList := by
 have ez := ksk_zip keys us
 have el : (keys.toList.zip us).length = (keys.zip us.toArray).size := by rw [← ez, WR]
 have e : arr.toList = dX (fun p : Keyed => numOf p.1) (keys.toList.zip us) := by
   refine B4 (κ := κ) (by rw [el, WR, hz]) (fun k hk => ?_) (fun k hk => ?_) fun i j x y wc hx hy => ?_
   . rw [el] at hk
     rw [Xc, t.pl k hk, ← ez, Xc]
   . rw [el] at hk ⊢
     exact t.lo k hk
   . rw [Xc] at hx hy
     have hj : j < arr.size := (Array.getElem?_eq_some_iff.mp hy).1
     have q := o i j wc (by rw [← hz]; exact hj)
     unfold PyProof.Rows.K at q
     rw [hx, hy] at q
     exact q
 rw [Array.toList_map, e]
 exact wB (ig (fun p q h => h.1) (pJ hk r))
section
variable {X : Cx} {pins : List (Addr × Obj)} {σ : L2.St} {H : Hp} {s : Shared} {a kS f l : Addr} {us : List Value} {xs : List V} {kz : List Int} {J : Hp -> Prop} {e1 : Nat} {A : Around} {E : Value -> Shared -> Prop} {P : PySem.Fin -> Shared -> Prop}
theorem oi {it : Addr} (I : L2.Inv X pins σ H s) (fp : fz X pins H it) (g : Obj -> Obj) : L2.Inv X pins σ H { s with heap := s.heap.update it g } := by
 have s1 := Heap.SameBut.update s.heap it g
 exact I.turned (t' := s.toks) (fun b o n q => (s1.2 b n).trans q) fp.1 fp.2.1 fp.2.2.2.1 fp.2.2.2.2.1 fp.2.2.2.2.2
theorem yW {st : SortSt} {keys : Array Value} {e : Nat} (I : L2.Inv X pins σ H s) (fk : fz X pins H kS) (fa : fz X pins H a) (Kr : kS ≠ a) (ok : s.heap.get? kS = some (seqObj "list" keys e)) (oa : s.heap.get? a = some (seqObj "list" #[] e1))
   (Q7 : keys.size < 64) (A9 : (arrOf st).size < 64) (UK : failedOf st = none)
   (h : ∀ s' c, L2.Inv X pins σ H s' -> s'.heap.get? a = some (seqObj "list" ((arrOf st).map (·.2)) c) -> P (.done (.ret .none)) s') :
   wpAny (model X.prog X.w) A (ksk_tail a false e1 (.ref kS) st) P E s := by
 have s1 := Heap.SameBut.update s.heap kS (Obj.mapSeq fun _ => (#[] : Array Value))
 have I1 := oi I fk (Obj.mapSeq fun _ => (#[] : Array Value))
 have Ra : (s.heap.update kS (Obj.mapSeq fun _ => (#[] : Array Value))).get? a = some (seqObj "list" #[] e1) := (s1.2 a Kr.symm).trans oa
 have I2 := oi I1 fa (Obj.mapSeq fun _ => (arrOf st).map (·.2))
 obtain ⟨c2, J7⟩ : ∃ c2, ((s.heap.update kS (Obj.mapSeq fun _ => (#[] : Array Value))).update a (Obj.mapSeq fun _ => (arrOf st).map (·.2))).get? a = some (seqObj "list" ((arrOf st).map (·.2)) c2) :=
   ⟨_, get?_update_seq Ra fun _ => (arrOf st).map (·.2)⟩
 unfold ksk_tail
 try dsimp only
 refine VG (listUpdate_at ok rfl ?_ (by rw [Wb]; omega) (Wi _))
 refine VG (wpAny_letGo ?_)
 refine VG (seqEpoch_at Ra rfl ?_)
 refine VG (listUpdate_at Ra rfl ?_ (Wi _) (by simp only [Ws, W0, Array.size_map]; rw [Wb]; omega))
 rw [UK]
 simp only [bne_self_eq_false, Ws, W0]
 exact Wh (h _ c2 I2 J7)
theorem Ks {keys : Array Value} {e : Nat} (I : L2.Inv X pins σ H s) (fk : fz X pins H kS) (fa : fz X pins H a) (Kr : kS ≠ a) (ok : s.heap.get? kS = some (seqObj "list" keys e)) (oa : s.heap.get? a = some (seqObj "list" #[] e1))
   (hk : IntsAre keys.toList kz) (hlen : kz.length = us.length) (Ih : us.length < 64) (r : Vals xs us)
   (h : ∀ s' out c, L2.Inv X pins σ H s' -> s'.heap.get? a = some (seqObj "list" out c) -> Vals (kr kz xs) out.toList -> P (.done (.ret .none)) s') :
   wpAny (model X.prog X.w) A (ksk_end a false us.toArray e1 (.ref kS) keys) P E s := by
 have A9 : keys.size = us.length := by
   have h1 := hk.length
   rw [WR] at h1
   omega
 have Sq : (keys.zip us.toArray).size = us.length := by rw [Array.size_zip, A9, V0, Nat.min_self]
 have t0 : ∀ n, Tag (keys.zip us.toArray) (keys.zip us.toArray) id n := fun n => ⟨fun _ _ => rfl, fun _ q => q, fun _ _ => rfl⟩
 unfold ksk_end
 try dsimp only
 simp only [Ws, W0]
 by_cases h2 : us.toArray.size < 2
 . rw [Vy h2, Vy h2]
   refine VG (Wh ?_)
   rw [StateT.run_pure]
   refine VG (Wh ?_)
   try dsimp only
   rw [V0] at h2
   refine yW (st := SortSt.mk' general' (keys.zip us.toArray) #[] 7 none) I fk fa Kr ok oa (by omega) (by show (keys.zip us.toArray).size < 64; omega) rfl fun s' c I' o' => h s' _ c I' o' ?_
   exact wC hk r (arr := keys.zip us.toArray) (κ := id) (t0 _) (fun i j wc hj => by omega) rfl
 . rw [Vx h2, Vx h2]
   rw [V0] at h2
   rw [ksk_kind hk (by rw [A9]; omega)]
   refine VG (Wh ?_)
   refine VG (WL (Ah (a₀ := keys.zip us.toArray) (st := SortSt.mk' oneType' (keys.zip us.toArray) #[] 7 none)
     (Q := fun _ xG => failedOf xG = none /\ ∃ κ, Tag (keys.zip us.toArray) (arrOf xG) κ (keys.zip us.toArray).size /\ jd (arrOf xG) κ (keys.zip us.toArray).size /\ (arrOf xG).size = (keys.zip us.toArray).size)
     (ksk_intKeys hk) ⟨Array.Perm.refl _, rfl, rfl, rfl⟩ (t0 _) (by rw [Sq]; omega) (by rw [Sq]; exact Ih) fun z κ a1 a2 a3 a4 => ⟨a1, κ, a2, a3, a4⟩) ?_ fun _ _ e => e)
   rintro ⟨⟨⟩, xG⟩ s' ⟨rfl, hf, κ, t, o, hz⟩
   try dsimp only
   have Vr : (arrOf xG).size = (keys.zip us.toArray).size := hz
   exact yW I fk fa Kr ok oa (by omega) (by omega) hf fun s' c I' o' => h s' _ c I' o' (wC hk r t o hz)
theorem Ni {b : Addr} {H' : Hp} (fp : fz X pins H b) (h : H' b = none) : fz X pins H' b := ⟨h, fp.2⟩
theorem EY (I : L2.Inv X pins σ H s) (fk : fz X pins H kS) (fa : fz X pins H a) (Kr : kS ≠ a) (ok : s.heap.get? kS = some (seqObj "list" #[] 0)) (oa : s.heap.get? a = some (seqObj "list" #[] e1)) (j0 : J H)
   (hlen : kz.length = us.length) (Ih : us.length < 64) (r : Vals xs us)
   (turn : ∀ (i : Nat) (x : V) (k : Int), xs[i]? = some x -> kz[i]? = some k -> ∀ (fK : List (Addr × Obj)) (s' : Shared) (u : Value) (H' : Hp), L2.Inv X fK σ H' s' -> J H' -> RelV x u →
     wpAny (model X.prog X.w) A (call (.ref f) [u]) (EP X fK σ fun v Nj => v = .int k /\ J Nj) (fun _ _ => False) s')
   (h : ∀ s' H' out c, L2.Inv X pins σ H' s' -> J H' -> H' a = none -> s'.heap.get? a = some (seqObj "list" out c) -> Vals (kr kz xs) out.toList -> P (.done (.ret .none)) s') :
   wpAny (model X.prog X.w) A (ksk_rest a (.ref f) false us.toArray e1 (.ref kS)) P E s := by
 unfold ksk_rest
 refine VG (wpAny_rule ?_)
 first
   | rw [List.forIn_toArray]
   | (rw [← Array.forIn_toList]; simp only [List.toList_toArray])
   | rw [← Array.forIn_toList]
 refine VG (ksk_fold (fun i s' => ∃ H' kA e, L2.Inv X pins σ H' s' /\ J H' /\ H' kS = none /\ H' a = none /\ s'.heap.get? kS = some (seqObj "list" kA e) /\ s'.heap.get? a = some (seqObj "list" #[] e1) /\ IntsAre kA.toList (kz.take i)) us 0 s
   ⟨H, #[], 0, I, j0, fk.1, fa.1, ok, oa, by simpa using IntsAre.nil⟩ ?step ?done)
 case step =>
   rintro j u s' hx ⟨H', kA, e, I', jj, nk, na, Nk, Pn, hk⟩
   simp only [Nat.zero_add] at hk ⊢
   have hj : j < us.length := (WC.mp hx).1
   obtain ⟨k, Ss⟩ : ∃ k, kz[j]? = some k := ⟨_, V2 (by omega)⟩
   obtain ⟨x, Sv⟩ : ∃ x, xs[j]? = some x := ⟨_, V2 (by rw [r.length]; exact hj)⟩
   have rx : RelV x u := by
     obtain ⟨u', e1, e2⟩ := r.get Sv
     rw [hx] at e1; cases e1; exact e2
   have hz : kA.size <= us.length := by
     have h1 := hk.length
     rw [WR, List.length_take] at h1
     omega
   have Ip := I'.pinned (fp := [kS, a]) (fun b hb => by
     rcases VC.mp hb with rfl | hb
     . exact Ni fk nk
     . rw [Wf.mp hb]; exact Ni fa na) (fun b hb => by
     rcases VC.mp hb with rfl | hb
     . exact ⟨_, Nk, fun v z => by cases z⟩
     . rw [Wf.mp hb]; exact ⟨_, Pn, fun v z => by cases z⟩)
   refine VG (wpAny_attempt (WL (turn j x k Sv Ss _ _ u H' Ip jj rx) (fun v Lk he => ?_) fun _ _ hF => hF.elim))
   obtain ⟨w, H2, I2, UL, rfl, j2⟩ := he
   obtain ⟨t2, rfl⟩ := UL
   try dsimp only
   have pk := I2.pin (kS, seqObj "list" kA e) (Vw _ (Vw _ (eH (by simp) Nk)))
   have pa := I2.pin (a, seqObj "list" #[] e1) (Vw _ (Vw _ (eH (by simp) Pn)))
   have I3 := oi I2.iX (Ni fk pk.2.1) (Obj.mapSeq (·.push (.int k t2)))
   have s1 := Heap.SameBut.update Lk.heap kS (Obj.mapSeq (·.push (.int k t2)))
   obtain ⟨c2, J7⟩ : ∃ c2, (Lk.heap.update kS (Obj.mapSeq (·.push (.int k t2)))).get? kS = some (seqObj "list" (kA.push (.int k t2)) c2) := ⟨_, get?_update_seq pk.1 (·.push (.int k t2))⟩
   have ek : kz.take (j + 1) = kz.take j ++ [k] := by rw [List.take_add_one, Ss]; simp
   have ea : (kA.push (Value.int k t2)).toList = kA.toList ++ [Value.int k t2] := by simp
   refine VG (listUpdate_at pk.1 rfl ?_ (by rw [Wb]; omega) (Wk (Nat.le_of_eq (Array.size_push ..)) (by rw [Wb]; omega)))
   exact Wh ⟨rfl, H2, kA.push (.int k t2), c2, I3, j2, pk.2.1, pa.2.1, J7, (s1.2 a Kr.symm).trans pa.1, by rw [ea, ek]; exact ksk_snoc hk⟩
 case done =>
   rintro s' ⟨H', kA, e, I', jj, nk, na, Nk, Pn, hk⟩
   have UM : IntsAre kA.toList kz := by
     have e3 : kz.take (0 + us.length) = kz := List.take_of_length_le (by omega)
     rw [e3] at hk
     exact hk
   try dsimp only
   refine VG (listItems_at Nk rfl ?_)
   exact Ks I' (Ni fk nk) (Ni fa na) Kr Nk Pn UM hlen Ih r fun s2 out c I2 o2 v2 => h s2 H' out c I2 jj na o2 v2
theorem EZ {n : Nat} (I : L2.Inv X pins σ H s) (fa : fz X pins H a) (oa : s.heap.get? a = some (seqObj "list" us.toArray n)) (j0 : J H)
   (hlen : kz.length = us.length) (Ih : us.length < 64) (r : Vals xs us)
   (turn : ∀ (i : Nat) (x : V) (k : Int), xs[i]? = some x -> kz[i]? = some k -> ∀ (fK : List (Addr × Obj)) (s' : Shared) (u : Value) (H' : Hp), L2.Inv X fK σ H' s' -> J H' -> RelV x u →
     wpAny (model X.prog X.w) A (call (.ref f) [u]) (EP X fK σ fun v Nj => v = .int k /\ J Nj) (fun _ _ => False) s')
   (h : ∀ s' H' out c, L2.Inv X pins σ H' s' -> J H' -> H' a = none -> s'.heap.get? a = some (seqObj "list" out c) -> Vals (kr kz xs) out.toList -> P (.done (.ret .none)) s') :
   wpAny (model X.prog X.w) A (ksk_tree a (.ref f) false) P E s := by
 have ha : a < s.heap.objs.size := VN oa
 obtain ⟨e1, Q5⟩ : ∃ e1, (s.heap.update a (Obj.mapSeq fun _ => (#[] : Array Value))).get? a = some (seqObj "list" #[] e1) := ⟨_, get?_update_seq oa fun _ => #[]⟩
 have I1 := oi I fa (Obj.mapSeq fun _ => (#[] : Array Value))
 have Rb : ((s.heap.update a (Obj.mapSeq fun _ => (#[] : Array Value))).push (seqObj "tuple" us.toArray 0)).objs.size = s.heap.objs.size + 1 := by rw [size_push', Heap.size_update]
 have I2 : L2.Inv X pins σ H { s with heap := ((s.heap.update a (Obj.mapSeq fun _ => (#[] : Array Value))).push (seqObj "tuple" us.toArray 0)).push (seqObj "list" #[] 0) } :=
   I1.kept (t' := s.toks) fun b o e => VD _ (VD _ e)
 unfold ksk_tree
 refine VG (listItems_at oa rfl ?_)
 refine VG (listUpdate_at oa rfl ?_ (by rw [V0, Wb]; omega) (Wi _))
 refine VG (seqEpoch_at Q5 rfl ?_)
 refine VG (wpAny_newTuple ?_ (by show us.length <= _; rw [Wb]; omega))
 refine VG (wpAny_newList ?_ (Wi _))
 refine Xn ?_
 refine EY (s := { s with heap := ((s.heap.update a (Obj.mapSeq fun _ => (#[] : Array Value))).push (seqObj "tuple" us.toArray 0)).push (seqObj "list" #[] 0) }) (kS := ((s.heap.update a (Obj.mapSeq fun _ => (#[] : Array Value))).push (seqObj "tuple" us.toArray 0)).objs.size)
   I2 (I.zJ (by rw [Rb]; exact Nat.le_succ _) (I.cK.fresh (by rw [Rb]; exact Nat.le_succ _))) fa (by rw [Rb]; exact Nat.ne_of_gt (Nat.lt_succ_of_lt ha)) (V5 _ rfl) (VD _ (VD _ Q5)) j0 hlen Ih r turn h
theorem Ak {Q : VK} (I : L2.Inv X pins σ H s) (hq : kW X.K H l xs) (hlen : kz.length = xs.length) (Ih : xs.length < 64) (j0 : J H)
   (turn : ∀ (i : Nat) (x : V) (k : Int), xs[i]? = some x -> kz[i]? = some k -> ∀ (fK : List (Addr × Obj)) (s' : Shared) (u : Value) (H' : Hp), L2.Inv X fK σ H' s' -> J H' -> RelV x u →
     wpAny (model X.prog X.w) X.A.in1.in1 (call (.ref f) [u]) (EP X fK σ fun v Nj => v = .int k /\ J Nj) (fun _ _ => False) s')
   (h : ∀ D H', J H' -> H' D = none -> Q (.ref D) (upd H' D (.lst (kr kz xs)))) :
   wpAny (model X.prog X.w) X.A (call (.builtin "sorted") [.ref l] [(Str.ofString "key", .ref f)]) (EP X pins σ Q) E s := by
 obtain ⟨us, r, pl, hz⟩ := I.list hq
 have el := r.length
 have hl : s.heap.IsList l us.toArray := pl.isList
 refine call_function_entry_kw kind_sorted plain_sorted entry_sorted (ksk_s1 _ _) ?_
 unfold Builtin.«sorted»
 refine VG (m := checkCount "sorted" 1 1 _) (Wh ?_)
 refine VG (collect_list hl ?_ (by rw [Wb]; omega))
 refine VG (wpAny_newList ?_ (by rw [Wb]; omega))
 have A9 : ((s.heap.push (seqObj "list" #[] 0)).update s.heap.objs.size (Obj.mapSeq (· ++ us.toArray))).objs.size = s.heap.objs.size + 1 := by
   rw [Heap.size_update, size_push']
 have OS : (((s.heap.push (seqObj "list" #[] 0)).update s.heap.objs.size (Obj.mapSeq (· ++ us.toArray))).push (seqObj "list" us.toArray 0)).get? (s.heap.objs.size + 1) = some (seqObj "list" us.toArray 0) := by
   rw [← A9]; exact V5 _ rfl
 have keep : ∀ b o, s.heap.get? b = some o -> (((s.heap.push (seqObj "list" #[] 0)).update s.heap.objs.size (Obj.mapSeq (· ++ us.toArray))).push (seqObj "list" us.toArray 0)).get? b = some o := fun b o q => by
   have qF : b < s.heap.objs.size := VN q
   rw [Heap.get?_push_ne _ _ _ (by rw [A9]; exact Wd (Nat.lt_succ_of_lt qF)), Heap.get?_update_ne _ _ _ _ (Wd qF), Heap.get?_push_ne _ _ _ (Wd qF)]
   exact q
 show wpAny _ _ _ _ _ { s with heap := ((s.heap.push (seqObj "list" #[] 0)).update s.heap.objs.size (Obj.mapSeq (· ++ us.toArray))).push (seqObj "list" us.toArray 0) }
 rw [A9]
 have I2 : L2.Inv X pins σ H { s with heap := ((s.heap.push (seqObj "list" #[] 0)).update s.heap.objs.size (Obj.mapSeq (· ++ us.toArray))).push (seqObj "list" us.toArray 0) } := I.kept (t' := s.toks) keep
 have fa : ∀ {H' : Hp}, H' (s.heap.objs.size + 1) = none -> fz X pins H' (s.heap.objs.size + 1) := fun {H'} e => I.zJ (Nat.le_succ _) e
 refine VG (Xn (wpAny_call_entry_kw slot_list_sort ⟨_, OS, rfl⟩ entry_list_sort ?body (ksk_l1 _ _)))
 case body =>
   have UN := ksk_t1 f (s.heap.objs.size + 1)
   show wpAny (model X.prog X.w) X.A.in1.in1 (Builtin.«list.sort» ⟨[.ref (s.heap.objs.size + 1)], [(Str.ofString "key", .ref f)]⟩) _ _ _
   rw [UN]
   refine EZ I2 (fa (I.cK.fresh (Nat.le_succ _))) OS j0 (by omega) (by omega) r turn fun s' H' out c I' jj na o' v' => ⟨_, rfl, ?_⟩
   refine Wh ⟨_, rfl, .ref (s.heap.objs.size + 1), _, Aj I' (fa na) (o := .lst (kr kz xs)) ⟨?_, out.toList, c, v', ?_⟩, rfl, h _ H' jj na⟩
   . have : (kr kz xs).length = xs.length := by
       unfold kr
       rw [VL, jz, List.length_zip, hlen, Nat.min_self]
     rw [this]; exact hz
   . simpa using o'
end
section
variable {K : PySem.W.Frag} {CL : Str -> Addr} {Z : Hp} {g : D -> Int}
theorem rK : ∀ {ds : List D} {us : List V}, aA K CL Z ds us -> Paired (fun (d : D) (p : Int × V) => g d = p.1 /\ aR K CL Z d p.2) ds ((ds.map g).zip us)
 | [], _, .nil => .nil
 | _ :: _, _, .cons r t => .cons ⟨rfl, r⟩ (rK t)
theorem rL : ∀ {ds : List D} {ps : List (Int × V)}, Paired (fun (d : D) (p : Int × V) => g d = p.1 /\ aR K CL Z d p.2) ds ps -> aA K CL Z ds (ps.map Prod.snd)
 | [], _, .nil => .nil
 | _ :: _, _, .cons r t => .cons r.2 (rL t)
theorem Al {ds : List D} {us : List V} (r : aA K CL Z ds us) : aA K CL Z (dX g ds) (kr (ds.map g) us) := rL (ig (fun p q h => h.1) (rK (g := g) r))
end
def Nm (X : Cx) (CL : Str -> Addr) (q : Str) (scope : Scope) (Nc : List Str) (body : Expr) (δc : List (Option T)) (ds : List D) (g : D -> Int) : Prop :=
 ∀ f c s0 H0 b' d, d ∈ ds -> bW (wu X X.A.in1.in1 q scope Nc f c s0 H0) CL b' body (some (.sh d) :: δc) (.int (g d)) (some (.sh d) :: δc)
section
variable {X : Cx} {CL : Str -> Addr} {b : Bx} {δ δ1 : List (Option T)} {e body : Expr} {ds : List L3.D} {g : L3.D -> Int} {scope : Scope} {y q tx : Str} {Nc : List Str} {ix : List Nat} {params : Arguments} {pos pp lp p2 : Pos}
theorem x9 (L : EX X CL tx q) (g0 : Gx X) (dp : X.A.depth < recursionLimit) (hm : X.mg "sorted" = none) (hg : Gl X "sorted") (sc : dP X scope y Nc ix) (h : bW X CL b e δ (.lst ds) δ1) (hi : D.bw ds = true) (hl : ds.length < 64)
   (inner : Nm X CL q scope Nc body (qE δ1 ix) ds g) (Kp : defaultsOf params X.env = ([], []) := by rfl)
   (wA : ∀ cl pm cd ct u, bindArgs (PySem.W.kla_fn "<lambda>" q params body scope cl pm cd ct) ⟨[u], []⟩ = pure [(y, u)] := by intros; rfl) (Q9 : scope.isCoroutine = false := by rfl) (Kq : scope.isGenerator = false := by rfl)
   (hs : starEach [e] X.env = (false, eval e X.env) :: starEach [] X.env := by exact bR rfl) :
   bY X CL b (.Call (.Name "sorted" pp) [e] [⟨some "key", .Lambda params body scope lp, p2⟩] pos) δ (.lst ((dX g ds).map T.sh)) δ1 := by
 intro H Z σ ts vs Q S k pins s I
 have ha : PA X [e] (yL (vN X e) Bc) := cA cU eK hs
 have hk : PK X [⟨some "key", .Lambda params body scope lp, p2⟩] (yL (vN X (.Lambda params body scope lp)) Bc) := D5 cU Jm
 refine WV (lZ I hg hm sL ?_)
 refine callWith_kw (cR (ha pos pins s σ H (fun Qs H1 => ∃ v Z1, Qs = [v] /\ ay Z Z1 /\ ay H H1 /\ bK X.K CL b H1 Z1 δ1 σ ts vs /\ aR X.K CL H1 (.lst ds) v) I (h H Z σ ts vs _ S fun v H1 Z1 z1 k1 S1 r => ⟨v, Z1, rfl, z1, k1, S1, r⟩)) fun us s1 ⟨Vs, H1, I1, r1, v1, Z1, e1, z1, k1, S1, rep1⟩ => ?_) (by rw [hs]; rfl) (by rw [hs]; rfl) rfl rfl
 subst e1
 have Rc : H1 (CL tx) = some (.tabs q) := by
   have := S1.z0 tx L.tab.1 L.tab.2.1
   rw [L.tab.2.2] at this
   exact this
 refine cR (hk pos pins s1 σ H1 (fun zs H2 => ∃ f c, zs = [.ref f] /\ ay H1 H2 /\ H2 f = some (.ext (B5 f q params body scope (bH X.env scope.names []) c)) /\ H2 c = some (.zF q)) I1
   (fun fK s' I' => Ko L I' Rc (fun y hy e => I'.ok.has y.1 (sc.frees y hy e).2) Kp fun f c H2 s2 I2 k2 hf hc _ => ⟨.ref f, H2, I2, rfl, f, c, rfl, k2, hf, hc⟩)) fun ws s2 ⟨zs, H2, I2, rz, f, c, e2, k2, hf, hc⟩ => ?_
 subst e2
 obtain ⟨u, rfl, ru⟩ := rz.one
 cases ru
 obtain ⟨v, rfl, rv⟩ := r1.one
 cases rep1 with
 | @lst p Vt _ hq rr =>
   cases rv
   show wpAny _ _ (call (.builtin "sorted") [.ref p] [(Str.ofString "key", .ref f)]) _ _ s2
   have hlen := rr.length
   refine Ak (J := fun H3 => ∃ Z3, ay H2 H3 /\ ay H2 Z3 /\ ay Z3 H3 /\ ∀ a o, H3 a = some o -> fW o = true -> Z3 a = some o) (kz := ds.map g) I2 (k2.seq hq) (by rw [VL, hlen]) (by omega)
     ⟨H2, .refl _, .refl _, .refl _, fun _ _ q _ => q⟩ (fun i x kk hx Sw fK s' u H3 I3 ⟨Z3, a1, a2, a3, a4⟩ rx => ?_) fun D H3 ⟨Z3, a1, a2, a3, a4⟩ hD => ?_
   . obtain ⟨d, hd, rd⟩ := rr.Ed hx
     have ek : kk = g d := by
       rw [Wn, hd] at Sw
       exact (VR Sw).symm
     subst ek
     refine B6 sc I3 I3.ok.frames (I3.ok.hd g0.calm) dp (a1 _ _ hf) (a1 _ _ hc) rx wA Q9 Kq ?_
     have S0 : bK X.K CL ⟨H3, Z3⟩ H3 Z3 (some (.sh d) :: qE δ1 ix) (mz σ ix (some x)) [] [] :=
       ⟨⟨[] ++ [], [], .cons (.sh (rd.mono (k2.trans a2))) ((pB S1 ix H3).mono (k2.trans a2) fun a ha => by cases ha), .nil, WT, fun a ha => by cases ha⟩, .refl _, .refl _, a3, fun a o q z => (by have z' : Z3 a = none := z; rw [show Z3 a = some o from q] at z'; cases z'), a4, S1.z0.mono (k2.trans a2)⟩
     refine inner f c s' H3 ⟨H3, Z3⟩ d (Wr hd) H3 Z3 _ [] [] _ S0 fun v H5 Z5 z5 k5 S5 r5 => ⟨?_, Z5, a1.trans k5, a2.trans z5, S5.zh, S5.tp⟩
     cases r5
     rfl
   . obtain ⟨Z', z', S4⟩ := S1.back (t := .sh (.int 0)) (v := .int 0) (fp := []) (k2.trans a1) S1.zh (k2.trans a2) a3 (fun a o q z => z) a4 (.sh (.int 0)) WT (fun a ha => by cases ha) (.inr rfl)
     obtain ⟨c5, S5⟩ := (bK.oZ (Al (g := g) ((aA.g6 S1.tp hi rr).mono z')) S4.pop).mq (g0 := []) (by simp [kr, jz, hlen]) hD
     exact k _ _ _ (z1.trans z') ((k1.trans (k2.trans a1)).trans c5) S5
variable {A : Around} {f c : Addr} {s : Shared} {H : Hp} {i : Nat} {x : Str}
theorem Ku (h1 : Nc[i]? = some x) (h2 : scope.names.lookup x = some .local) (hd : (x == ("__debug__" : Str)) = false := by decide) (gY : (x == ("__classdict__" : Str)) = false := by decide) : Vn (wu X A q scope Nc f c s H) i x := ⟨h1, .inl h2, hd, gY⟩
end
theorem E1 {P : Program} {w : World} {K : PySem.W.Frag} {mg : Str -> Option Value} {base : Heap} {x qual : Str} {st : Stmt} {f : Addr} {fd : FuncData} {N ps : List Str} {k : Nat} {sp : Sp} (F : kI K x qual st f fd) (S : aP N ps (aq st)) (len : ∀ vs H Q E, sp vs H Q E -> vs.length = ps.length)
   (vD : ∀ (cS : Value) (A : Around) (outer : List Env) (s : Shared) (H : Hp) (vs : List V) (Q : VK) (E : XK), fd.code = cS -> dg k (A.deeper (envOfC qual (aq st) s.heap.objs.size f cS)) -> sp vs H Q E →
     ∃ t, xF (oU f6 P w K mg base N qual (aq st) f cS A outer s H E).DH (dJ st) t /\ t { nx := fun _ H' => Q .non H', rt := Q } (L2.start N vs) H) : bX P w K mg base f6 (k + 1) f fd ps sp := by
 obtain ⟨oc, od, kV, doc, pm, an, cS, ct, DI, rfl, lk, gY⟩ := F.ex
 refine HG lk gY S len fun A outer s H vs Q E hr DJ => ?_
 obtain ⟨t, h, q⟩ := vD cS A outer s H vs Q E rfl hr DJ
 exact ⟨t, h.DH, q⟩
theorem B7 {P : Program} {w : World} {K : PySem.W.Frag} {mg : Str -> Option Value} {base : Heap} {CL : Str -> Addr} {x qual : Str} {st : Stmt} {f : Addr} {fd : FuncData} {N ps : List Str} {k : Nat} {A : Type} {arg : A -> List D} {Pre : A -> Prop} {res : A -> T} (F : kI K x qual st f fd) (S : aP N ps (aq st))
   (hb : ∀ (cS : Value) (Ar : Around) (outer : List Env) (s : Shared) (H : Hp) (E : XK) (b : Bx) (a : A), fd.code = cS -> dg k (Ar.deeper (envOfC qual (aq st) s.heap.objs.size f cS)) -> Pre a →
     eO (oU f6 P w K mg base N qual (aq st) f cS Ar outer s H E).DH CL b (dJ st) (entry N (arg a)) { nx := fun _ => res a = .sh .non, rt := fun t _ => t = res a }) :
   bX P w K mg base f6 (k + 1) f fd ps (ni K CL ps.length arg Pre res) := by
 refine E1 F S (fun vs H Q E h => ?_) (fun cS Ar outer s H vs Q E gY hr h => ?_)
 . obtain ⟨W, a, _, _, r, hl, _⟩ := h
   rw [← r.length]; exact hl
 . obtain ⟨W, a, wh, tp, r, hl, hp, tb, kk⟩ := h
   refine ⟨_, HK, hb cS Ar outer s H E ⟨H, W⟩ a gY hr hp H W _ [] [] _ ⟨⟨[], [], ?_, .nil, WT, fun a ha => by cases ha⟩, .refl _, .refl _, wh, fun a o q z => ?_, tp, tb⟩ ⟨fun δ' σ' H' Z' s' S' e => ?_, fun t v H' Z' δ' σ' s' S' e => ?_, fun _ _ _ _ _ _ e => e.elim, fun _ _ _ _ _ _ e => e.elim⟩⟩
   . unfold entry L2.start
     rw [← r.length]
     exact fM _ r
   . have q' : W a = some o := q
     have z' : W a = none := z
     rw [q'] at z'; cases z'
   . exact kk .non H' Z' [] S'.bh S'.zz S'.zh S'.new S'.tp (by rw [show res a = .sh .non from e]; exact .sh .non) WT fun a ha => by cases ha
   . have e' : t = res a := e
     subst e'
     obtain ⟨fp, gp, _, r', nd, own⟩ := S'.rep
     cases r' with
     | @cons _ _ _ _ f1 f2 r1 r2 =>
       have h1 := (Wm.mp nd).2.1
       exact kk v H' Z' f1 S'.bh S'.zz S'.zh S'.new S'.tp r1 (Wm.mp h1).1 fun a ha => own a (Vw _ (VQ _ ha))
def pK (mg : Str -> Option Value) (base : Heap) : Prop := ∃ bm o, mg "__builtins__" = some (.ref bm) /\ bm ≠ builtinsNs /\ bm ≠ mainGlobals /\ base.get? bm = some o /\ o.cls = .type "module" /\ o.dict = some builtinsNs /\ o.data = .plain
theorem Rf {CX : Bd} {P : Program} {w : World} {K : PySem.W.Frag} {mg : Str -> Option Value} {base : Heap} {N : List Str} {qual : Str} {scope : Scope} {f c : Addr} {cS : Value} {A : Around} {outer : List Env} {s : Shared} {H : Hp} {E : XK} {CL : Str -> Addr} {tx q : Str} {fd : FuncData}
   (bl : pK mg base) (kb : K.In base) (hc : fd.code = cS) (hf : fd.code = .ref c) (hd : PySem.W.codeHdIn K c (CL tx) = true) (h0 : CL tx ≠ 0) (hq : zZ tx = q := by decide +kernel) (ht : vQ tx = true := by decide +kernel) (hn : qual ++ ".<locals>." ++ "<lambda>" = q := by decide +kernel) :
   EX (oU CX P w K mg base N qual scope f cS A outer s H E).DH CL tx q :=
 ⟨⟨c, hc.symm.trans hf, PySem.W.codeHd_of_K kb hd⟩, bl, hn, ht, h0, hq⟩
def spT (K : PySem.W.Frag) (ts : List (Addr × Str)) {A : Type} (n : Nat) (arg : A -> List D) (Pre : A -> Prop) (res : A -> T) : Sp := fun vs H Q _ =>
 ∃ (W : Hp) (a : A), ay W H /\ (∀ c o, H c = some o -> fW o = true -> W c = some o) /\ aA K (fun _ => 0) W (arg a) vs /\ (arg a).length = n /\ Pre a /\ (∀ p ∈ ts, W p.1 = some (.tabs p.2)) ∧
   ∀ v H' W' fp, ay H H' -> ay W W' -> ay W' H' -> (∀ c o, W' c = some o -> W c = none -> H c = none) -> (∀ c o, H' c = some o -> fW o = true -> W' c = some o) →
     bV K (fun _ => 0) H' W' (res a) v fp -> fp.Nodup -> (∀ c ∈ fp, W' c = none /\ H c = none) -> Q v H'
theorem E2 {K : PySem.W.Frag} {CL : Str -> Addr} {ts : List (Addr × Str)} {arg : List Int -> List D} {pre : List Int -> Prop} {res : List Int -> T} (ha : ∀ a, arg a = [.lst (a.map .int)]) (hr : ∀ a, res a = .sh (.bl true)) (h0 : ∀ x, vQ x = true -> CL x ≠ 0 -> (CL x, zZ x) ∈ ts) :
   ∀ (vs : List V) (H : Hp) (Q : VK) (E : XK), spT K ts 1 arg pre res vs H Q E -> ni K CL 1 arg pre res vs H Q E := by
 rintro vs H Q E ⟨W, a, h1, h2, h3, h4, h5, h6, k⟩
 have Kv : ∀ {l : List Int} {us : List V}, aA K (fun _ => 0) W (l.map .int) us -> aA K CL W (l.map .int) us := by
   intro l
   induction l with
   | nil => intro us r; cases r; exact .nil
   | cons i l ih =>
     intro us r
     cases r with
     | cons r t => cases r; exact .cons (.int i) (ih t)
 refine ⟨W, a, h1, h2, ?_, h4, h5, fun x hx e => h6 _ (h0 x hx e), fun v H' W' fp a1 a2 a3 a4 a5 r nd own => k v H' W' fp a1 a2 a3 a4 a5 ?_ nd own⟩
 . rw [ha] at h3 ⊢
   cases h3 with
   | cons r t =>
     cases t
     cases r with
     | lst q rr => exact .cons (.lst q (Kv rr)) .nil
 . rw [hr] at r ⊢
   cases r with
   | sh r => cases r; exact .sh (.bl _)
theorem E3 {K : PySem.W.Frag} {H : Hp} {a : Addr} {ts : List (Addr × Str)} {arg : List Int -> List D} {pre : List Int -> Prop} {res : List Int -> T} {ns : List Int} (ha : arg ns = [.lst (ns.map D.int)]) (hp : pre ns) (hr : res ns = .sh (.bl true)) (hS : kW K H a (ns.map V.int)) (ht : ∀ p ∈ ts, H p.1 = some (.tabs p.2)) :
   spT K ts 1 arg pre res [.ref a] H (fun v H' => v = .bl true /\ ∀ p ∈ ts, H' p.1 = some (.tabs p.2)) fun _ _ _ => False :=
 ⟨H, ns, .refl _, fun _ _ q _ => q, by rw [ha]; exact .cons (.lst hS (vW ns)) .nil, by rw [ha]; rfl, hp, ht, fun v H' W' fp hh _ _ _ _ r _ _ => by
   refine ⟨?_, fun p hp => hh _ _ (ht p hp)⟩
   rw [hr] at r
   cases r with
   | sh r => exact r.sc rfl⟩
theorem gQ : ∀ {ts : List (Addr × Str)} {b : Addr} {q : Str}, ts.lookup b = some q -> (b, q) ∈ ts
 | [], _, _, e => by cases e
 | (c, x) :: r, b, q, e => by
   rw [V8] at e
   cases hb : b == c with
   | true => rw [hb] at e; cases e; rw [eq_of_beq hb]; exact .head _
   | false => rw [hb] at e; exact .tail _ (gQ e)
theorem Am {P : Program} {w : World} {K : PySem.W.Frag} {mg mb : Str -> Option Value} {k : Nat} {fa a : Addr} {fd : FuncData} {x : Str} {sp : Sp} {s₁ : Shared} {vs : List Value} {ns : List Int} {ts : List (Addr × Str)}
   (KX : K.In s₁.heap) (Pk : s₁.heap.Ns mainGlobals mg) (hb : s₁.heap.Ns builtinsNs mb) (UO : ∀ x : Str, x ≠ "__name__" -> mb x = bootBuiltins x) (Rg : s₁.heap.NoLimit) (hg : s₁.gens = #[]) (Pp : pK mg s₁.heap)
   (ha : s₁.heap.get? a = some { cls := .type "list", data := .seq vs.toArray }) (hi : IntsAre vs ns) (hl : ns.length <= sizeLine) (hr : dg k callerA)
   (hT : ∀ p ∈ ts, s₁.heap.get? p.1 = some (PySem.W.tabObj #[]) /\ ts.lookup p.1 = some p.2 /\ K.lookup p.1 = none /\ ∃ c, PySem.W.CodeHd s₁.heap c p.1)
   (F : ∀ base : Heap, K.In base -> base.Ns mainGlobals mg -> pK mg base -> bX P w K mg base f6 k fa fd [x] sp) (wA : ∀ (s : Shared) (u : Value), BindsTo s fd ⟨[u], []⟩ [(x, u)])
   (DJ : ∀ H : Hp, kW K H a (ns.map V.int) -> (∀ p ∈ ts, H p.1 = some (.tabs p.2)) -> sp [.ref a] H (fun v H' => v = .bl true /\ ∀ p ∈ ts, H' p.1 = some (.tabs p.2)) fun _ _ _ => False) :
   codeAny (model P w) callerA (.call (.ref fa) ⟨[.ref a], []⟩) (fun r s' => r = .ok (.ret (.bool true)) /\ OldK s₁.heap s'.heap /\ s'.os = s₁.os /\ AllBare s'.gens) s₁ := by
 have rv := rB hi
 have Rh := hi.length
 have aT : ∀ p ∈ ts, p.1 ≠ a := fun p hp z => by
   have := (hT p hp).1
   rw [z, ha] at this; cases this
 have core : ∀ H : Hp, (∀ b, H b = none \/ (∃ o xs, b = a /\ H b = some (.cT o (.lst xs))) \/ ∃ p ∈ ts, b = p.1 /\ H b = some (.tabs p.2)) -> kW K H a (ns.map V.int) -> (∀ p ∈ ts, H p.1 = some (.tabs p.2)) -> nK P w H s₁.heap -> (H a ≠ none -> K.lookup a = none) →
     codeAny (model P w) callerA (.call (.ref fa) ⟨[.ref a], []⟩) (fun r s' => r = .ok (.ret (.bool true)) /\ OldK s₁.heap s'.heap /\ s'.os = s₁.os /\ AllBare s'.gens) s₁ := by
   intro H hO hS hH cK hK
   have Lp : ∀ {b : Addr} {o : Obj}, s₁.heap.get? b = some o -> o ≠ { cls := .type "list", data := .seq vs.toArray } -> o ≠ PySem.W.tabObj #[] -> H b = none := fun {b o} e d1 d2 => by
     rcases hO b with q | ⟨_, _, z, _⟩ | ⟨p, hp, z, _⟩
     . exact q
     . rw [z, ha] at e; exact absurd (VR e).symm d1
     . rw [z, (hT p hp).1] at e; exact absurd (VR e).symm d2
   have sN : ∀ {b : Addr} {o : Obj}, s₁.heap.get? b = some o -> H b = none -> (qy s₁.heap H).get? b = some o := fun e n => AY e n
   have Pq : ∀ {b : Addr} {m : Str -> Option Value}, s₁.heap.Ns b m -> (qy s₁.heap H).Ns b m := fun {b m} ⟨o, es, ep, e, d, r⟩ => ⟨o, es, ep, sN e (Lp e (fun z => by rw [z] at d; cases d) fun z => by rw [z] at d; cases d), d, r⟩
   have Sx : K.In (qy s₁.heap H) := fun b o e => sN (KX b o e) (by
     rcases hO b with q | ⟨_, _, z, q⟩ | ⟨p, hp, z, _⟩
     . exact q
     . subst z
       rw [hK (by rw [q]; simp)] at e; cases e
     . rw [z, (hT p hp).2.2.1] at e; cases e)
   have hM : Mod K mg (qy s₁.heap H) := ⟨Sx, Pq Pk, ⟨mb, Pq hb, UO⟩, let ⟨mc, h1, h2⟩ := Rg; ⟨mc, Pq h1, h2⟩⟩
   have UQ : pK mg (qy s₁.heap H) := by
     obtain ⟨bm, o, b1, b2, b3, b4, b5, b6, b7⟩ := Pp
     exact ⟨bm, o, b1, b2, b3, sN b4 (Lp b4 (fun z => by rw [z] at b7; cases b7) fun z => by rw [z] at b7; cases b7), b5, b6, b7⟩
   have e0 : xQ P w K mg (qy s₁.heap H) callerA [] s₁ H := ⟨rfl, hM, fun b o e => DP e, Nat.le_of_eq (zG _ _), trivial, fun b hb => absurd (show b ∈ ([] : List Addr) from hb) (by simp), cK, .of_eq hg⟩
   refine codeAny_mono ((F _ Sx (Pq Pk) UQ).run callerA [] s₁ H ⟨[.ref a], []⟩ [.ref a] [.ref a] _ _ hr e0 (wA s₁ (.ref a)) (.cons rfl .nil) (DJ H hS hH)) fun r s' h => ?_
   cases r with
   | error e => exact h.elim
   | ok fl =>
     cases fl with
     | next => exact False.elim h
     | brk => exact False.elim h
     | cont => exact False.elim h
     | ret u =>
       obtain ⟨v, H', os, bare, un, Nn, r', q, qt⟩ := h
       subst q
       obtain rfl : u = Value.bool true := r'
       have tabAt : ∀ p ∈ ts, ∃ ps : Array Value, s'.heap.get? p.1 = some (PySem.W.tabObj ps) := fun p hp => by
         obtain ⟨ps, e, _⟩ := Nn _ _ (qt p hp)
         exact ⟨ps, e⟩
       have keep : ∀ b o, s₁.heap.get? b = some o -> (∀ p ∈ ts, b ≠ p.1) -> s'.heap.get? b = some o := fun b o e nt => by
         rcases hO b with q | ⟨ob, xs, z, q⟩ | ⟨p, hp, z, _⟩
         . exact un.keep b o e q (by intro z; exact absurd (show b ∈ ([] : List Addr) from z) (by simp)) (by simp)
         . have z2 := un.fu b ob _ q
           obtain ⟨e1, _⟩ := cK b _ q
           obtain ⟨e2, _⟩ := Nn b _ z2
           rw [e] at e1; cases e1
           exact e2
         . exact absurd z (nt p hp)
       refine ⟨rfl, ⟨fun b o e => ?_, fun b o e => ?_⟩, os, bare⟩
       . by_cases nt : ∀ p ∈ ts, b ≠ p.1
         . exact .inl (keep b o e nt)
         . obtain ⟨p, hp, rfl⟩ : ∃ p ∈ ts, b = p.1 := Classical.byContradiction fun q => nt fun p hp z => q ⟨p, hp, z⟩
           obtain ⟨h1, _, _, c, hc⟩ := hT p hp
           obtain ⟨ps, e2⟩ := tabAt p hp
           rw [h1] at e; cases e
           exact .inr (.inl ⟨(hc.tab h1).isCodeTable, rfl, #[], ps, rfl, by rw [Array.empty_append]; exact e2⟩)
       . by_cases nt : ∀ p ∈ ts, b ≠ p.1
         . exact ⟨o, keep b o e nt⟩
         . obtain ⟨p, hp, rfl⟩ : ∃ p ∈ ts, b = p.1 := Classical.byContradiction fun q => nt fun p hp z => q ⟨p, hp, z⟩
           obtain ⟨ps, e2⟩ := tabAt p hp
           exact ⟨_, e2⟩
 have tok : ∀ {H : Hp} {b : Addr} {q : Str}, ts.lookup b = some q -> eV P w H s₁.heap b (.tabs q) := fun {H b q} e => by
   obtain ⟨h1, _⟩ := hT (b, q) (gQ e)
   exact ⟨#[], h1, trivial, fun pos cv z => by simp [codeAmong] at z⟩
 cases hk : K.lookup a with
 | some o =>
   have e := KX a o hk
   rw [ha] at e
   cases e
   refine core (fun b => (ts.lookup b).map HO.tabs) (fun b => ?_) (.inr ⟨_, vs.toArray, _, hk, rfl, rfl, rfl, by rw [List.size_toArray, Rh]; exact hl, by simpa using rv⟩) (fun p hp => ?_) (fun b u z => ?_) fun z => ?_
   . cases q : List.lookup b ts with
     | none => left; rfl
     | some t => right; right; exact ⟨(b, t), gQ q, rfl, rfl⟩
   . show (ts.lookup p.1).map HO.tabs = _
     rw [(hT p hp).2.1]; rfl
   . have z' : (ts.lookup b).map HO.tabs = some u := z
     cases q : List.lookup b ts with
     | none => rw [q] at z'; cases z'
     | some t => rw [q] at z'; cases z'; exact tok q
   . exfalso
     apply z
     show (ts.lookup a).map HO.tabs = none
     cases q : ts.lookup a with
     | none => rfl
     | some t => exact absurd rfl (aT (a, t) (gQ q))
 | none =>
   refine core (fun b => if b = a then some (.cT { cls := .type "list", data := .seq vs.toArray } (.lst (ns.map V.int))) else (ts.lookup b).map HO.tabs) (fun b => ?_) (.inl (.inr ⟨{ cls := .type "list", data := .seq vs.toArray }, Vy rfl⟩)) (fun p hp => ?_) (fun b u z => ?_) fun _ => hk
   . by_cases hb : b = a
     . exact .inr (.inl ⟨_, _, hb, Vy hb⟩)
     . cases q : List.lookup b ts with
       | none => left; rw [Vx hb]; rfl
       | some t => right; right; exact ⟨(b, t), gQ q, rfl, by rw [Vx hb]; rfl⟩
   . show (if p.1 = a then _ else (ts.lookup p.1).map HO.tabs) = _
     rw [Vx (aT p hp), (hT p hp).2.1]; rfl
   . by_cases hb : b = a
     . have z' := (Vy hb).symm.trans z
       cases z'
       subst hb
       exact ⟨ha, by rw [VL]; exact hl, vs, _, rv, ha⟩
     . have z' : (ts.lookup b).map HO.tabs = some u := (Vx hb).symm.trans z
       cases q : List.lookup b ts with
       | none => rw [q] at z'; cases z'
       | some t => rw [q] at z'; cases z'; exact tok q
theorem B8 {l : PySem.W.OpenLaw} {n k : Nat} {q : Program} {loose : List Str} {XP : (Str -> Option Value) -> Heap -> Prop} {YP : World -> Heap -> Prop} {d : DefRec} {K : Params -> PySem.W.Frag} {sp : World -> List (Addr × Str) -> Sp} {x : Str} {T0 : List Addr}
   (hn : l.most = some n) (O1 : n <= sizeLine) (MB : d.params.defaults = []) (hr : dg k callerA)
   (hY : ∀ (w : World) (h : Heap), YP w h -> (K w.params).In h) (hT : ∀ (w : World) (h : Heap), YP w h -> ∀ P ∈ T0, h.get? P = some (PySem.W.tabObj #[]))
   (F : ∀ (w : World) (mg : Str -> Option Value) (fa : Addr) (h : Heap), (K w.params).In h -> h.Ns mainGlobals mg -> mg d.name = some (.ref fa) →
     ∃ (fd : FuncData) (ts : List (Addr × Str)), (∀ p ∈ ts, p.1 ∈ T0 /\ ts.lookup p.1 = some p.2 /\ (K w.params).lookup p.1 = none /\ ∃ c, PySem.W.CodeHd h c p.1) /\ (∀ (s : Shared) (u : Value), BindsTo s fd ⟨[u], []⟩ [(x, u)]) ∧
       ∀ base : Heap, (K w.params).In base -> base.Ns mainGlobals mg -> pK mg base -> bX l.prog w (K w.params) mg base f6 k fa fd [x] (sp w ts))
   (DJ : ∀ (w : World) (ts : List (Addr × Str)) (H : Hp) (a : Addr) (ns : List Int), ns.length <= n -> kW (K w.params) H a (ns.map V.int) -> (∀ p ∈ ts, H p.1 = some (.tabs p.2)) -> sp w ts [.ref a] H (fun v H' => v = .bl true /\ ∀ p ∈ ts, H' p.1 = some (.tabs p.2)) fun _ _ _ => False) :
   PySem.W.WalkO q loose XP YP l.row.toRowW d [] (fun f vs => PySem.call f vs) := by
 refine RT.vK hn MB fun w s₀ s₁ mg mb fa o pm cd doc a vs ns G Y ho hd gY MC Jv hints hlen hg => ?_
 have KX := hY w _ Y
 obtain ⟨fd, ts, Sy, hb, hF⟩ := F w mg fa _ KX G.T.g MC
 obtain ⟨bm, ob, b1, b2, b3, b4, b5, b6⟩ := G.T.bmain
 have UR : bm ≠ mainGlobals := fun q => by
   obtain ⟨o, es, ep, e, hd, _⟩ := G.T.g
   rw [q, e] at b3; cases b3; rw [hd] at b6; cases b6
 exact Am KX G.T.g G.T.b G.T.builtins G.T.nolimit hg ⟨bm, ob, b1, b2, UR, b3, b4, b5, b6⟩ Jv hints (Wk hlen O1) hr (fun p hp => ⟨hT w _ Y _ (Sy p hp).1, (Sy p hp).2⟩) hF hb fun H hS ht => DJ w ts H a ns hlen hS ht
section
variable {X : Cx}
end
section
variable {X : Cx} {CL : Str -> Addr} {b : Bx} {δ δ1 δ2 : List (Option T)} {o e : Expr} {apos pos : Pos}
end
section
variable {X : Cx} {CL : Str -> Addr} {b : Bx} {δ : List (Option T)} {e : Expr} {es : List Expr} {d : L3.D} {ds : List L3.D}
theorem lq (h1 : bY X CL b e δ (.sh d) δ) (h2 : xT X CL b es δ (ds.map T.sh) δ) (hs : starEach (e :: es) X.env = (false, eval e X.env) :: starEach es X.env := by exact bR rfl) : xT X CL b (e :: es) δ ((d :: ds).map T.sh) δ := aB h1 h2 hs
end
theorem E4 {k : Nat} {A : Around} (r : dg k A) : A.depth < recursionLimit := by
 have := r.dp
 omega
section
variable {X : Cx} {CL : Str -> Addr} {b : Bx} {δ δ1 : List (Option T)} {scope : Scope} {y : Str} {Nc : List Str} {ix : List Nat} {elt iter : Expr} {ifs : List Expr} {px pos : Pos} {p : L3.D -> Bool} {g : L3.D -> T} {ds : List L3.D}
end
section
variable {X : Cx}
end
section
variable {X : Cx} {CL : Str -> Addr} {b : Bx} {δ δ1 : List (Option T)} {e : Expr} {pos pp pq pr : Pos}
end
section
variable {X : Cx} {CL : Str -> Addr} {b : Bx} {δ δ1 : List (Option T)} {ds : List L3.D} {i q : Nat} {x y : Str} {pos pp pos' : Pos}
end
end L3
namespace Law
open PySem L2 L3
def top (i : Nat) : Stmt := PySem.Challenge.pw_moodtree_k32_asks_of_numbers.main.body.getD i (.Pass ⟨0, 0, 0, 0⟩)
def pL : Nat -> List Int -> Int -> List Int
 | 0, _, _ => []
 | n + 1, es, k => if k = -1 then [] else k :: pL n es (es.getD k.toNat 0)
def lu (es : List Int) (m : Int) : List Int := pL (es.length + 1) es (es.getD m.toNat 0)
def kM (es : List Int) : Prop := ∀ k : Nat, k < es.length -> -1 <= es.getD k 0 /\ es.getD k 0 < k
theorem kM.at {es : List Int} (h : kM es) {k : Int} (h0 : 0 <= k) (h1 : k < es.length) : -1 <= es.getD k.toNat 0 /\ es.getD k.toNat 0 < k := by
 have := h k.toNat (by omega)
 omega
def yX (ks : List Str) (es ss : List Int) : L3.D := .ins "Tree" [("kinds", .lst (ks.map .str)), ("elders", .lst (es.map .int)), ("starts", .lst (ss.map .int))]
theorem yb {ks : List Str} {es ss : List Int} : List.lookup ("kinds" : Str) [(("kinds" : Str), L3.D.lst (ks.map .str)), ("elders", .lst (es.map .int)), ("starts", .lst (ss.map .int))] = some (.lst (ks.map .str)) := k9
theorem wF {ks : List Str} {es ss : List Int} : List.lookup ("elders" : Str) [(("kinds" : Str), L3.D.lst (ks.map .str)), ("elders", .lst (es.map .int)), ("starts", .lst (ss.map .int))] = some (.lst (es.map .int)) := by
 rw [eS (by decide +kernel), k9]
theorem wG {ks : List Str} {es ss : List Int} : List.lookup ("starts" : Str) [(("kinds" : Str), L3.D.lst (ks.map .str)), ("elders", .lst (es.map .int)), ("starts", .lst (ss.map .int))] = some (.lst (ss.map .int)) := by
 rw [eS (by decide +kernel), eS (by decide +kernel), k9]
theorem dm (ds : List L3.D) : T.cT (.lst (ds.map T.sh)) = .lst ds := by rw [T.cT, f7]
theorem fS (l : List Int) : (T.lst ((l.map L3.D.int).map T.sh)).clean = true := by rw [fJ]; exact ny _
theorem pM (l : List Str) : (T.lst ((l.map L3.D.str).map T.sh)).clean = true := by
 rw [fJ]
 induction l with
 | nil => rfl
 | cons x l ih => exact ih
def iT (ks : List Str) (es ss : List Int) : List (Str × T) := [("kinds", .lst ((ks.map .str).map T.sh)), ("elders", .lst ((es.map .int).map T.sh)), ("starts", .lst ((ss.map .int).map T.sh))]
theorem An (ks : List Str) (es ss : List Int) : T.cT (.ins "Tree" (iT ks es ss)) = yX ks es ss := by
 unfold iT
 rw [T.cT, T.kh, T.kh, T.kh, T.kh, dm, dm, dm]
 rfl
theorem nE (ks : List Str) (es ss : List Int) : T.aQ (iT ks es ss) = true := by
 unfold iT
 rw [T.aQ, T.aQ, T.aQ, T.aQ, pM, fS, fS]
 rfl
theorem sO {es : List Int} (h : kM es) : ∀ (n : Nat) {k x : Int}, -1 <= k -> k < es.length -> x ∈ pL n es k -> 0 <= x /\ x <= k
 | 0, k, x, _, _, hx => by rw [pL] at hx; cases hx
 | n + 1, k, x, h0, h1, hx => by
   rw [pL] at hx
   split at hx
   . cases hx
   . rename_i hk
     have ha := h.at (k := k) (by omega) h1
     rcases VC.mp hx with rfl | hx
     . omega
     . have := sO h n (by omega) (by omega) hx
       omega
theorem wH {es : List Int} (h : kM es) : ∀ (a b : Nat) {k : Int}, -1 <= k -> k < es.length -> k < a -> k < b -> pL a es k = pL b es k
 | 0, 0, _, _, _, _, _ => rfl
 | 0, b + 1, k, h0, _, ha, _ => by
   rw [pL, pL, Vy (by omega)]
 | a + 1, 0, k, h0, _, _, hb => by
   rw [pL, pL, Vy (by omega)]
 | a + 1, b + 1, k, h0, h1, ha, hb => by
   rw [pL, pL]
   split
   . rfl
   . have hk := h.at (k := k) (by omega) h1
     rw [wH h a b hk.1 (by omega) (by omega) (by omega)]
theorem E5 {es : List Int} (h : kM es) {m x : Int} (h0 : 0 <= m) (h1 : m < es.length) (hx : x ∈ lu es m) : 0 <= x /\ x < m /\ x < es.length := by
 have hm := h.at h0 h1
 have := sO h _ hm.1 (by omega) hx
 omega
def rM (es : List Int) : Prop := kM es /\ ∀ k : Nat, k + 1 < es.length -> es.getD (k + 1) 0 = k \/ es.getD (k + 1) 0 ∈ lu es k
theorem yZ {es : List Int} {x : Int} (h : kM es) : ∀ (n : Nat) {k : Int}, -1 <= k -> k < es.length -> pL n (es ++ [x]) k = pL n es k
 | 0, _, _, _ => rfl
 | n + 1, k, h0, h1 => by
   rw [pL, pL]
   split
   . rfl
   . have hk := h.at (k := k) (by omega) h1
     have e : (es ++ [x]).getD k.toNat 0 = es.getD k.toNat 0 := by
       rw [VY, Xi (by omega), ← VY]
     rw [e, yZ h n hk.1 (by omega)]
theorem pN {es : List Int} {x : Int} {k : Nat} (h : k < es.length) : (es ++ [x]).getD k 0 = es.getD k 0 := by
 rw [VY, Xi h, ← VY]
theorem E6 {es : List Int} {x : Int} (h : kM es) {m : Int} (h0 : 0 <= m) (h1 : m < es.length) : lu (es ++ [x]) m = lu es m := by
 have hm := h.at h0 h1
 unfold lu
 rw [pN (by omega), yZ h _ hm.1 (by omega), wH h _ (es.length + 1) hm.1 (by omega) (by rw [V1]; omega) (by omega)]
theorem kM.snoc {es : List Int} (h : kM es) {x : Int} (h0 : -1 <= x) (h1 : x < es.length) : kM (es ++ [x]) := fun k hk => by
 rw [V1] at hk
 simp only [VX, WO] at hk
 by_cases e : k < es.length
 . rw [pN e]
   exact h k e
 . have : k = es.length := by omega
   subst this
   rw [VY, WM (Vz _)]
   simp
   omega
theorem rM.snoc {es : List Int} (h : rM es) {x : Int} {k : Nat} (hk : k + 1 = es.length) (hx : x = k \/ x ∈ lu es k) : rM (es ++ [x]) := by
 have Sz : -1 <= x /\ x < es.length := by
   rcases hx with e | e
   . omega
   . have := E5 h.1 (m := (k : Int)) (by omega) (by omega) e
     omega
 refine ⟨h.1.snoc Sz.1 Sz.2, fun j hj => ?_⟩
 rw [V1] at hj
 simp only [VX, WO] at hj
 rw [E6 h.1 (by omega) (by omega)]
 by_cases e : j + 1 < es.length
 . rw [pN e]
   exact h.2 j e
 . have : j = k := by omega
   subst this
   have e2 : (es ++ [x]).getD (j + 1) 0 = x := by
     rw [VY, WM (by omega), hk, Nat.sub_self]
     rfl
   rw [e2]
   exact hx
theorem sP : ∀ (n : Nat) (es : List Int) (k : Int), (pL n es k).length <= n
 | 0, _, _ => Vz _
 | n + 1, es, k => by
   rw [pL]
   split
   . exact Wi _
   . exact Nat.succ_le_succ (sP n es _)
def rN (es : List Int) (m : Int) : List Int := ((List.range es.length).filter (fun (i : Nat) => decide (es.getD i 0 = m))).map (fun (i : Nat) => (i : Int))
theorem E7 (es : List Int) (m : Int) : (rN es m).length <= es.length := by
 unfold rN
 rw [VL]
 exact Wk (List.length_filter_le _ _) (by simp)
def sQ (bs nm : List L3.D) (tr : L3.D) (is os ws : List L3.D) : L3.D := .ins "Chart" [("boxes", .lst bs), ("names", .lst nm), ("tree", tr), ("ins", .lst is), ("outs", .lst os), ("ways", .lst ws)]
section
variable {bs nm is os ws : List L3.D} {tr : L3.D}
theorem yc : List.lookup ("tree" : Str) [(("boxes" : Str), L3.D.lst bs), ("names", .lst nm), ("tree", tr), ("ins", .lst is), ("outs", .lst os), ("ways", .lst ws)] = some tr := by
 rw [eS (by decide +kernel), eS (by decide +kernel), k9]
theorem pO : List.lookup ("ways" : Str) [(("boxes" : Str), L3.D.lst bs), ("names", .lst nm), ("tree", tr), ("ins", .lst is), ("outs", .lst os), ("ways", .lst ws)] = some (.lst ws) := by
 rw [eS (by decide +kernel), eS (by decide +kernel), eS (by decide +kernel), eS (by decide +kernel), eS (by decide +kernel), k9]
end
def mO (bs nm : List L3.D) : List (Str × T) := [("boxes", .lst (bs.map T.sh)), ("names", .lst (nm.map T.sh))]
def mP (is os ws : List L3.D) : List (Str × T) := [("ins", .lst (is.map T.sh)), ("outs", .lst (os.map T.sh)), ("ways", .lst (ws.map T.sh))]
def fj (bs nm : List L3.D) (t : T) (is os ws : List L3.D) : List (Str × T) := mO bs nm ++ (("tree" : Str), t) :: mP is os ws
theorem yd (bs nm : List L3.D) (t : T) (is os ws : List L3.D) : T.cT (.ins "Chart" (fj bs nm t is os ws)) = sQ bs nm t.cT is os ws := by
 unfold fj mO mP
 rw [V7, V7, Xj, T.cT, T.kh, T.kh, T.kh, T.kh, T.kh, T.kh, T.kh, dm, dm, dm, dm, dm]
 rfl
theorem bf {ds : List L3.D} (h : D.bw ds = true) : (T.lst (ds.map T.sh)).clean = true := by
 rw [fJ]
 induction ds with
 | nil => rfl
 | cons d ds ih =>
   rw [D.bw, Wt] at h
   rw [Wg, T.cV, ih h.2, T.clean, h.1]; rfl
theorem sR {bs nm : List L3.D} (h1 : D.bw bs = true) (h2 : D.bw nm = true) : T.aQ (mO bs nm) = true := by
 unfold mO
 rw [T.aQ, T.aQ, T.aQ, bf h1, bf h2]; rfl
theorem sS {is os ws : List L3.D} (h1 : D.bw is = true) (h2 : D.bw os = true) (h3 : D.bw ws = true) : T.aQ (mP is os ws) = true := by
 unfold mP
 rw [T.aQ, T.aQ, T.aQ, T.aQ, bf h1, bf h2, bf h3]; rfl
structure nR where
 src : Int
 sign : Str
 asks : List L3.D
 ly : List L3.D
 tgt : Int
 mode : Str
def eN (w : nR) : L3.D := .tup [.int w.src, .str w.sign, .tup w.asks, .tup w.ly, .int w.tgt, .str w.mode]
def bq (ns : List Int) (k : Int) : Int := if k < ns.length then ns.getD k.toNat 0 else 0
def dY (c : Int) : Int := if c % 2 = 0 then c / 2 % 9 - 4 else if c % 4 = 1 then c / 4 * 48271 % 10 ^ 60 else -(c / 4 * 48271 % 10 ^ 60)
def Ao : List Nat := (List.range 26).map (· + 97) ++ (List.range 10).map (· + 48)
theorem B9 : ("abcdefghijklmnopqrstuvwxyz0123456789" : Str).cps.toList = Ao := by decide +kernel
def nS (k : Int) : Str := ⟨#[Ao.getD k.toNat 0]⟩
theorem Kw : ∀ n ∈ Ao, n < 1114112 := by decide +kernel
theorem Ca (k : Int) : PyData.strOk (nS k) = true := by
 unfold PyData.strOk nS
 have : Ao.getD k.toNat 0 < 1114112 := by
   rw [VY]
   cases e : Ao[k.toNat]? with
   | none => decide
   | some n => exact Kw n (Wr e)
 simpa [List.getD_eq_getElem?_getD] using this
def E8 (m : Int) : Int := (m * 48271 + 11) % 2147483647
def fT (p : Int × Str) : Nat -> Int × Str
 | 0 => p
 | n + 1 => (E8 (fT p n).1, (fT p n).2 ++ nS (E8 (fT p n).1 % 36))
def SD (c : Int) : Int × Str := (c / 12 % 10 ^ (9 : Int).toNat, nS (c / 12 % 10 ^ (9 : Int).toNat % 26))
theorem Cb (p : Int × Str) (n : Nat) : (fT p n).2.length = p.2.length + n := by
 induction n with
 | zero => rfl
 | succ n ih =>
   show ((fT p n).2 ++ nS _).length = _
   rw [str_len, ih]
   show _ + 1 = _
   omega
theorem Np (p : Int × Str) (h : PyData.strOk p.2 = true) (n : Nat) : PyData.strOk (fT p n).2 = true := by
 induction n with
 | zero => exact h
 | succ n ih => exact mF _ _ ih (Ca _)
def DM (c : Int) : Str := (fT (SD c) (c % 12).toNat).2
theorem y9 (c : Int) : (DM c).length <= 12 := by
 unfold DM
 rw [Cb]
 have h1 := VW c (show (12 : Int) ≠ 0 by decide)
 have h2 := VM c (show (0 : Int) < 12 by decide)
 show 1 + (c % 12).toNat <= 12
 omega
def w13 : List Str := ["all", "and", "box", "call", "do", "far", "if", "in", "leaf", "near", "on", "one", "open"]
def w6 : List Str := ["out", "put", "say", "shut", "then", "to"]
def fU (c : Int) : Str := if DM c ∈ w13 then DM c ++ "0" else if DM c ∈ w6 then DM c ++ "0" else DM c
theorem sU (c : Int) : PyData.strOk (fU c) = true := by
 have hb : PyData.strOk (DM c) = true := Np _ (Ca _) _
 have h0 : PyData.strOk ("0" : Str) = true := by decide +kernel
 unfold fU
 split
 . exact mF _ _ hb h0
 . split
   . exact mF _ _ hb h0
   . exact hb
theorem eY (l : List Int) : fX 60 (.lst (l.map .int)) := .lst fun d hd => by
 obtain ⟨i, _, rfl⟩ := Wc.mp hd
 exact .int _ _
def je (mk : Str) (i j : Int) : Bool := if mk = "<" then decide (i < j) else if mk = "<=" then decide (i <= j) else if mk = "=" then decide (i = j) else !decide (i = j)
def kN (bx mo : Int) (bs : List Int) : Int := if bx = -1 then mo else bs.getD bx.toNat 0 + mo
def Nq (c s : Int) : Int := (c % 2147483647 + s) * 48271 % 2147483647
def bQ (c s : Int) : Int := Nq c s * Nq c s % 2147483629
theorem Nr (c s : Int) : 0 <= Nq c s /\ Nq c s < 2147483647 := ⟨VW _ (by decide), VM _ (by decide)⟩
theorem sV (c s : Int) : 0 <= bQ c s := VW _ (by decide)
def cQ (c : Int) : Int := if c % 2 = 0 then c / 2 % 9 - 4 else if c % 4 = 1 then c / 4 * 48271 % (10 ^ 30 - 1) else -(c / 4 * 48271 % (10 ^ 30 - 1))
def bA (es : List Int) (k : Nat) : List Int := if (12 : Int) < (([(k : Int)] ++ lu es k).length : Nat) then cutD ([(k : Int)] ++ lu es k) (some 1) none else [(k : Int)] ++ lu es k
theorem nF {es : List Int} {k : Nat} (h : kM es) (hk : k + 1 = es.length) : 0 < (bA es k).length /\ (bA es k).length <= es.length + 2 /\ ∀ x ∈ bA es k, 0 <= x /\ x < es.length := by
 have hm : ∀ x ∈ [(k : Int)] ++ lu es k, 0 <= x /\ x < es.length := fun x hx => by
   rcases VZ.mp hx with h1 | h1
   . have : x = k := by simpa using h1
     omega
   . have ha := h.at (k := (k : Int)) (by omega) (by omega)
     have := sO h _ ha.1 (by omega) h1
     omega
 have hl : ([(k : Int)] ++ lu es k).length <= es.length + 2 := by
   have := sP (es.length + 1) es (es.getD (k : Int).toNat 0)
   rw [V1]
   unfold lu
   simp only [VX, WO]
   omega
 unfold bA
 split
 . rename_i Ri
   have e : cutD ([(k : Int)] ++ lu es k) (some 1) none = lu es k := by
     generalize lu es k = l at Ri
     unfold cutD
     have h1 : HT.nM ([(k : Int)] ++ l).length 0 (some 1) = 1 := by
       rw [V1] at Ri ⊢
       simp only [VX, WO] at Ri ⊢
       unfold HT.nM
       simp
     have h2 : HT.nM ([(k : Int)] ++ l).length ([(k : Int)] ++ l).length none = ([(k : Int)] ++ l).length := by
       unfold HT.nM
       simp
     rw [h1, h2]
     simp
   rw [e]
   have Rj := V1 (as := [(k : Int)]) (bs := lu es k)
   simp only [VX, WO] at Rj
   exact ⟨by omega, by omega, fun x hx => hm x (Vw _ hx)⟩
 . exact ⟨by simp, hl, hm⟩
theorem getD_mem {l : List Int} {n : Nat} (h : n < l.length) : l.getD n 0 ∈ l := by
 rw [VY, V2 h]
 exact Xf h
theorem sW {es : List Int} {k : Nat} {x : Int} (hx : x ∈ bA es k) : x = k \/ x ∈ lu es k := by
 have hm : x ∈ [(k : Int)] ++ lu es k := by
   unfold bA at hx
   split at hx
   . unfold cutD at hx
     exact List.mem_of_mem_drop (List.mem_of_mem_take hx)
   . exact hx
 rcases VZ.mp hm with h | h
 . exact .inl (by simpa using h)
 . exact .inr h
def Nt (s es : List Int) (k : Nat) : Int := (bA es k).getD (bQ (bq s ((k : Int) + 1)) (3 + (k : Int)) % ((bA es k).length : Nat)).toNat 0
def ki (s : List Int) : Nat -> List Int
 | 0 => [-1]
 | j + 1 => ki s j ++ [Nt s (ki s j) j]
theorem E9 : rM [-1] := ⟨fun k hk => by
   have : k = 0 := by simpa using hk
   subst this
   exact ⟨Int.le_refl _, show (-1 : Int) < ((0 : Nat) : Int) by decide⟩, fun k hk => by simp at hk⟩
theorem sX (s : List Int) : ∀ j, (ki s j).length = j + 1 /\ rM (ki s j)
 | 0 => ⟨rfl, E9⟩
 | j + 1 => by
   obtain ⟨h1, h2⟩ := sX s j
   obtain ⟨r1, r2, r3⟩ := nF (k := j) h2.1 h1.symm
   refine ⟨by show (ki s j ++ _).length = _; rw [V1, h1]; rfl, ?_⟩
   have hx := getD_mem (l := bA (ki s j) j) (n := (bQ (bq s ((j : Int) + 1)) (3 + (j : Int)) % ((bA (ki s j) j).length : Nat)).toNat) (by
     have := VM (bQ (bq s ((j : Int) + 1)) (3 + (j : Int))) (b := ((bA (ki s j) j).length : Nat)) (by omega)
     have := VW (bQ (bq s ((j : Int) + 1)) (3 + (j : Int))) (b := ((bA (ki s j) j).length : Nat)) (by omega)
     omega)
   exact h2.snoc h1.symm (sW hx)
def cntK (s : List Int) : Int := if bQ (bq s 0) 2 / 14 % 8 = 3 then 11 + bQ (bq s 0) 2 / 112 % 20 else 1 + bQ (bq s 0) 2 % 14
theorem Cd (s : List Int) : 1 <= cntK s /\ cntK s <= 30 := by
 unfold cntK
 split <;> omega
def fY (s : List Int) : List Int := ki s (cntK s - 1).toNat
theorem za (s : List Int) : 1 <= (fY s).length /\ (fY s).length <= 30 /\ rM (fY s) := by
 obtain ⟨h1, h2⟩ := sX s (cntK s - 1).toNat
 have := Cd s
 unfold fY
 exact ⟨by omega, by omega, h2⟩
def AX (s : List Int) (k : Nat) : Int := bQ (bq s (k : Int)) (101 + (k : Int))
def xD (s es : List Int) (k : Nat) : Str := if rN es (k : Int) = [] then "leaf" else (["all", "one"] : List Str).getD (AX s k % 2).toNat Str.empty
def stK (s es : List Int) (k : Nat) : Int := if xD s es k = "one" then (rN es (k : Int)).getD (AX s k / 2 % ((rN es (k : Int)).length : Nat)).toNat 0 else -1
def Ly (s es : List Int) (k : Nat) : Int := if xD s es k = "one" then (rN es (k : Int)).getD (AX s k / 22 % ((rN es (k : Int)).length : Nat)).toNat 0 else -1
theorem Kx (s es : List Int) (k : Nat) : PyData.strOk (xD s es k) = true := by
 unfold xD
 split
 . decide +kernel
 . have : AX s k % 2 = 0 \/ AX s k % 2 = 1 := by omega
   rcases this with e | e <;> rw [e] <;> decide +kernel
theorem Fb {s es : List Int} {k : Nat} (h : xD s es k = "one") : rN es (k : Int) ≠ [] := by
 intro e
 unfold xD at h
 rw [Vy e] at h
 exact absurd h (by decide +kernel)
def nT (s es : List Int) (n : Nat) : List Str := (List.range n).map (xD s es)
def pP (s es : List Int) (n : Nat) : List Int := (List.range n).map (stK s es)
def mQ (s es : List Int) (n : Nat) : List Int := (List.range n).map (Ly s es)
def rO (ks : List Str) (es ss os : List Int) : L3.D := .lst [.lst (ks.map .str), .lst (es.map .int), .lst (ss.map .int), .lst (os.map .int)]
def nG (ks : List Str) (es ss os : List Int) : T := .lst [.lst ((ks.map .str).map T.sh), .lst ((es.map .int).map T.sh), .lst ((ss.map .int).map T.sh), .lst ((os.map .int).map T.sh)]
theorem Ce (ks : List Str) (es ss os : List Int) : (nG ks es ss os).cT = rO ks es ss os := by
 unfold nG rO
 rw [T.cT, T.fu, T.fu, T.fu, T.fu, T.fu, dm, dm, dm, dm]
def rP (es os : List Int) : Nat -> List Int
 | 0 => [0]
 | j + 1 => if es.getD (j + 1) 0 ∈ rP es os j /\ (os.getD (es.getD (j + 1) 0).toNat 0 = -1 \/ os.getD (es.getD (j + 1) 0).toNat 0 = ((j + 1 : Nat) : Int)) then rP es os j ++ [((j + 1 : Nat) : Int)] else rP es os j
theorem oj {es os : List Int} : ∀ (j : Nat) {x : Int}, x ∈ rP es os j -> 0 <= x /\ x <= j
 | 0, x, h => by
   have : x = 0 := by simpa [rP] using h
   omega
 | j + 1, x, h => by
   rw [rP] at h
   split at h
   . rcases VZ.mp h with h | h
     . have := oj j h
       omega
     . have : x = ((j + 1 : Nat) : Int) := by simpa using h
       omega
   . have := oj j h
     omega
theorem sY {es os : List Int} : ∀ (j : Nat), 1 <= (rP es os j).length /\ (rP es os j).length <= j + 1
 | 0 => ⟨Vz _, Vz _⟩
 | j + 1 => by
   have := sY (es := es) (os := os) j
   rw [rP]
   split
   . rw [V1]
     simp only [VX, WO]
     omega
   . omega
def Lz (s : List Int) : List Int := (List.range (bQ (bq s 0) 7 % 6).toNat).map fun (k : Nat) => dY (bq s ((k : Int) + 1) + 5 * (k : Int))
theorem Fd (s : List Int) : (Lz s).length <= 5 := by
 unfold Lz
 rw [VL, List.length_range]
 omega
theorem Cg {x : Str} (h : PyData.strOk x = true) (l k : Option Int) : PyData.strOk (Txt.slice x l k) = true := by
 unfold Txt.slice
 split
 . exact h
 . unfold PyData.strOk at *
   rw [List.all_toArray, WU]
   intro c hc
   obtain ⟨i, _, hi⟩ := List.mem_filterMap.mp hc
   rw [← Array.all_toList, WU] at h
   exact h c (by rw [← Xc] at hi; exact Wr hi)
theorem Aq (c : Int) : (fU c).length <= 13 := by
 have h := y9 c
 unfold fU
 split
 . rw [str_len]; show _ + 1 <= _; omega
 . split
   . rw [str_len]; show _ + 1 <= _; omega
   . omega
def nH (s : List Int) : Str := Txt.slice (fU (bq s 0 / 2)) none (some 10)
def Fe (s : List Int) : List Str := if bq s 0 % 2 = 0 then [nH s ++ "1", nH s ++ "12", nH s ++ "2"] else [nH s, fU (bq s 1 + 5), fU (bq s 2 + 10)]
theorem Ff (s : List Int) : (Fe s).length = 3 := by
 unfold Fe
 split <;> rfl
theorem Ky (s : List Int) : ∀ x ∈ Fe s, PyData.strOk x = true := by
 have hb : PyData.strOk (nH s) = true := Cg (sU _) _ _
 unfold Fe
 split
 . intro x hx
   simp only [VC, W4, or_false] at hx
   rcases hx with rfl | rfl | rfl
   . exact mF _ _ hb (by decide +kernel)
   . exact mF _ _ hb (by decide +kernel)
   . exact mF _ _ hb (by decide +kernel)
 . intro x hx
   simp only [VC, W4, or_false] at hx
   rcases hx with rfl | rfl | rfl
   . exact hb
   . exact sU _
   . exact sU _
inductive pQ where
 | As (op : Bool) (m : Int)
 | num (mk : Str) (b1 m1 b2 m2 : Int)
def iU : pQ -> L3.D
 | .As op m => .tup [.str (if op then "open" else "shut"), .int m]
 | .num mk b1 m1 b2 m2 => .tup [.str mk, .tup [.int b1, .int m1], .tup [.int b2, .int m2]]
def kO : List Str := ["<", "<=", "=", "!="]
def pQ.Ok (n : Nat) (bs : List Int) : pQ -> Prop
 | .As _ m => 0 <= m /\ m < n
 | .num mk b1 _ b2 _ => mk ∈ kO /\ (b1 = -1 \/ (0 <= b1 /\ b1 < bs.length)) /\ (b2 = -1 \/ (0 <= b2 /\ b2 < bs.length))
theorem lz (a : pQ) : (iU a).g6 = true := by cases a <;> rfl
theorem Fg : ∀ x ∈ kO, PyData.strOk x = true := by decide +kernel
theorem wI {n : Nat} {m : Nat} {bs : List Int} {a : pQ} (h : a.Ok m bs) : fX (n + 2) (iU a) := by
 cases a with
 | As op m =>
   refine .tup fun d hd => ?_
   rcases VC.mp hd with rfl | hd
   . refine .str _ _ ?_
     cases op <;> decide +kernel
   . rw [Wf.mp hd]; exact .int _ _
 | num mk b1 m1 b2 m2 =>
   refine .tup fun d hd => ?_
   rcases VC.mp hd with rfl | hd
   . exact .str _ _ (Fg _ h.1)
   . rcases VC.mp hd with rfl | hd
     . exact .tup fun d hd => by
         rcases VC.mp hd with rfl | hd
         . exact .int _ _
         . rw [Wf.mp hd]; exact .int _ _
     . rw [Wf.mp hd]
       exact .tup fun d hd => by
         rcases VC.mp hd with rfl | hd
         . exact .int _ _
         . rw [Wf.mp hd]; exact .int _ _
def pR (g : Bool) (i j : Int) : List Str := kO.filter fun m => decide (je m i j = g)
theorem zb (i j : Int) : je "=" i j = decide (i = j) := by unfold je; rw [Vx (by decide +kernel), Vx (by decide +kernel), Vy rfl]
theorem zc (i j : Int) : je "!=" i j = !decide (i = j) := by unfold je; rw [Vx (by decide +kernel), Vx (by decide +kernel), Vx (by decide +kernel)]
theorem wJ (g : Bool) (i j : Int) : 0 < (pR g i j).length := by
 have mem : ∀ m ∈ kO, je m i j = g -> 0 < (pR g i j).length := fun m hm h => List.length_pos_of_mem (WX.mpr ⟨hm, Xl h⟩)
 cases g with
 | true =>
   by_cases e : i = j
   . exact mem "=" (by decide +kernel) (by rw [zb]; exact Xl e)
   . exact mem "!=" (by decide +kernel) (by rw [zc, WB e]; rfl)
 | false =>
   by_cases e : i = j
   . exact mem "!=" (by decide +kernel) (by rw [zc, Xl e]; rfl)
   . exact mem "=" (by decide +kernel) (by rw [zb]; exact WB e)
def wK (c : Int) : Bool := decide (0 < bQ c 31 % 3)
def nU (c : Int) (n : Nat) : Int := bQ c 31 / 9 % ((n : Int) + 1) - 1
def mR (c : Int) (n : Nat) : Int := if bQ c 31 / 729 % 3 = 0 then nU c n else bQ c 31 / 81 % ((n : Int) + 1) - 1
def sZ (c : Int) : Int := if bQ c 31 / 729 % 3 = 0 then cQ (c / 3) + bQ c 31 / 2187 % 3 - 1 else cQ (c / 5 + 1)
theorem tu (c : Int) (n : Nat) : nU c n = -1 \/ (0 <= nU c n /\ nU c n < n) := by
 have a := VW (bQ c 31 / 9) (b := (n : Int) + 1) (by omega)
 have b := VM (bQ c 31 / 9) (b := (n : Int) + 1) (by omega)
 unfold nU
 omega
theorem zf (c : Int) (n : Nat) : mR c n = -1 \/ (0 <= mR c n /\ mR c n < n) := by
 have a := VW (bQ c 31 / 81) (b := (n : Int) + 1) (by omega)
 have b := VM (bQ c 31 / 81) (b := (n : Int) + 1) (by omega)
 unfold mR
 split
 . exact tu c n
 . omega
def ku (c : Int) (bs : List Int) : Int := kN (nU c bs.length) (cQ (c / 3)) bs
def gu (c : Int) (bs : List Int) : Int := kN (mR c bs.length) (sZ c) bs
def wL (c : Int) (bs : List Int) : Str := (pR (wK c) (ku c bs) (gu c bs)).getD (bQ c 31 / 6561 % ((pR (wK c) (ku c bs) (gu c bs)).length : Nat)).toNat Str.empty
def kP (ops : List Int) (m : Nat) (bs : List Int) (c : Int) : pQ :=
 if bQ c 31 / 3 % 3 = 0 then .As (decide (decide (bQ c 31 / 9 % (m : Int) ∈ ops) = wK c)) (bQ c 31 / 9 % (m : Int))
 else .num (wL c bs) (nU c bs.length) (cQ (c / 3)) (mR c bs.length) (sZ c)
theorem Au (c : Int) (bs : List Int) : wL c bs ∈ kO := by
 have hp := wJ (wK c) (ku c bs) (gu c bs)
 have hm : ∀ x ∈ pR (wK c) (ku c bs) (gu c bs), x ∈ kO := fun x hx => (WX.mp hx).1
 have l0 := VW (bQ c 31 / 6561) (b := ((pR (wK c) (ku c bs) (gu c bs)).length : Nat)) (by omega)
 have l1 := VM (bQ c 31 / 6561) (b := ((pR (wK c) (ku c bs) (gu c bs)).length : Nat)) (by omega)
 unfold wL
 rw [VY, V2 (by omega)]
 exact hm _ (Xf _)
theorem Fi (ops : List Int) {m : Nat} (hm : 1 <= m) (bs : List Int) (c : Int) : (kP ops m bs c).Ok m bs := by
 unfold kP
 split
 . exact ⟨VW _ (by omega), VM _ (by omega)⟩
 . exact ⟨Au c bs, tu _ _, zf _ _⟩
def Ii (th : List Str) (k : Int) : List L3.D := ([[], [.tup [.str "call", .str (th.getD 0 Str.empty)]], [.tup [.str "say", .str (th.getD 1 Str.empty), .tup [.int (-1), .int 7]], .tup [.str "call", .str (th.getD 2 Str.empty)]]] : List (List L3.D)).getD k.toNat []
def Av (ops : List Int) (m : Nat) (bs : List Int) (c : Int) : List pQ := (List.range (bQ c 11 / 100 % 3).toNat).map fun (k : Nat) => kP ops m bs (c / ((k : Int) + 1) + 17 * (k : Int))
def Ci (ops : List Int) (m : Nat) (bs : List Int) (th : List Str) (c : Int) : nR where
 src := if bQ c 11 % 2 = 0 then ops.getD (bQ c 11 / 2 % (ops.length : Nat)).toNat 0 else bQ c 11 / 2 % (m : Int)
 sign := th.getD (bQ c 13 / 300 % 3).toNat Str.empty
 asks := (Av ops m bs c).map iU
 ly := Ii th (bQ c 11 / 300 % 3)
 tgt := if bQ c 13 % 5 = 0 then -1 else bQ c 13 / 5 % (m : Int)
 mode := if bQ c 13 % 5 = 0 then "new" else (["new", "near", "far"] : List Str).getD (bQ c 13 / 100 % 3).toNat Str.empty
structure pS (m : Nat) (bs : List Int) (w : nR) : Prop where
 src : 0 <= w.src /\ w.src < m
 sign : PyData.strOk w.sign = true
 asks : ∃ l : List pQ, w.asks = l.map iU /\ l.length <= 2 /\ ∀ a ∈ l, a.Ok m bs
 ly : D.bw w.ly = true /\ ∀ d ∈ w.ly, fX 10 d
 tgt : -1 <= w.tgt /\ w.tgt < m
 mode : PyData.strOk w.mode = true
theorem Kz {th : List Str} (h : ∀ x ∈ th, PyData.strOk x = true) (h3 : th.length = 3) (k : Int) : D.bw (Ii th k) = true /\ ∀ d ∈ Ii th k, fX 10 d := by
 have g : ∀ i, i < 3 -> PyData.strOk (th.getD i Str.empty) = true := fun i hi => by
   rw [VY, V2 (by omega)]
   exact h _ (Xf _)
 have e2 : ∀ {a b : L3.D}, fX 9 a -> fX 9 b -> fX 10 (.tup [a, b]) := fun ha hb => .tup fun d hd => by
   rcases VC.mp hd with rfl | hd
   . exact ha
   . rw [Wf.mp hd]; exact hb
 unfold Ii
 by_cases k0 : k.toNat = 0
 . rw [k0]; exact ⟨rfl, fun d hd => by cases hd⟩
 . by_cases k1 : k.toNat = 1
   . rw [k1]
     refine ⟨rfl, fun d hd => ?_⟩
     rw [Wf.mp hd]
     exact e2 (.str _ _ (by decide +kernel)) (.str _ _ (g 0 (by omega)))
   . by_cases k2 : k.toNat = 2
     . rw [k2]
       refine ⟨rfl, fun d hd => ?_⟩
       rcases VC.mp hd with rfl | hd
       . refine .tup fun d hd => ?_
         rcases VC.mp hd with rfl | hd
         . exact .str _ _ (by decide +kernel)
         . rcases VC.mp hd with rfl | hd
           . exact .str _ _ (g 1 (by omega))
           . rw [Wf.mp hd]
             refine .tup fun d hd => ?_
             rcases VC.mp hd with rfl | hd
             . exact .int _ _
             . rw [Wf.mp hd]; exact .int _ _
       . rw [Wf.mp hd]
         exact e2 (.str _ _ (by decide +kernel)) (.str _ _ (g 2 (by omega)))
     . rw [VY, Xb (by simp; omega)]
       exact ⟨rfl, fun d hd => by cases hd⟩
theorem Cj {ops : List Int} {m : Nat} {bs : List Int} {th : List Str} (hm : 1 <= m) (ho : 1 <= ops.length) (Fj : ∀ x ∈ ops, 0 <= x /\ x < m) (h : ∀ x ∈ th, PyData.strOk x = true) (h3 : th.length = 3) (c : Int) : pS m bs (Ci ops m bs th c) where
 src := by
   dsimp only [Ci]
   split
   . have l0 := VW (bQ c 11 / 2) (b := (ops.length : Nat)) (by omega)
     have l1 := VM (bQ c 11 / 2) (b := (ops.length : Nat)) (by omega)
     rw [VY, V2 (by omega)]
     exact Fj _ (Xf _)
   . exact ⟨VW _ (by omega), VM _ (by omega)⟩
 sign := by
   have l0 := VW (bQ c 13 / 300) (show (3 : Int) ≠ 0 by decide)
   have l1 := VM (bQ c 13 / 300) (show (0 : Int) < 3 by decide)
   show PyData.strOk (th.getD _ _) = true
   rw [VY, V2 (by omega)]
   exact h _ (Xf _)
 asks := ⟨Av ops m bs c, rfl, by unfold Av; rw [VL, List.length_range]; omega, fun a ha => by
   obtain ⟨k, _, rfl⟩ := Wc.mp ha
   exact Fi ops hm bs _⟩
 ly := Kz h h3 _
 tgt := by
   dsimp only [Ci]
   split
   . omega
   . have l0 := VW (bQ c 13 / 5) (b := (m : Int)) (by omega)
     have l1 := VM (bQ c 13 / 5) (b := (m : Int)) (by omega)
     omega
 mode := by
   dsimp only [Ci]
   split
   . decide +kernel
   . have : bQ c 13 / 100 % 3 = 0 \/ bQ c 13 / 100 % 3 = 1 \/ bQ c 13 / 100 % 3 = 2 := by omega
     rcases this with e | e | e <;> rw [e] <;> decide +kernel
theorem pS.g6 {m : Nat} {bs : List Int} {w : nR} (h : pS m bs w) : (eN w).g6 = true := by
 obtain ⟨l, e, _, _⟩ := h.asks
 show (true && (true && (D.bw w.asks && (D.bw w.ly && (true && (true && true)))))) = true
 rw [e, fQ (fun a => lz a), h.ly.1]
 rfl
theorem KC {n m : Nat} {d : L3.D} (h : fX n d) (hm : n <= m) : fX m d := by
 induction h generalizing m with
 | non n => exact .non _
 | bl n b => exact .bl _ _
 | int n i => exact .int _ _
 | str n x h => exact .str _ _ h
 | tup h ih =>
   obtain ⟨k, rfl⟩ : ∃ k, m = k + 1 := ⟨m - 1, by omega⟩
   exact .tup fun d hd => ih d hd (by omega)
 | lst h ih =>
   obtain ⟨k, rfl⟩ : ∃ k, m = k + 1 := ⟨m - 1, by omega⟩
   exact .lst fun d hd => ih d hd (by omega)
theorem pS.dep {m : Nat} {bs : List Int} {w : nR} (h : pS m bs w) : fX 12 (eN w) := by
 obtain ⟨l, e, _, hl⟩ := h.asks
 refine .tup fun d hd => ?_
 simp only [VC, W4, or_false] at hd
 rcases hd with rfl | rfl | rfl | rfl | rfl | rfl
 . exact .int _ _
 . exact .str _ _ h.sign
 . refine .tup fun d hd => ?_
   rw [e] at hd
   obtain ⟨a, ha, rfl⟩ := Wc.mp hd
   exact wI (hl a ha)
 . exact .tup fun d hd => h.ly.2 d hd
 . exact .int _ _
 . exact .str _ _ h.mode
def pT (s ops : List Int) (m : Nat) (bs : List Int) (th : List Str) : List nR := dX nR.src (s.map (Ci ops m bs th))
theorem Ck {s ops : List Int} {m : Nat} {bs : List Int} {th : List Str} (hm : 1 <= m) (ho : 1 <= ops.length) (Fj : ∀ x ∈ ops, 0 <= x /\ x < m) (h : ∀ x ∈ th, PyData.strOk x = true) (h3 : th.length = 3) : (pT s ops m bs th).length = s.length /\ ∀ w ∈ pT s ops m bs th, pS m bs w := by
 unfold pT
 refine ⟨by rw [jz, VL], fun w hw => ?_⟩
 obtain ⟨c, _, rfl⟩ := Wc.mp (mK.mp hw)
 exact Cj hm ho Fj h h3 c
def lA (m : Nat) (bs : List Int) (ws : List nR) : Prop := ws.length <= 63 /\ ∀ w ∈ ws, pS m bs w
theorem lA.bw {m : Nat} {bs : List Int} {ws : List nR} (h : lA m bs ws) : D.bw (ws.map eN) = true := g9 fun d hd => by
 obtain ⟨w, hw, rfl⟩ := Wc.mp hd
 exact (h.2 w hw).g6
theorem lA.dep {m : Nat} {bs : List Int} {ws : List nR} (h : lA m bs ws) (n : Nat) : fX (n + 13) (.lst (ws.map eN)) := .lst fun d hd => by
 obtain ⟨w, hw, rfl⟩ := Wc.mp hd
 exact KC (h.2 w hw).dep (by omega)
abbrev om : Stmt := top 14
abbrev tD : Type := Int × Int
def dQ : tD -> List L3.D := fun (c, s) => [.int c, .int s]
def dR : tD -> Prop := fun (c, s) => True
def dS : tD -> T := fun (c, s) => (.sh (.int (bQ c s)) : T)
structure Fl (X : Cx) (CL : Str -> Addr) : Prop extends dz X where
 cu : Ln X 0 "cell"
 KD : Ln X 1 "salt"
 aE : Ln X 2 "mixed"
theorem Fo {X : Cx} {CL : Str -> Addr} {b : Bx} (E : Fl X CL) (c s) (h : dR (c, s)) :
   aH X CL b om ["cell", "salt", "mixed"] (dQ (c, s)) (dS (c, s)) := by
 dsimp only [aH, dR, dQ, dS] at h ⊢
 refine aN E.g E.aE (bz (aL (ah (kK (ah (cO (ah (aL (aM E.cu) (ah ai) (by decide))) (aM E.KD))) (ah ai) (.inr ⟨by decide, by decide⟩))) (ah ai) (by decide)) (t2 := .sh (.int (Nq c s))) rfl) ?_
 obtain ⟨m0, m1⟩ := Nr c s
 refine bP (aL (ah (kK (aM E.aE) (aM E.aE) (.inl ⟨by omega, by omega⟩))) (ah ai) (by decide)) rfl
theorem pU : mC (aq om) ([("cell", av), ("salt", av), ("mixed", av)]) = true := by decide +kernel
theorem wM : aP ["cell", "salt", "mixed"] ["cell", "salt"] (aq om) := bD
abbrev jA : Stmt := top 9
abbrev mS : Type := List Int × Int
def cY : mS -> List L3.D := fun (ns, j) => [.lst (ns.map .int), .int j]
def cZ : mS -> Prop := fun (ns, j) => 0 <= j
def c6 : mS -> T := fun (ns, j) => (.sh (.int (bq ns j)) : T)
structure Aw (X : Cx) (CL : Str -> Addr) : Prop extends dz X where
 aU : Ln X 0 "script"
 kQ : Ln X 1 "k"
 cD : Gl X "len"
 cE : X.mg "len" = none
theorem Ax {X : Cx} {CL : Str -> Addr} {b : Bx} (E : Aw X CL) (ns j) (h : cZ (ns, j)) :
   aH X CL b jA ["script", "k"] (cY (ns, j)) (c6 (ns, j)) := by
 dsimp only [aH, cZ, cY, c6] at h ⊢
 refine g8 (HP (aM E.kQ) (ah (n9 E.cE (aM E.aU) E.cD))).1 (fun hp => ?_) (fun hp => ?_)
 . have e : j < ns.length := by simpa using of_decide_eq_true hp
   refine bP (cF (aX (aM E.aU) (aM E.kQ) (fO h e)) rfl) ?_
   show T.sh _ = T.sh (.int (bq ns j))
   rw [bq, Vy e]
 . have e : ¬ j < ns.length := by simpa using of_decide_eq_false hp
   refine aD (bP ai ?_)
   show T.sh _ = T.sh (.int (bq ns j))
   rw [bq, Vx e]
theorem kR : mC (aq jA) ([("script", av), ("k", av), ("len", aG)]) = true := by decide +kernel
theorem pV : aP ["script", "k"] ["script", "k"] (aq jA) := bD
abbrev oq : Stmt := top 15
abbrev tE : Type := List Int × Int
def jB : tE -> List L3.D := fun (es, m) => [.lst (es.map .int), .int m]
def jC : tE -> Prop := fun (es, m) => kM es /\ 0 <= m /\ m < es.length /\ es.length <= 1000
def jD : tE -> T := fun (es, m) => (.lst (((lu es m).map .int).map T.sh) : T)
structure Fp (X : Cx) (CL : Str -> Addr) : Prop extends dz X where
 bJ : Ln X 0 "elders"
 pW : Ln X 1 "mood"
 fC : Ln X 2 "found"
 qI : Ln X 3 "at"
theorem Fq {X : Cx} {CL : Str -> Addr} {b : Bx} (E : Fp X CL) (es m) (h : jC (es, m)) :
   aH X CL b oq ["elders", "mood", "found", "at"] (jB (es, m)) (jD (es, m)) := by
 dsimp only [aH, jC, jB, jD] at h ⊢
 obtain ⟨ht, h0, h1, hlen⟩ := h
 refine aN E.g E.fC (e7 eZ (Wi _)) ?_
 refine aN E.g E.qI (cF (aX (aM E.bJ) (aM E.pW) (fO h0 h1)) rfl) ?_
 have hm := ht.at h0 h1
 refine EC E.g (fun n δ => ∃ (k : Int) (l : List Int), δ = [some (.sh (.lst (es.map .int))), some (.sh (.int m)), some (.lst ((l.map .int).map T.sh)), some (.sh (.int k))] /\ -1 <= k /\ k < n /\ k < es.length /\ l ++ pL n es k = lu es m /\ l.length + n <= es.length + 1) (es.length + 1)
   ⟨es.getD m.toNat 0, [], rfl, hm.1, by omega, by omega, rfl, by simp⟩ ?_
 rintro n δ ⟨k, l, rfl, k0, k1, k2, k3, k4⟩
 refine ⟨_, _, (xW (aM E.qI) (ah (gn (ah ai)))).1, fun hp => ?_, fun hp => ?_⟩
 . have hk : ¬ k = -1 := by simpa using hp
   have ha := ht.at (k := k) (by omega) k2
   cases n with
   | zero => omega
   | succ n =>
     refine nu E.fC.1 rfl (v_ E.qI.1) rfl (by simp; omega) ?_
     refine aN E.g E.qI (cF (aX (aM E.bJ) (aM E.qI) (fO (by omega) k2)) rfl) ?_
     refine aD ⟨n, Nat.lt_succ_self _, es.getD k.toNat 0, l ++ [k], ?_, ha.1, by omega, by omega, ?_, by simp; omega⟩
     . show [_, _, some (T.lst (((l.map D.int).map T.sh) ++ [T.sh (.int k)])), _] = _
       simp
     . rw [← k3, pL, Vx hk, VA]
       rfl
 . have hk : k = -1 := by simpa using hp
   subst hk
   have e : l = lu es m := by
     rw [← k3]
     cases n with
     | zero => rw [pL, Wx]
     | succ n => rw [pL, Vy rfl, Wx]
   subst e
   exact bP (vM E.fC.1) rfl
theorem lB : mC (aq oq) ([("elders", av), ("mood", av), ("found", av), ("at", av)]) = true := by decide +kernel
theorem wN : aP ["elders", "mood", "found", "at"] ["elders", "mood"] (aq oq) := bD
abbrev lC : Stmt := top 16
abbrev pX : Type := List Int
def iu : pX -> List L3.D := fun s => [.lst (s.map .int)]
def iy : pX -> Prop := fun s => s.length <= 1000
def iz : pX -> T := fun s => (.lst (((fY s).map .int).map T.sh) : T)
structure Cm (X : Cx) (CL : Str -> Addr) : Prop extends dz X where
 aU : Ln X 0 "script"
 aE : Ln X 1 "mixed"
 dZ : Ln X 2 "many"
 bJ : Ln X 3 "elders"
 kQ : Ln X 4 "k"
 jE : Ln X 5 "roads"
 bB : Gl X "_law_mixed"
 aV : Gl X "_law_cell_at"
 b9 : Gl X "range"
 tF : Gl X "_law_chain"
 cD : Gl X "len"
 d7 : Fc X CL "_law_mixed" 1 2 dQ dR dS
 cy : Fc X CL "_law_cell_at" 1 2 cY cZ c6
 cg : X.mg "range" = none
 Ft : Fc X CL "_law_chain" 1 2 jB jC jD
 cE : X.mg "len" = none
theorem Cp {X : Cx} {CL : Str -> Addr} {b : Bx} (E : Cm X CL) (s) (h : iy s) :
   aH X CL b lC ["script", "mixed", "many", "elders", "k", "roads"] (iu s) (iz s) := by
 dsimp only [aH, iy, iu, iz] at h ⊢
 refine aN E.g E.aE (bz (c_ ((bq s 0, 2)) E.d7 E.bB (ao (ah (c_ ((s, 0)) E.cy E.aV (ao (aM E.aU) (ao (ah ai) aO)) (show (0 : Int) <= 0 by omega) rfl)) (ao (ah ai) aO)) (trivial) rfl) (t2 := .sh (.int (bQ (bq s 0) 2))) rfl) ?_
 have c0 := sV (bq s 0) 2
 refine aN E.g E.dZ (cO (ah ai) (ah (aL (aM E.aE) (ah ai) (by decide)))) ?_
 refine rC (fun δ => δ = [some (.sh (.lst (s.map .int))), some (.sh (.int (bQ (bq s 0) 2))), some (.sh (.int (cntK s))), none, none, none]) (eL (ah (aL (ah (aW (aM E.aE) (ah ai) ⟨by decide, by decide⟩)) (ah ai) (by decide))) (ah ai)).1 (fun hp => ?_) (fun hp => ?_) ?_
 . refine aN E.g E.dZ (bz (cO (ah ai) (ah (aL (ah (aW (aM E.aE) (ah ai) ⟨by decide, by decide⟩)) (ah ai) (by decide)))) (t2 := .sh (.int (cntK s))) ?_) (aD rfl)
   unfold cntK
   rw [Vy (V3 hp)]
 . refine aD ?_
   unfold cntK
   rw [Vx (VP hp)]
   rfl
 rintro δ rfl
 refine aN E.g E.bJ (gb (aB (gn (ah ai)) bI) (aC rfl)) ?_
 obtain ⟨k0, k1⟩ := Cd s
 refine pC E.g E.kQ (fun j δ => ∃ o5, δ = [some (.sh (.lst (s.map .int))), some (.sh (.int (bQ (bq s 0) 2))), some (.sh (.int (cntK s))), some (.lst (((ki s j).map .int).map T.sh)), (if j = 0 then none else some (.sh (.int ((j : Int) - 1)))), o5])
   (dH E.cg (ah (i6 (aM E.dZ) (ah ai))) (by omega) E.b9) ⟨_, rfl⟩ (fun j δ ⟨_, e⟩ => by subst e; exact VF rfl) ?turn ?fin
 case turn =>
   rintro j d δ hj ⟨o5, rfl⟩
   obtain ⟨rfl, DN⟩ := fP hj
   rw [WQ]
   obtain ⟨hl, oX⟩ := sX s j
   have ht := oX.1
   obtain ⟨r1, r2, r3⟩ := nF (k := j) ht hl.symm
   have JW : ki s (j + 1) = ki s j ++ [Nt s (ki s j) j] := rfl
   show eO X CL b _ _ { nx := fun δ => ∃ o5, δ = [_, _, _, some (.lst (((ki s (j + 1)).map .int).map T.sh)), (if j + 1 = 0 then none else some (.sh (.int (((j + 1 : Nat) : Int) - 1)))), o5], rt := _, bk := _, ct := _ }
   rw [JW, Vx (show ¬ (j + 1 = 0) by omega), show ((j + 1 : Nat) : Int) - 1 = (j : Int) by omega]
   generalize ki s j = es at hl ht r1 r2 r3 ⊢
   have SG : (lu es (j : Int)).length <= es.length + 1 := sP _ _ _
   refine aN E.g E.jE (EE (ds := [.int (j : Int)]) (EB := (lu es (j : Int)).map .int) (dB (ds := [.int (j : Int)]) (e7 (fB (v_ E.kQ.1) eZ) (aC rfl)))
     (dB (c_ (es, (j : Int)) E.Ft E.tF (ao (vL E.bJ.1) (ao (aM E.kQ) aO)) (show kM es /\ (0 : Int) <= j /\ (j : Int) < es.length /\ es.length <= 1000 from ⟨ht, by omega, by omega, by omega⟩) (by show (T.lst _).clean = true; rw [fJ]; exact ny _))) rfl (cX _) (WG (dh (by simp; omega)))) ?_
   have er : ([L3.D.int (j : Int)] ++ (lu es (j : Int)).map L3.D.int) = ([(j : Int)] ++ lu es j).map L3.D.int := rfl
   rw [er]
   have UT : (([(j : Int)] ++ lu es j).map L3.D.int).length = ([(j : Int)] ++ lu es j).length := by simp
   refine rC (fun δ => δ = [some (.sh (.lst (s.map .int))), some (.sh (.int (bQ (bq s 0) 2))), some (.sh (.int (cntK s))), some (.lst ((es.map .int).map T.sh)), some (.sh (.int j)), some (.lst (((bA es j).map .int).map T.sh))])
     (HQ (ah (cB UT E.cE (vL E.jE.1) E.cD)) (ah ai)).1 (fun hp => ?_) (fun hp => ?_) ?_
   . have e : (12 : Int) < (([(j : Int)] ++ lu es j).length : Nat) := V3 hp
     refine aN E.g E.jE (vX (vL E.jE.1) (cX _) (sE (ah ai)) sC) (aD ?_)
     rw [BF]
     unfold bA
     rw [Vy e]
     rfl
   . have e : ¬ (12 : Int) < (([(j : Int)] ++ lu es j).length : Nat) := VP hp
     refine aD ?_
     unfold bA
     rw [Vx e]
     rfl
   rintro δ rfl
   have Rj : ((bA es j).map L3.D.int).length = (bA es j).length := by simp
   have b1 := VW (bQ (bq s ((j : Int) + 1)) (3 + (j : Int))) (b := ((bA es j).length : Nat)) (by omega)
   have b2 := VM (bQ (bq s ((j : Int) + 1)) (3 + (j : Int))) (b := ((bA es j).length : Nat)) (by omega)
   have UU : ((es.map L3.D.int).map T.sh) ++ [T.sh (.int (Nt s es j))] = ((es ++ [Nt s es j]).map L3.D.int).map T.sh := by simp
   refine nu E.bJ.1 rfl (bz (cF (aX (vL E.jE.1) (ah (aL (ah (c_ ((bq s ((j : Int) + 1), 3 + (j : Int))) E.d7 E.bB (ao (ah (c_ ((s, (j : Int) + 1)) E.cy E.aV (ao (aM E.aU) (ao (ah (cO (aM E.kQ) (ah ai))) aO)) (show (0 : Int) <= (j : Int) + 1 by omega) rfl)) (ao (ah (cO (ah ai) (aM E.kQ))) aO)) (trivial) rfl)) (ah (cB (Rj) E.cE (vL E.jE.1) E.cD)) (by omega))) (fO b1 b2)) rfl) (t2 := .sh (.int (Nt s es j))) rfl) rfl (by simp; omega) (aD ?_)
   rw [UU]
   exact ⟨_, rfl⟩
 case fin =>
   rintro δ ⟨o5, rfl⟩
   refine bP (vM E.bJ.1) ?_
   have e : (bC 0 (cntK s - 1).toNat).length = (cntK s - 1).toNat := by simp [bC]
   rw [e]
   rfl
theorem cG : mC (aq lC) ([("script", av), ("mixed", av), ("many", av), ("elders", av), ("k", av), ("roads", av), ("_law_mixed", aG), ("_law_cell_at", aG), ("range", aG), ("_law_chain", aG), ("len", aG)]) = true := by decide +kernel
theorem rQ : aP ["script", "mixed", "many", "elders", "k", "roads"] ["script"] (aq lC) := bD
abbrev ou : Stmt := top 17
abbrev tG : Type := List Int
def jF : tG -> List L3.D := fun s => [.lst (s.map .int)]
def jG : tG -> Prop := fun s => s.length <= 1000
def jH : tG -> T := fun s => (nG (nT s (fY s) (fY s).length) (fY s) (pP s (fY s) (fY s).length) (mQ s (fY s) (fY s).length) : T)
structure Fv (X : Cx) (CL : Str -> Addr) : Prop extends dz X where
 aU : Ln X 0 "script"
 bJ : Ln X 1 "elders"
 pY : X.env.kindOf "elders" = some .cell
 iA : Ln X 2 "kinds"
 gR : Ln X 3 "starts"
 bE : Ln X 4 "opens"
 kQ : Ln X 5 "k"
 UW : X.env.kindOf "k" = some .cell
 aE : Ln X 6 "mixed"
 mU : Ln X 7 "mine"
 qJ : Gl X "_law_elders"
 b9 : Gl X "range"
 cD : Gl X "len"
 bB : Gl X "_law_mixed"
 aV : Gl X "_law_cell_at"
 Cq : Fc X CL "_law_elders" 2 1 iu iy iz
 cg : X.mg "range" = none
 cE : X.mg "len" = none
 d7 : Fc X CL "_law_mixed" 1 2 dQ dR dS
 cy : Fc X CL "_law_cell_at" 1 2 cY cZ c6
theorem Fw {X : Cx} {CL : Str -> Addr} {b : Bx} (E : Fv X CL) (s) (h : jG s) :
   aH X CL b ou ["script", "elders", "kinds", "starts", "opens", "k", "mixed", "mine"] (jF s) (jH s) := by
 dsimp only [aH, jG, jF, jH] at h ⊢
 refine aN E.g E.bJ (bz (c_ (s) E.Cq E.qJ (ao (aM E.aU) aO) (h) (fS _)) (t2 := .lst (((fY s).map .int).map T.sh)) rfl) ?_
 obtain ⟨n1, n2, oX⟩ := za s
 generalize fY s = es at n1 n2 oX ⊢
 refine aN E.g E.iA (e7 eZ (Wi _)) ?_
 refine aN E.g E.gR (e7 eZ (Wi _)) ?_
 refine aN E.g E.bE (e7 eZ (Wi _)) ?_
 refine pC E.g E.kQ (fun j δ => ∃ o5 o6 o7, δ = [some (.sh (.lst (s.map .int))), some (.lst ((es.map .int).map T.sh)), some (.lst (((nT s es j).map .str).map T.sh)), some (.lst (((pP s es j).map .int).map T.sh)), some (.lst (((mQ s es j).map .int).map T.sh)), o5, o6, o7])
   (dH E.cg (ah (cB (VL ..) E.cE (vL E.bJ.1) E.cD)) (by omega) E.b9) ⟨_, _, _, rfl⟩ (fun j δ ⟨_, _, _, e⟩ => by subst e; exact VF rfl) ?turn ?fin
 case turn =>
   rintro j d δ hj ⟨o5, o6, o7, rfl⟩
   obtain ⟨rfl, DN⟩ := fP hj
   rw [WQ]
   refine aN E.g E.aE (bz (c_ ((bq s (j : Int), 101 + (j : Int))) E.d7 E.bB (ao (ah (c_ ((s, (j : Int))) E.cy E.aV (ao (aM E.aU) (ao (aM E.kQ) aO)) (show (0 : Int) <= (j : Int) by omega) rfl)) (ao (ah (cO (ah ai) (aM E.kQ))) aO)) (trivial) rfl) (t2 := .sh (.int (AX s j))) rfl) ?_
   have Pr : (((bC 0 (es.length : Int).toNat).filter fun d => decide (es.getD d.xB.toNat 0 = (j : Int))).map fun d => T.sh d) = ((rN es (j : Int)).map L3.D.int).map T.sh := by
     unfold bC rN
     rw [List.filter_map, Wu, Wu, Wu, Ww]
     have e1 : ((fun d : L3.D => decide (es.getD d.xB.toNat 0 = (j : Int))) ∘ fun i : Nat => L3.D.int (0 + (i : Int))) = fun i : Nat => decide (es.getD i 0 = (j : Int)) := by
       funext i
       show decide (es.getD (0 + (i : Int)).toNat 0 = (j : Int)) = _
       rw [WQ, Ww]
     rw [e1]
     congr 1
     funext i
     show T.sh (.int (0 + (i : Int))) = T.sh (.int i)
     rw [WQ]
   refine mH (p := fun d => decide (es.getD d.xB.toNat 0 = (j : Int))) (gg := fun d => T.sh d) E.g E.mU (cI (.cons E.bJ.1 (.inl E.pY) (.cons E.kQ.1 (.inl E.UW) .nil)) (by decide +kernel)) (dH E.cg (ah (cB (VL ..) E.cE (vL E.bJ.1) E.cD)) (by omega) E.b9) (.inl ⟨rfl, fun d hd => by obtain ⟨i, _, rfl⟩ := Wc.mp hd; rfl⟩) (fun C s0 H0 f0 b' d hd => ?Ay) (WG (dh (by simp [bC]; omega))) ?rest (by exact VF rfl) (gP ⟨_, rfl⟩)
   case Ay =>
     obtain ⟨i, hi, rfl⟩ := Wc.mp hd
     have DK : i < es.length := by simpa using hi
     exact ⟨(eL (aX (MZ (ah (v_ (gq (i := 1) rfl (by decide +kernel)))) (dm _)) (ah (v_ (dO (i := 0) rfl (by decide +kernel)))) (fO (show (0 : Int) <= 0 + (i : Int) by omega) (show 0 + (i : Int) < es.length by omega))) (ah (v_ (gq (i := 2) rfl (by decide +kernel))))).1, fun _ => v_ (dO (i := 0) rfl (by decide +kernel))⟩
   case rest =>
   rw [Pr]
   have Vu := E7 es (j : Int)
   have kl : (nT s es j).length = j := by simp [nT]
   have sl : (pP s es j).length = j := by simp [pP]
   have ol : (mQ s es j).length = j := by simp [mQ]
   have ek : nT s es (j + 1) = nT s es j ++ [xD s es j] := by simp [nT, List.range_succ]
   have UX : pP s es (j + 1) = pP s es j ++ [stK s es j] := by simp [pP, List.range_succ]
   have eo : mQ s es (j + 1) = mQ s es j ++ [Ly s es j] := by simp [mQ, List.range_succ]
   show eO X CL b _ _ { nx := fun δ => ∃ o5 o6 o7, δ = [_, _, some (.lst (((nT s es (j + 1)).map .str).map T.sh)), some (.lst (((pP s es (j + 1)).map .int).map T.sh)), some (.lst (((mQ s es (j + 1)).map .int).map T.sh)), o5, o6, o7], rt := _, bk := _, ct := _ }
   rw [ek, UX, eo]
   generalize nT s es j = ks at kl ⊢
   generalize pP s es j = ss at sl ⊢
   generalize mQ s es j = os at ol ⊢
   have aS : ∀ (l : List Str) (x : Str), (l.map L3.D.str).map T.sh ++ [T.sh (.str x)] = ((l ++ [x]).map L3.D.str).map T.sh := by intros; simp
   have aI : ∀ (l : List Int) (x : Int), (l.map L3.D.int).map T.sh ++ [T.sh (.int x)] = ((l ++ [x]).map L3.D.int).map T.sh := by intros; simp
   refine nu E.iA.1 rfl bF rfl (by simp; omega) ?_
   rw [aS]
   refine nu E.gR.1 rfl (gn (ah ai)) rfl (by simp; omega) ?_
   rw [aI]
   have Rk : ∀ (x y : Str), (((ks ++ [x]).map L3.D.str).map T.sh).set j (T.sh (.str y)) = ((ks ++ [y]).map L3.D.str).map T.sh := fun x y => by
     rw [← List.map_set, ← List.map_set, List.set_append, Vx (by omega), kl, Nat.sub_self]; rfl
   have Nu : ∀ (x y : Int), (((ss ++ [x]).map L3.D.int).map T.sh).set j (T.sh (.int y)) = ((ss ++ [y]).map L3.D.int).map T.sh := fun x y => by
     rw [← List.map_set, ← List.map_set, List.set_append, Vx (by omega), sl, Nat.sub_self]; rfl
   have Rl : ∀ (l : List Str) (x : Str), l.length = j -> zU (((l ++ [x]).map L3.D.str).map T.sh).length (j : Int) = some j := fun l x e => by
     rw [VL, VL, V1]; unfold zU; rw [Vy (by omega), Vy (by simp; omega), Ww]
   have Rm : ∀ (l : List Int) (x : Int), l.length = j -> zU (((l ++ [x]).map L3.D.int).map T.sh).length (j : Int) = some j := fun l x e => by
     rw [VL, VL, V1]; unfold zU; rw [Vy (by omega), Vy (by simp; omega), Ww]
   refine rC (fun δ => δ = [some (.sh (.lst (s.map .int))), some (.lst ((es.map .int).map T.sh)), some (.lst (((ks ++ [xD s es j]).map .str).map T.sh)), some (.lst (((ss ++ [-1]).map L3.D.int).map T.sh)), some (.lst ((os.map .int).map T.sh)), some (.sh (.int j)), some (.sh (.int (AX s j))), some (.lst (((rN es (j : Int)).map .int).map T.sh))])
     (pD E.u (vL E.mU.1) (dB (ds := []) (e7 eZ (Wi _))) (eY _) (eY [])).1 (fun hp => ?_) (fun hp => ?_) ?_
   . have Ng : rN es (j : Int) ≠ [] := fun e => by
       rw [e] at hp
       have : Ab (.lst (([] : List Int).map L3.D.int)) (.lst []) = true := ja (eY [])
       rw [this] at hp
       cases hp
     have Rn : xD s es j = (["all", "one"] : List Str).getD (AX s j % 2).toNat Str.empty := by unfold xD; rw [Vx Ng]
     refine HX E.iA.1 (bz (cF (aX (dB (gb (aB bF (aB bF bI)) (aC rfl))) (ah (aL (aM E.aE) (ah ai) (by decide))) (mD (f := L3.D.str) (l := ["all", "one"]) Str.empty (VW _ (by decide)) (VM _ (by decide)))) rfl) (t2 := .sh (.str (xD s es j))) (by rw [Rn])) (aM E.kQ) rfl (Rl ks _ kl) (aD ?_)
     rw [Rk]
     rfl
   . have he : rN es (j : Int) = [] := by
       generalize rN es (j : Int) = l at hp
       cases l with
       | nil => rfl
       | cons x l =>
         have : Ab (.lst ((x :: l).map L3.D.int)) (.lst []) = false := rfl
         rw [this] at hp
         cases hp
     have Rn : xD s es j = "leaf" := by unfold xD; rw [Vy he]
     refine aD ?_
     rw [Rn]
     rfl
   rintro δ rfl
   have Fx : nO ((ks ++ [xD s es j]).map L3.D.str) (j : Int) = some (.str (xD s es j)) := by
     refine (mD Str.empty (by omega) (by rw [V1, kl]; simp only [VX, WO]; omega)).trans ?_
     rw [Ww, VY, WM (by omega), kl, Nat.sub_self]
     rfl
   refine g8 (su (aX (vL E.iA.1) (aM E.kQ) (Fx)) (ah bF)).1 (fun hp => ?_) (fun hp => ?_)
   . have hp := V3 hp
     have Ng := List.length_pos_iff.mpr (Fb hp)
     have SJ : ((rN es (j : Int)).map L3.D.int).length = (rN es (j : Int)).length := by simp
     have c1 := VW (AX s j / 2) (b := ((rN es (j : Int)).length : Nat)) (by omega)
     have c2 := VM (AX s j / 2) (b := ((rN es (j : Int)).length : Nat)) (by omega)
     have c3 := VW (AX s j / 22) (b := ((rN es (j : Int)).length : Nat)) (by omega)
     have c4 := VM (AX s j / 22) (b := ((rN es (j : Int)).length : Nat)) (by omega)
     refine HX E.gR.1 (bz (cF (aX (vL E.mU.1) (ah (aL (ah (aW (aM E.aE) (ah ai) ⟨by decide, by decide⟩)) (ah (cB (SJ) E.cE (vL E.mU.1) E.cD)) (by omega))) (fO c1 c2)) rfl) (t2 := .sh (.int (stK s es j))) (by unfold stK; rw [Vy hp])) (aM E.kQ) rfl (Rm ss _ sl) ?_
     rw [Nu]
     refine nu E.bE.1 rfl (bz (cF (aX (vL E.mU.1) (ah (aL (ah (aW (aM E.aE) (ah ai) ⟨by decide, by decide⟩)) (ah (cB (SJ) E.cE (vL E.mU.1) E.cD)) (by omega))) (fO c3 c4)) rfl) (t2 := .sh (.int (Ly s es j))) (by unfold Ly; rw [Vy hp])) rfl (by simp; omega) (aD (aD ?_))
     rw [aI]
     exact ⟨_, _, _, rfl⟩
   . have hp := VP hp
     refine nu E.bE.1 rfl (gn (ah ai)) rfl (by simp; omega) (aD (aD ?_))
     rw [aI, show stK s es j = -1 by unfold stK; rw [Vx hp], show Ly s es j = -1 by unfold Ly; rw [Vx hp]]
     exact ⟨_, _, _, rfl⟩
 case fin =>
   rintro δ ⟨o5, o6, o7, rfl⟩
   have e : (bC 0 (es.length : Int).toNat).length = es.length := by simp [bC]
   rw [e]
   exact bP (e7 (fB (vM E.iA.1) (fB (vM E.bJ.1) (fB (vM E.gR.1) (fB (vM E.bE.1) eZ)))) (aC rfl)) rfl
theorem bZ : mC (aq ou) ([("script", av), ("elders", .cell), ("kinds", av), ("starts", av), ("opens", av), ("k", .cell), ("mixed", av), ("mine", av), ("_law_elders", aG), ("range", aG), ("len", aG), ("_law_mixed", aG), ("_law_cell_at", aG)]) = true := by decide +kernel
theorem wO : aP ["script", "elders", "kinds", "starts", "opens", "k", "mixed", "mine"] ["script"] (aq ou) := bD
abbrev ow : Stmt := top 18
abbrev tH : Type := List Str × List Int × List Int × List Int
def jI : tH -> List L3.D := fun (ks, es, ss, os) => [rO ks es ss os]
def gS : tH -> Prop := fun (ks, es, ss, os) => 1 <= es.length /\ es.length <= 900 /\ os.length = es.length /\ kM es
def jJ : tH -> T := fun (ks, es, ss, os) => (.lst (((rP es os (es.length - 1)).map .int).map T.sh) : T)
structure Fy (X : Cx) (CL : Str -> Addr) : Prop extends dz X where
 bM : Ln X 0 "lists"
 bE : Ln X 1 "opens"
 kQ : Ln X 2 "k"
 tK : Ln X 3 "elder"
 b9 : Gl X "range"
 cD : Gl X "len"
 cg : X.mg "range" = none
 cE : X.mg "len" = none
theorem Fz {X : Cx} {CL : Str -> Addr} {b : Bx} (E : Fy X CL) (ks es ss os) (h : gS (ks, es, ss, os)) :
   aH X CL b ow ["lists", "opens", "k", "elder"] (jI (ks, es, ss, os)) (jJ (ks, es, ss, os)) := by
 dsimp only [aH, gS, jI, jJ] at h ⊢
 obtain ⟨O8, hl, ho, ht⟩ := h
 refine aN E.g E.bE (gb (aB ai bI) (aC rfl)) ?_
 refine pC E.g E.kQ (fun j δ => ∃ o o', δ = [some (.sh (rO ks es ss os)), some (.lst (((rP es os j).map .int).map T.sh)), o, o'])
   (z8 E.cg (ah ai) (ah (cB (VL ..) E.cE (aX (aM E.bM) (ah ai) rfl) E.cD)) (by omega) E.b9) ⟨_, _, rfl⟩ (fun j δ ⟨_, _, e⟩ => by subst e; exact VF rfl) ?turn ?fin
 case turn =>
   rintro j d δ hj ⟨o, o', rfl⟩
   obtain ⟨rfl, DN⟩ := fP hj
   have LC := (sY (es := es) (os := os) j).2
   have ej : (1 + (j : Int)).toNat = j + 1 := by omega
   have Ro : (1 + (j : Int)) = ((j + 1 : Nat) : Int) := by omega
   refine aN E.g E.tK (bz (cF (aX (aX (aM E.bM) (ah ai) rfl) (aM E.kQ) (fO (by omega) (by omega))) rfl) (congrArg (fun z => T.sh (.int (es.getD z 0))) ej)) ?_
   have ha := ht (j + 1) (by omega)
   show eO X CL b _ _ { nx := fun δ => ∃ o o', δ = [_, some (.lst (((rP es os (j + 1)).map .int).map T.sh)), o, o'], rt := _, bk := _, ct := _ }
   rw [rP]
   generalize es.getD (j + 1) 0 = x at ha ⊢
   have UY : x ∈ rP es os j -> 0 <= x := fun hx => (oj j hx).1
   refine g8 (El (JL (sH (aM E.tK) (vL E.bE.1) rfl rfl).1 (fun hb => (Em (sH (l := [-1, 1 + (j : Int)]) (aX (aX (aM E.bM) (ah ai) rfl) (aM E.tK) (fO (UY (V3 hb)) (by omega))) (ah (bL (aB (gn (ah ai)) (aB (v_ E.kQ.1) bI)) (aC rfl))) rfl rfl).1)))) (fun hp => ?_) (fun hp => aD (aD ?_))
   . simp only [Wt, decide_eq_true_eq] at hp
     refine nu E.bE.1 rfl (v_ E.kQ.1) rfl (by simp; omega) (aD (aD ?_))
     rw [Vy ⟨hp.1, by
       have := hp.2
       simp only [VC, W4, or_false] at this
       rw [← Ro]
       exact this⟩]
     have e1 : ((rP es os j).map L3.D.int).map T.sh ++ [T.sh (.int (1 + (j : Int)))] = ((rP es os j ++ [((j + 1 : Nat) : Int)]).map L3.D.int).map T.sh := by
       rw [Ro]; simp
     rw [e1]
     exact ⟨_, _, rfl⟩
   . rw [Vx (fun z => by
       have : (decide (x ∈ rP es os j) && decide (os.getD x.toNat 0 ∈ [-1, 1 + (j : Int)])) = true := by
         simp only [Wt, decide_eq_true_eq, VC, W4, or_false]
         exact ⟨z.1, by rw [Ro]; exact z.2⟩
       rw [this] at hp
       cases hp)]
     exact ⟨_, _, rfl⟩
 case fin =>
   rintro δ ⟨o, o', rfl⟩
   have e : (bC 1 ((es.length : Int) - 1).toNat).length = es.length - 1 := by simp [bC]
   rw [e]
   exact bP (vM E.bE.1) rfl
theorem gT : mC (aq ow) ([("lists", av), ("opens", av), ("k", av), ("elder", av), ("range", aG), ("len", aG)]) = true := by decide +kernel
theorem wQ : aP ["lists", "opens", "k", "elder"] ["lists"] (aq ow) := bD
abbrev lD : Stmt := top 10
abbrev pZ : Type := Int
def iB : pZ -> List L3.D := fun a => [.int a]
def iC : pZ -> Prop := fun a => True
def iD : pZ -> T := fun a => (.sh (.int (dY a)) : T)
structure Cr (X : Cx) (CL : Str -> Addr) : Prop extends dz X where
 cu : Ln X 0 "cell"
 kT : Ln X 1 "size"
theorem Ct {X : Cx} {CL : Str -> Addr} {b : Bx} (E : Cr X CL) (a) (h : iC a) :
   aH X CL b lD ["cell", "size"] (iB a) (iD a) := by
 dsimp only [aH, iC, iB, iD] at h ⊢
 refine g8 (eL (ah (aL (aM E.cu) (ah ai) (by decide))) (ah ai)).1 (fun hp => ?_) (fun hp => ?_)
 . have e : a % 2 = 0 := V3 hp
   refine bP (i6 (ah (aL (ah (aW (aM E.cu) (ah ai) ⟨by decide, by decide⟩)) (ah ai) (by decide))) (ah ai)) ?_
   show T.sh _ = T.sh (.int (dY a))
   rw [dY, Vy e]
 . have e : ¬ a % 2 = 0 := VP hp
   refine aD ?_
   refine aN E.g E.kT (aL (ah (kK (ah (aW (aM E.cu) (ah ai) ⟨by decide, by decide⟩)) (ah ai) (.inr ⟨by decide, by decide⟩))) (ah (xV (ah ai) (ah ai) ⟨by decide, by decide, by decide⟩)) (by decide)) ?_
   refine g8 (eL (ah (aL (aM E.cu) (ah ai) (by decide))) (ah ai)).1 (fun hp => ?_) (fun hp => ?_)
   . have e2 : a % 4 = 1 := V3 hp
     refine bP (v_ E.kT.1) ?_
     show T.sh _ = T.sh (.int (dY a))
     rw [dY, Vx e, Vy e2]
     rfl
   . have e2 : ¬ a % 4 = 1 := VP hp
     refine aD (bP (gn (aM E.kT)) ?_)
     show T.sh _ = T.sh (.int (dY a))
     rw [dY, Vx e, Vx e2]
     rfl
theorem rR : mC (aq lD) ([("cell", av), ("size", av)]) = true := by decide +kernel
theorem rS : aP ["cell", "size"] ["cell"] (aq lD) := bD
abbrev oz : Stmt := top 19
abbrev tL : Type := List Int
def jK : tL -> List L3.D := fun a => [.lst (a.map .int)]
def jL : tL -> Prop := fun a => a.length <= 1000
def jM : tL -> T := fun a => (.lst (((Lz a).map .int).map T.sh) : T)
structure FD (X : Cx) (CL : Str -> Addr) : Prop extends dz X where
 aU : Ln X 0 "script"
 Cu : X.env.kindOf "script" = some .cell
 dZ : Ln X 1 "many"
 bB : Gl X "_law_mixed"
 aV : Gl X "_law_cell_at"
 b9 : Gl X "range"
 d7 : Fc X CL "_law_mixed" 1 2 dQ dR dS
 cy : Fc X CL "_law_cell_at" 1 2 cY cZ c6
 cg : X.mg "range" = none
 Cv : Fc X CL "_law_number" 1 1 iB iC iD
theorem FE {X : Cx} {CL : Str -> Addr} {b : Bx} (E : FD X CL) (a) (h : jL a) :
   aH X CL b oz ["script", "many"] (jK a) (jM a) := by
 dsimp only [aH, jL, jK, jM] at h ⊢
 refine aN E.g E.dZ (bz (aL (ah (c_ ((bq a 0, 7)) E.d7 E.bB (ao (ah (c_ ((a, 0)) E.cy E.aV (ao (aM E.aU) (ao (ah ai) aO)) (show (0 : Int) <= 0 by omega) rfl)) (ao (ah ai) aO)) (trivial) rfl)) (ah ai) (by decide)) (t2 := .sh (.int (bQ (bq a 0) 7 % 6))) rfl) ?_
 have m0 := VW (bQ (bq a 0) 7) (show (6 : Int) ≠ 0 by decide)
 have m1 := VM (bQ (bq a 0) 7) (show (0 : Int) < 6 by decide)
 refine bP (yV (p := fun _ => true) (g := fun d => .sh (.int (dY (bq a (d.xB + 1) + 5 * d.xB)))) (cI (.cons E.aU.1 (.inl E.Cu) .nil) (by decide +kernel)) E.g.calm (dH E.cg (aM E.dZ) (by omega) E.b9) (.inl ⟨rfl, fun _ _ => rfl⟩) (fun C s0 H0 f0 b' d hd => ?Ay) (WG (dh (by simp [bC]; omega)))) ?res
 case Ay =>
   obtain ⟨j, hj, rfl⟩ := Wc.mp hd
   exact ⟨rfl, fun _ => bz (c_ (bq a ((0 + (j : Int)) + 1) + 5 * (0 + (j : Int))) (oh E.Cv) (jy (by decide +kernel)) (ao (ah (cO (ah (c_ ((a, (0 + (j : Int)) + 1)) (oh E.cy) (jy (by decide +kernel)) (ao (ah (v_ (gq (i := 1) rfl (by decide +kernel)))) (ao (ah (cO (ah (v_ (dO (i := 0) rfl (by decide +kernel)))) (ah ai))) aO)) (show (0 : Int) <= (0 + (j : Int)) + 1 by omega) rfl)) (ah (kK (ah ai) (ah (v_ (dO (i := 0) rfl (by decide +kernel)))) (.inl ⟨by decide, by decide⟩))))) aO) (trivial) rfl) rfl⟩
 case res =>
   show T.lst _ = T.lst _
   rw [f9]
   unfold bC Lz
   rw [Wu, Wu, Wu]
   congr 1
   refine List.map_congr_left fun j _ => ?_
   show T.sh (.int (dY (bq a ((0 : Int) + j + 1) + 5 * ((0 : Int) + j)))) = T.sh (.int (dY (bq a ((j : Int) + 1) + 5 * (j : Int))))
   rw [WQ]
theorem gU : mC (aq oz) ([("script", .cell), ("many", av), ("_law_mixed", aG), ("_law_cell_at", aG), ("range", aG)]) = true := by decide +kernel
theorem wR : aP ["script", "many"] ["script"] (aq oz) := bD
abbrev tM : Stmt := top 13
abbrev ye : Type := Int
def lE : ye -> List L3.D := fun c => [.int c]
def lF : ye -> Prop := fun c => True
def lG : ye -> T := fun c => (.sh (.str (fU c)) : T)
structure KG (X : Cx) (CL : Str -> Addr) : Prop extends dz X where
 cu : Ln X 0 "cell"
 mV : Ln X 1 "letters"
 aE : Ln X 2 "mixed"
 gw : Ln X 3 "name"
 kQ : Ln X 4 "k"
 b9 : Gl X "range"
 cg : X.mg "range" = none
theorem KH {X : Cx} {CL : Str -> Addr} {b : Bx} (E : KG X CL) (c) (h : lF c) :
   aH X CL b tM ["cell", "letters", "mixed", "name", "k"] (lE c) (lG c) := by
 dsimp only [aH, lF, lE, lG] at h ⊢
 refine aN E.g E.mV bF ?_
 refine aN E.g E.aE (aL (ah (aW (aM E.cu) (ah ai) ⟨by decide, by decide⟩)) (ah (xV (ah ai) (ah ai) ⟨by decide, by decide, by decide⟩)) (by decide)) ?_
 generalize UZ : c / 12 % 10 ^ (9 : Int).toNat = m0
 have e0 : SD c = (m0, nS (m0 % 26)) := by rw [← UZ]; rfl
 have Nv : Ao.length = 36 := by decide +kernel
 have U0 := fun m : Int => VW m (show (26 : Int) ≠ 0 by decide)
 have U1 := fun m : Int => VM m (show (0 : Int) < 26 by decide)
 have U3 := fun m : Int => VW m (show (36 : Int) ≠ 0 by decide)
 have U4 := fun m : Int => VM m (show (0 : Int) < 36 by decide)
 refine aN E.g E.gw (Bs (aM E.mV) (ah (aL (aM E.aE) (ah ai) (by decide))) (by rw [Wb]; decide +kernel) (by rw [B9]; exact BI 0 (U0 _) (by have := U1 m0; rw [Nv]; omega))) ?_
 have c0 := VW c (show (12 : Int) ≠ 0 by decide)
 have c1 := VM c (show (0 : Int) < 12 by decide)
 refine pC E.g E.kQ (fun j δ => ∃ o, δ = [some (.sh (.int c)), some (.sh (.str "abcdefghijklmnopqrstuvwxyz0123456789")), some (.sh (.int (fT (m0, nS (m0 % 26)) j).1)), some (.sh (.str (fT (m0, nS (m0 % 26)) j).2)), o])
   (dH E.cg (ah (aL (aM E.cu) (ah ai) (by decide))) (by omega) E.b9) ⟨_, rfl⟩ (fun j δ ⟨_, e⟩ => by subst e; exact VF rfl) ?turn ?fin
 case turn =>
   rintro j d δ hj ⟨o, rfl⟩
   obtain ⟨rfl, DN⟩ := fP hj
   have LD := Cb (m0, nS (m0 % 26)) j
   have QH : (nS (m0 % 26)).length = 1 := rfl
   refine aN E.g E.aE (aL (ah (cO (ah (kK (aM E.aE) (ah ai) (.inr ⟨by decide, by decide⟩))) (ah ai))) (ah ai) (by decide)) ?_
   refine aN E.g E.gw (i7 (aM E.gw) (ah (Bs (aM E.mV) (ah (aL (aM E.aE) (ah ai) (by decide))) (by rw [Wb]; decide +kernel) (by rw [B9]; exact BI 0 (U3 _) (by have := U4 (E8 (fT (m0, nS (m0 % 26)) j).1); unfold E8 at this; rw [Nv]; omega)))) (by rw [Wb, LD, QH]; show 1 + j + 1 <= _; omega)) (aD ⟨_, rfl⟩)
 case fin =>
   rintro δ ⟨o, rfl⟩
   have hn : (bC 0 (c % 12).toNat).length = (c % 12).toNat := by simp [bC]
   rw [hn]
   have hb : (fT (m0, nS (m0 % 26)) (c % 12).toNat).2 = DM c := by unfold DM; rw [e0]
   rw [hb]
   have Pp := y9 c
   refine g8 (BH (l := w13) (aM E.gw) (k7 rfl)).1 (fun hp => ?_) (fun hp => aD ?_)
   . refine bP (i7 (aM E.gw) (ah bF) (by rw [Wb]; show _ + 1 <= _; omega)) ?_
     show T.sh _ = T.sh (.str (fU c))
     rw [fU, Vy (V3 hp)]
   refine g8 (BH (l := w6) (aM E.gw) (k7 rfl)).1 (fun hq => ?_) (fun hq => aD ?_)
   . refine bP (i7 (aM E.gw) (ah bF) (by rw [Wb]; show _ + 1 <= _; omega)) ?_
     show T.sh _ = T.sh (.str (fU c))
     rw [fU, Vx (VP hp), Vy (V3 hq)]
   . refine bP (v_ E.gw.1) ?_
     show T.sh _ = T.sh (.str (fU c))
     rw [fU, Vx (VP hp), Vx (VP hq)]
theorem jN : mC (aq tM) ([("cell", av), ("letters", av), ("mixed", av), ("name", av), ("k", av), ("range", aG)]) = true := by decide +kernel
theorem zg : aP ["cell", "letters", "mixed", "name", "k"] ["cell"] (aq tM) := bD
abbrev oA : Stmt := top 20
abbrev tN : Type := List Int
def jO : tN -> List L3.D := fun a => [.lst (a.map .int)]
def jP : tN -> Prop := fun a => a.length <= 1000
def jQ : tN -> T := fun a => (.lst (((Fe a).map .str).map T.sh) : T)
structure FG (X : Cx) (CL : Str -> Addr) : Prop extends dz X where
 aU : Ln X 0 "script"
 p9 : Ln X 1 "base"
 jf : Gl X "_law_name"
 aV : Gl X "_law_cell_at"
 yf : Fc X CL "_law_name" 1 1 lE lF lG
 cy : Fc X CL "_law_cell_at" 1 2 cY cZ c6
theorem FH {X : Cx} {CL : Str -> Addr} {b : Bx} (E : FG X CL) (a) (h : jP a) :
   aH X CL b oA ["script", "base"] (jO a) (jQ a) := by
 dsimp only [aH, jP, jO, jQ] at h ⊢
 have hz : ∀ c, (fU c).length <= 13 := fun c => Aq c
 have hb : (nH a).length <= 13 := Wk (Txt.slice_le _ _ _) (hz _)
 refine aN E.g E.p9 (bz (Ad (ah (c_ (bq a 0 / 2) E.yf E.jf (ao (ah (aW (ah (c_ ((a, 0)) E.cy E.aV (ao (aM E.aU) (ao (ah ai) aO)) (show (0 : Int) <= 0 by omega) rfl)) (ah ai) ⟨by decide, by decide⟩)) aO) (trivial) rfl)) ((by rw [Wb]; have := hz (bq a 0 / 2); omega)) sC (sE (ah ai))) (t2 := .sh (.str (nH a))) rfl) ?_
 show eO X CL b _ _ { nx := _, rt := fun Kn _ => Kn = T.lst (((Fe a).map .str).map T.sh), bk := _, ct := _ }
 unfold Fe
 generalize nH a = bs at hb ⊢
 refine g8 (eL (ah (aL (ah (c_ ((a, 0)) E.cy E.aV (ao (aM E.aU) (ao (ah ai) aO)) (show (0 : Int) <= 0 by omega) rfl)) (ah ai) (by decide))) (ah ai)).1 (fun hp => ?_) (fun hp => aD ?_)
 . rw [Vy (V3 hp)]
   exact bP (gb (aB (i7 (aM E.p9) (ah bF) ((by rw [Wb]; show _ + 1 <= _; omega))) (aB (i7 (aM E.p9) (ah bF) ((by rw [Wb]; show _ + 2 <= _; omega))) (aB (i7 (aM E.p9) (ah bF) ((by rw [Wb]; show _ + 1 <= _; omega))) bI))) (aC rfl)) rfl
 . rw [Vx (VP hp)]
   exact bP (gb (aB (v_ E.p9.1) (aB (c_ (bq a 1 + 5) E.yf E.jf (ao (ah (cO (ah (c_ ((a, 1)) E.cy E.aV (ao (aM E.aU) (ao (ah ai) aO)) (show (0 : Int) <= 1 by omega) rfl)) (ah ai))) aO) (trivial) rfl) (aB (c_ (bq a 2 + 10) E.yf E.jf (ao (ah (cO (ah (c_ ((a, 2)) E.cy E.aV (ao (aM E.aU) (ao (ah ai) aO)) (show (0 : Int) <= 2 by omega) rfl)) (ah ai))) aO) (trivial) rfl) bI))) (aC rfl)) rfl
theorem lH : mC (aq oA) ([("script", av), ("base", av), ("_law_name", aG), ("_law_cell_at", aG)]) = true := by decide +kernel
theorem wU : aP ["script", "base"] ["script"] (aq oA) := bD
abbrev oB : Stmt := top 11
abbrev tO : Type := Int
def jR : tO -> List L3.D := fun a => [.int a]
def jS : tO -> Prop := fun a => True
def jT : tO -> T := fun a => (.sh (.int (cQ a)) : T)
structure FI (X : Cx) (CL : Str -> Addr) : Prop extends dz X where
 cu : Ln X 0 "cell"
 kT : Ln X 1 "size"
theorem FJ {X : Cx} {CL : Str -> Addr} {b : Bx} (E : FI X CL) (a) (h : jS a) :
   aH X CL b oB ["cell", "size"] (jR a) (jT a) := by
 dsimp only [aH, jS, jR, jT] at h ⊢
 refine g8 (eL (ah (aL (aM E.cu) (ah ai) (by decide))) (ah ai)).1 (fun hp => ?_) (fun hp => aD ?_)
 . refine bP (i6 (ah (aL (ah (aW (aM E.cu) (ah ai) ⟨by decide, by decide⟩)) (ah ai) (by decide))) (ah ai)) ?_
   show T.sh _ = T.sh (.int (cQ a))
   rw [cQ, Vy (V3 hp)]
 . have e : ¬ a % 2 = 0 := VP hp
   refine aN E.g E.kT (bz (aL (ah (kK (ah (aW (aM E.cu) (ah ai) ⟨by decide, by decide⟩)) (ah ai) (.inr ⟨by decide, by decide⟩))) (ah (i6 (ah (xV (ah ai) (ah ai) ⟨by decide, by decide, by decide⟩)) (ah ai))) (by decide)) (t2 := .sh (.int (a / 4 * 48271 % (10 ^ 30 - 1)))) rfl) ?_
   refine g8 (eL (ah (aL (aM E.cu) (ah ai) (by decide))) (ah ai)).1 (fun hp => ?_) (fun hp => aD ?_)
   . refine bP (v_ E.kT.1) ?_
     show T.sh _ = T.sh (.int (cQ a))
     rw [cQ, Vx e, Vy (V3 hp)]
   . refine bP (gn (aM E.kT)) ?_
     show T.sh _ = T.sh (.int (cQ a))
     rw [cQ, Vx e, Vx (VP hp)]
theorem wV : mC (aq oB) ([("cell", av), ("size", av)]) = true := by decide +kernel
theorem wW : aP ["cell", "size"] ["cell"] (aq oB) := bD
abbrev oE : Stmt := top 21
abbrev tP : Type := Int × Int × List Int
def jU : tP -> List L3.D := fun (bx, mo, bs) => [.tup [.int bx, .int mo], .lst (bs.map .int)]
def jV : tP -> Prop := fun (bx, mo, bs) => bx = -1 \/ (0 <= bx /\ bx < bs.length)
def jW : tP -> T := fun (bx, mo, bs) => (.sh (.int (kN bx mo bs)) : T)
structure FL (X : Cx) (CL : Str -> Addr) : Prop extends dz X where
 tQ : Ln X 0 "term"
 bN : Ln X 1 "boxes"
theorem FN {X : Cx} {CL : Str -> Addr} {b : Bx} (E : FL X CL) (bx mo bs) (h : jV (bx, mo, bs)) :
   aH X CL b oE ["term", "boxes"] (jU (bx, mo, bs)) (jW (bx, mo, bs)) := by
 dsimp only [aH, jV, jU, jW] at h ⊢
 refine g8 (eL (e9 (aM E.tQ) (ah ai) rfl) (ah (gn (ah ai)))).1 (fun hp => ?_) (fun hp => ?_)
 . refine bP (cF (e9 (aM E.tQ) (ah ai) rfl) rfl) ?_
   have e : bx = -1 := V3 hp
   show T.sh (.int mo) = T.sh (.int (kN bx mo bs))
   rw [kN, Vy e]
 . refine aD ?_
   have e : ¬ bx = -1 := VP hp
   refine bP (cO (aX (aM E.bN) (e9 (aM E.tQ) (ah ai) rfl) (fO (by omega) (by omega))) (e9 (aM E.tQ) (ah ai) rfl)) ?_
   show T.sh _ = T.sh (.int (kN bx mo bs))
   rw [kN, Vx e]
theorem wX : mC (aq oE) ([("term", av), ("boxes", av)]) = true := by decide +kernel
theorem wY : aP ["term", "boxes"] ["term", "boxes"] (aq oE) := bD
abbrev zj : Stmt := top 22
abbrev Cw : Type := Str × Int × Int
def oF : Cw -> List L3.D := fun (mk, i, j) => [.str mk, .int i, .int j]
def oG : Cw -> Prop := fun (mk, i, j) => True
def oH : Cw -> T := fun (mk, i, j) => (.sh (.bl (je mk i j)) : T)
structure Nx (X : Cx) (CL : Str -> Addr) : Prop extends dz X where
 yg : Ln X 0 "mark"
 kB : Ln X 1 "one"
 fD : Ln X 2 "other"
theorem Ny {X : Cx} {CL : Str -> Addr} {b : Bx} (E : Nx X CL) (mk i j) (h : oG (mk, i, j)) :
   aH X CL b zj ["mark", "one", "other"] (oF (mk, i, j)) (oH (mk, i, j)) := by
 dsimp only [aH, oG, oF, oH] at h ⊢
 refine g8 (su (aM E.yg) (ah bF)).1 (fun hp => ?_) (fun hp => aD ?_)
 . refine bP (HP (aM E.kB) (aM E.fD)).2 ?_
   show T.sh _ = T.sh (.bl (je mk i j))
   rw [je, Vy (V3 hp)]
 refine g8 (su (aM E.yg) (ah bF)).1 (fun hq => ?_) (fun hq => aD ?_)
 . refine bP (MJ (aM E.kB) (aM E.fD)).2 ?_
   show T.sh _ = T.sh (.bl (je mk i j))
   rw [je, Vx (VP hp), Vy (V3 hq)]
 refine g8 (su (aM E.yg) (ah bF)).1 (fun hr => ?_) (fun hr => aD ?_)
 . refine bP (eL (aM E.kB) (aM E.fD)).2 ?_
   show T.sh _ = T.sh (.bl (je mk i j))
   rw [je, Vx (VP hp), Vx (VP hq), Vy (V3 hr)]
 . refine bP (xW (aM E.kB) (aM E.fD)).2 ?_
   show T.sh _ = T.sh (.bl (je mk i j))
   rw [je, Vx (VP hp), Vx (VP hq), Vx (VP hr)]
theorem yh : mC (aq zj) ([("mark", av), ("one", av), ("other", av)]) = true := by decide +kernel
theorem Cy : aP ["mark", "one", "other"] ["mark", "one", "other"] (aq zj) := bD
abbrev zk : Stmt := top 23
abbrev Cz : Type := Int × List Int × Nat × List Int
def oJ : Cz -> List L3.D := fun (c, ops, m, bs) => [.int c, .lst (ops.map .int), .int m, .lst (bs.map .int)]
def lI : Cz -> Prop := fun (c, ops, m, bs) => 1 <= m /\ bs.length <= 1000
def oK : Cz -> T := fun (c, ops, m, bs) => (.sh (iU (kP ops m bs c)) : T)
structure Nz (X : Cx) (CL : Str -> Addr) : Prop extends dz X where
 cu : Ln X 0 "cell"
 bE : Ln X 1 "opens"
 dZ : Ln X 2 "many"
 bN : Ln X 3 "boxes"
 aE : Ln X 4 "mixed"
 yi : Ln X 5 "good"
 KJ : X.env.kindOf "good" = some .cell
 pW : Ln X 6 "mood"
 kB : Ln X 7 "one"
 fD : Ln X 8 "other"
 CB : Ln X 9 "side"
 KL : X.env.kindOf "side" = some .cell
 zl : Ln X 10 "right"
 FP : X.env.kindOf "right" = some .cell
 tR : Ln X 11 "marks"
 bB : Gl X "_law_mixed"
 NB : Gl X "int"
 cD : Gl X "len"
 lJ : Gl X "_law_small"
 lK : Gl X "_law_worth"
 d7 : Fc X CL "_law_mixed" 1 2 dQ dR dS
 NC : X.mg "int" = none
 cE : X.mg "len" = none
 zm : Fc X CL "_law_small" 1 1 jR jS jT
 zo : Fc X CL "_law_worth" 1 2 jU jV jW
 NF : Fc X CL "_law_due" 1 3 oF oG oH
theorem NK {X : Cx} {CL : Str -> Addr} {b : Bx} (E : Nz X CL) (c ops m bs) (h : lI (c, ops, m, bs)) :
   aH X CL b zk ["cell", "opens", "many", "boxes", "mixed", "good", "mood", "one", "other", "side", "right", "marks"] (oJ (c, ops, m, bs)) (oK (c, ops, m, bs)) := by
 dsimp only [aH, lI, oJ, oK] at h ⊢
 obtain ⟨hm, hb⟩ := h
 refine aN E.g E.aE (bz (c_ ((c, 31)) E.d7 E.bB (ao (aM E.cu) (ao (ah ai) aO)) (trivial) rfl) (t2 := .sh (.int (bQ c 31))) rfl) ?_
 refine aN E.g E.yi (bz (HQ (ah (aL (aM E.aE) (ah ai) (by decide))) (ah ai)).2 (t2 := .sh (.bl (wK c))) rfl) ?_
 show eO X CL b _ _ { nx := _, rt := fun Kn _ => Kn = T.sh (iU (kP ops m bs c)), bk := _, ct := _ }
 have c0 := sV c 31
 refine g8 (eL (ah (aL (ah (aW (aM E.aE) (ah ai) ⟨by decide, by decide⟩)) (ah ai) (by decide))) (ah ai)).1 (fun hp => ?_) (fun hp => aD ?_)
 . have hp := V3 hp
   rw [show kP ops m bs c = .As (decide (decide (bQ c 31 / 9 % (m : Int) ∈ ops) = wK c)) (bQ c 31 / 9 % (m : Int)) by unfold kP; rw [Vy hp]]
   refine aN E.g E.pW (aL (ah (aW (aM E.aE) (ah ai) ⟨by decide, by decide⟩)) (aM E.dZ) (by omega)) ?_
   have Fx : ∀ p : Bool, nO [L3.D.str "shut", .str "open"] (if p then 1 else 0) = some (.str (if p then "open" else "shut")) := fun p => by cases p <;> rfl
   exact bP (bL (aB (cF (aX (dB (gb (ds := [.str "shut", .str "open"]) (aB bF (aB bF bI)) (aC rfl))) (ah (Ez E.NC (ah (BD (ah (sH (aM E.pW) (aM E.bE) rfl rfl).2) (aM E.yi)).2) E.NB)) (Fx _)) rfl) (aB (v_ E.pW.1) bI)) (aC rfl)) rfl
 have hp := VP hp
 rw [show kP ops m bs c = .num (wL c bs) (nU c bs.length) (cQ (c / 3)) (mR c bs.length) (sZ c) by unfold kP; rw [Vx hp]]
 refine aN E.g E.kB (bz (bL (aB (i6 (ah (aL (ah (aW (aM E.aE) (ah ai) ⟨by decide, by decide⟩)) (ah (cO (ah (cB (VL ..) E.cE (aM E.bN) E.cD)) (ah ai))) (by omega))) (ah ai)) (aB (c_ (c / 3) E.zm E.lJ (ao (ah (aW (aM E.cu) (ah ai) ⟨by decide, by decide⟩)) aO) (trivial) rfl) bI)) (aC rfl)) (t2 := .sh (.tup [.int (nU c bs.length), .int (cQ (c / 3))])) rfl) ?_
 refine aN E.g E.fD (bz (bL (aB (i6 (ah (aL (ah (aW (aM E.aE) (ah ai) ⟨by decide, by decide⟩)) (ah (cO (ah (cB (VL ..) E.cE (aM E.bN) E.cD)) (ah ai))) (by omega))) (ah ai)) (aB (c_ (c / 5 + 1) E.zm E.lJ (ao (ah (cO (ah (aW (aM E.cu) (ah ai) ⟨by decide, by decide⟩)) (ah ai))) aO) (trivial) rfl) bI)) (aC rfl)) (t2 := .sh (.tup [.int (bQ c 31 / 81 % ((bs.length : Int) + 1) - 1), .int (cQ (c / 5 + 1))])) rfl) ?_
 refine rC (fun δ => δ = [some (.sh (.int c)), some (.sh (.lst (ops.map .int))), some (.sh (.int m)), some (.sh (.lst (bs.map .int))), some (.sh (.int (bQ c 31))), some (.sh (.bl (wK c))), none, some (.sh (.tup [.int (nU c bs.length), .int (cQ (c / 3))])), some (.sh (.tup [.int (mR c bs.length), .int (sZ c)])), none, none, none]) (eL (ah (aL (ah (aW (aM E.aE) (ah ai) ⟨by decide, by decide⟩)) (ah ai) (by decide))) (ah ai)).1 (fun hq => ?_) (fun hq => ?_) ?_
 . have hq := V3 hq
   rw [show mR c bs.length = nU c bs.length by unfold mR; rw [Vy hq], show sZ c = cQ (c / 3) + bQ c 31 / 2187 % 3 - 1 by unfold sZ; rw [Vy hq]]
   exact aN E.g E.fD (bL (aB (cF (e9 (aM E.kB) (ah ai) rfl) rfl) (aB (i6 (ah (cO (e9 (aM E.kB) (ah ai) rfl) (ah (aL (ah (aW (aM E.aE) (ah ai) ⟨by decide, by decide⟩)) (ah ai) (by decide))))) (ah ai)) bI)) (aC rfl)) (aD rfl)
 . have hq := VP hq
   rw [show mR c bs.length = bQ c 31 / 81 % ((bs.length : Int) + 1) - 1 by unfold mR; rw [Vx hq], show sZ c = cQ (c / 5 + 1) by unfold sZ; rw [Vx hq]]
   exact aD rfl
 rintro δ rfl
 refine aN E.g E.CB (bz (c_ ((nU c bs.length, cQ (c / 3), bs)) E.zo E.lK (ao (aM E.kB) (ao (aM E.bN) aO)) (tu c bs.length) rfl) (t2 := .sh (.int (ku c bs))) rfl) ?_
 refine aN E.g E.zl (bz (c_ ((mR c bs.length, sZ c, bs)) E.zo E.lK (ao (aM E.fD) (ao (aM E.bN) aO)) (zf c bs.length) rfl) (t2 := .sh (.int (gu c bs))) rfl) ?_
 have SK : wL c bs = (pR (wK c) (ku c bs) (gu c bs)).getD (bQ c 31 / 6561 % ((pR (wK c) (ku c bs) (gu c bs)).length : Nat)).toNat Str.empty := rfl
 rw [SK]
 generalize ku c bs = sd
 generalize gu c bs = rt
 have U5 := wJ (wK c) sd rt
 have U6 : (((kO.map L3.D.str).filter fun d => decide (je d.toS sd rt = wK c)).map fun d => T.sh d) = ((pR (wK c) sd rt).map L3.D.str).map T.sh := by
   rw [List.filter_map]
   rfl
 refine mH (p := fun d => decide (je d.toS sd rt = wK c)) (gg := fun d => T.sh d) E.g E.tR (cI (.cons E.yi.1 (.inl E.KJ) (.cons E.zl.1 (.inl E.FP) (.cons E.CB.1 (.inl E.KL) .nil))) (by decide +kernel)) (Bv (Et (ds := kO.map L3.D.str) (k7 rfl))) (.inr rfl) (fun C s0 H0 f0 b' d hd => ?Ay) (aC rfl) ?rest (by exact VF rfl) (gP ⟨_, rfl⟩)
 case Ay =>
   obtain ⟨mk, SK, rfl⟩ := Wc.mp hd
   exact ⟨(BD (ah (c_ ((mk, sd, rt)) (oh E.NF) (jy (by decide +kernel)) (ao (ah (v_ (dO (i := 0) rfl (by decide +kernel)))) (ao (ah (v_ (gq (i := 3) rfl (by decide +kernel)))) (ao (ah (v_ (gq (i := 2) rfl (by decide +kernel)))) aO))) (trivial) rfl)) (ah (v_ (gq (i := 1) rfl (by decide +kernel))))).1, fun _ => (v_ (dO (i := 0) rfl (by decide +kernel)))⟩
 case rest =>
 rw [U6]
 generalize pR (wK c) sd rt = SM at U5
 have l0 := VW (bQ c 31 / 6561) (b := (SM.length : Nat)) (by omega)
 have l1 := VM (bQ c 31 / 6561) (b := (SM.length : Nat)) (by omega)
 exact bP (bL (aB (cF (aX (vL E.tR.1) (ah (aL (ah (aW (aM E.aE) (ah ai) ⟨by decide, by decide⟩)) (ah (cB (VL ..) E.cE (vL E.tR.1) E.cD)) (by omega))) (mD Str.empty l0 l1)) rfl) (aB (v_ E.kB.1) (aB (v_ E.fD.1) bI))) (aC rfl)) rfl
theorem cH : mC (aq zk) ([("cell", av), ("opens", av), ("many", av), ("boxes", av), ("mixed", av), ("good", .cell), ("mood", av), ("one", av), ("other", av), ("side", .cell), ("right", .cell), ("marks", av), ("_law_mixed", aG), ("int", aG), ("len", aG), ("_law_small", aG), ("_law_worth", aG)]) = true := by decide +kernel
theorem CD : aP ["cell", "opens", "many", "boxes", "mixed", "good", "mood", "one", "other", "side", "right", "marks"] ["cell", "opens", "many", "boxes"] (aq zk) := bD
abbrev zq : Stmt := top 24
abbrev CF : Type := Int × List Int × Nat × List Int × List Str
def oM : CF -> List L3.D := fun (c, ops, m, bs, th) => [.int c, .lst (ops.map .int), .int m, .lst (bs.map .int), .lst (th.map .str)]
def lM : CF -> Prop := fun (c, ops, m, bs, th) => 1 <= m /\ 1 <= ops.length /\ bs.length <= 1000 /\ th.length = 3
def oN : CF -> T := fun (c, ops, m, bs, th) => (.sh (eN (Ci ops m bs th c)) : T)
structure NP (X : Cx) (CL : Str -> Addr) : Prop extends dz X where
 cu : Ln X 0 "cell"
 bE : Ln X 1 "opens"
 dZ : Ln X 2 "many"
 bN : Ln X 3 "boxes"
 fE : Ln X 4 "three"
 aE : Ln X 5 "mixed"
 qa : Ln X 6 "source"
 yj : Ln X 7 "asks"
 kQ : Ln X 8 "k"
 zu : Ln X 9 "deeds"
 qb : Ln X 10 "target"
 yk : Ln X 11 "mode"
 bB : Gl X "_law_mixed"
 cD : Gl X "len"
 b9 : Gl X "range"
 ym : Gl X "_law_ask"
 jX : Gl X "tuple"
 d7 : Fc X CL "_law_mixed" 1 2 dQ dR dS
 cE : X.mg "len" = none
 cg : X.mg "range" = none
 NQ : Fc X CL "_law_ask" 2 4 oJ lI oK
 jY : X.mg "tuple" = none
theorem NR {X : Cx} {CL : Str -> Addr} {b : Bx} (E : NP X CL) (c ops m bs th) (h : lM (c, ops, m, bs, th)) :
   aH X CL b zq ["cell", "opens", "many", "boxes", "three", "mixed", "source", "asks", "k", "deeds", "target", "mode"] (oM (c, ops, m, bs, th)) (oN (c, ops, m, bs, th)) := by
 dsimp only [aH, lM, oM, oN] at h ⊢
 obtain ⟨hm, ho, hb, h3⟩ := h
 refine aN E.g E.aE (bz (c_ ((c, 11)) E.d7 E.bB (ao (aM E.cu) (ao (ah ai) aO)) (trivial) rfl) (t2 := .sh (.int (bQ c 11))) rfl) ?_
 have c0 := sV c 11
 show eO X CL b _ _ { nx := _, rt := fun Kn _ => Kn = T.sh (eN (Ci ops m bs th c)), bk := _, ct := _ }
 have hw : eN (Ci ops m bs th c) = .tup [.int (if bQ c 11 % 2 = 0 then ops.getD (bQ c 11 / 2 % (ops.length : Nat)).toNat 0 else bQ c 11 / 2 % (m : Int)), .str (th.getD (bQ c 13 / 300 % 3).toNat Str.empty), .tup ((Av ops m bs c).map iU), .tup (Ii th (bQ c 11 / 300 % 3)), .int (if bQ c 13 % 5 = 0 then -1 else bQ c 13 / 5 % (m : Int)), .str (if bQ c 13 % 5 = 0 then "new" else (["new", "near", "far"] : List Str).getD (bQ c 13 / 100 % 3).toNat Str.empty)] := rfl
 rw [hw]
 generalize FQ : (if bQ c 11 % 2 = 0 then ops.getD (bQ c 11 / 2 % (ops.length : Nat)).toNat 0 else bQ c 11 / 2 % (m : Int)) = src
 refine aN E.g E.qa (aL (ah (aW (aM E.aE) (ah ai) ⟨by decide, by decide⟩)) (aM E.dZ) (by omega)) ?_
 have LC : (ops.map L3.D.int).length = ops.length := by simp
 have l0 := VW (bQ c 11 / 2) (b := (ops.length : Nat)) (by omega)
 have l1 := VM (bQ c 11 / 2) (b := (ops.length : Nat)) (by omega)
 refine rC (fun δ => δ = [some (.sh (.int c)), some (.sh (.lst (ops.map .int))), some (.sh (.int m)), some (.sh (.lst (bs.map .int))), some (.sh (.lst (th.map .str))), some (.sh (.int (bQ c 11))), some (.sh (.int src)), none, none, none, none, none]) (eL (ah (aL (aM E.aE) (ah ai) (by decide))) (ah ai)).1 (fun hq => ?_) (fun hq => ?_) ?_
 . rw [Vy (V3 hq)] at FQ
   rw [← FQ]
   exact aN E.g E.qa (cF (aX (aM E.bE) (ah (aL (ah (aW (aM E.aE) (ah ai) ⟨by decide, by decide⟩)) (ah (cB (LC) E.cE (aM E.bE) E.cD)) (by omega))) (fO l0 l1)) rfl) (aD rfl)
 . rw [Vx (VP hq)] at FQ
   rw [← FQ]
   exact aD rfl
 rintro δ rfl
 refine aN E.g E.yj (e7 eZ (Wi _)) ?_
 have k0 := VW (bQ c 11 / 100) (show (3 : Int) ≠ 0 by decide)
 have k1 := VM (bQ c 11 / 100) (show (0 : Int) < 3 by decide)
 refine pC E.g E.kQ (fun j δ => ∃ o8, δ = [some (.sh (.int c)), some (.sh (.lst (ops.map .int))), some (.sh (.int m)), some (.sh (.lst (bs.map .int))), some (.sh (.lst (th.map .str))), some (.sh (.int (bQ c 11))), some (.sh (.int src)), some (.lst ((((List.range j).map fun (k : Nat) => kP ops m bs (c / ((k : Int) + 1) + 17 * (k : Int))).map iU).map T.sh)), o8, none, none, none])
   (dH E.cg (ah (aL (ah (aW (aM E.aE) (ah ai) ⟨by decide, by decide⟩)) (ah ai) (by decide))) (by omega) E.b9) ⟨_, rfl⟩ (fun j δ ⟨_, e⟩ => by subst e; exact VF rfl) ?turn ?fin
 case turn =>
   rintro j d δ hj ⟨o8, rfl⟩
   obtain ⟨rfl, DN⟩ := fP hj
   have DN : j < (bQ c 11 / 100 % 3).toNat := DN
   rw [WQ]
   refine nu E.yj.1 rfl (bz (c_ ((c / ((j : Int) + 1) + 17 * (j : Int), ops, m, bs)) E.NQ E.ym (ao (ah (cO (ah (aW (aM E.cu) (ah (cO (aM E.kQ) (ah ai))) (⟨by omega, by omega⟩))) (ah (kK (ah ai) (aM E.kQ) (.inl ⟨by decide, by decide⟩))))) (ao (aM E.bE) (ao (aM E.dZ) (ao (aM E.bN) aO)))) (by dsimp only [lI]; exact (⟨hm, hb⟩)) (lz _)) (t2 := .sh (iU (kP ops m bs (c / ((j : Int) + 1) + 17 * (j : Int))))) rfl) rfl (by simp; omega) (aD ?_)
   have e1 : ((((List.range j).map fun (k : Nat) => kP ops m bs (c / ((k : Int) + 1) + 17 * (k : Int))).map iU).map T.sh) ++ [T.sh (iU (kP ops m bs (c / ((j : Int) + 1) + 17 * (j : Int))))] = ((((List.range (j + 1)).map fun (k : Nat) => kP ops m bs (c / ((k : Int) + 1) + 17 * (k : Int))).map iU).map T.sh) := by
     simp [List.range_succ]
   rw [e1]
   exact ⟨_, rfl⟩
 case fin =>
   rintro δ ⟨o8, rfl⟩
   have e0 : (bC 0 (bQ c 11 / 100 % 3).toNat).length = (bQ c 11 / 100 % 3).toNat := by simp [bC]
   rw [e0]
   rw [show ((List.range (bQ c 11 / 100 % 3).toNat).map fun (k : Nat) => kP ops m bs (c / ((k : Int) + 1) + 17 * (k : Int))) = Av ops m bs c from rfl]
   generalize Av ops m bs c = al
   have Rp : ∀ i : Nat, i < 3 -> nO (th.map L3.D.str) (i : Int) = some (.str (th.getD i Str.empty)) := fun i hi => mD Str.empty (by omega) (by omega)
   have Fx : nO [L3.D.tup [], .tup [.tup [.str "call", .str (th.getD 0 Str.empty)]], .tup [.tup [.str "say", .str (th.getD 1 Str.empty), .tup [.int (-1), .int 7]], .tup [.str "call", .str (th.getD 2 Str.empty)]]] (bQ c 11 / 300 % 3) = some (.tup (Ii th (bQ c 11 / 300 % 3))) := by
     have : bQ c 11 / 300 % 3 = 0 \/ bQ c 11 / 300 % 3 = 1 \/ bQ c 11 / 300 % 3 = 2 := by omega
     rcases this with e | e | e <;> rw [e] <;> rfl
   have Rq : (L3.D.tup (Ii th (bQ c 11 / 300 % 3))).g6 = true := by
     have : bQ c 11 / 300 % 3 = 0 \/ bQ c 11 / 300 % 3 = 1 \/ bQ c 11 / 300 % 3 = 2 := by omega
     rcases this with e | e | e <;> rw [e] <;> rfl
   refine aN E.g E.zu (cF (aX (δ1 := [some (.sh (.int c)), some (.sh (.lst (ops.map .int))), some (.sh (.int m)), some (.sh (.lst (bs.map .int))), some (.sh (.lst (th.map .str))), some (.sh (.int (bQ c 11))), some (.sh (.int src)), some (.lst ((al.map iU).map T.sh)), o8, none, none, none]) (dB (gb (ds := [L3.D.tup [], .tup [.tup [.str "call", .str (th.getD 0 Str.empty)]], .tup [.tup [.str "say", .str (th.getD 1 Str.empty), .tup [.int (-1), .int 7]], .tup [.str "call", .str (th.getD 2 Str.empty)]]])
     (lq ?d1 (lq ?d2 (lq ?d3 bI))) (aC rfl))) (ah (aL (ah (aW (aM E.aE) (ah ai) ⟨by decide, by decide⟩)) (ah ai) (by decide))) Fx) Rq) ?rest
   case d1 => exact bL bI (aC rfl)
   case d2 => exact bL (aB (bL (aB bF (aB (cF (aX (aM E.fE) (ah ai) (Rp 0 (by omega))) rfl) bI)) (aC rfl)) bI) (aC rfl)
   case d3 =>
     refine bL (lq ?d4 (lq ?d5 bI)) (aC rfl)
     case d4 => exact bL (aB bF (aB (cF (aX (aM E.fE) (ah ai) (Rp 1 (by omega))) rfl) (aB (bL (aB (gn (ah ai)) (aB ai bI)) (aC rfl)) bI))) (aC rfl)
     case d5 => exact bL (aB bF (aB (cF (aX (aM E.fE) (ah ai) (Rp 2 (by omega))) rfl) bI)) (aC rfl)
   case rest =>
   generalize Ii th (bQ c 11 / 300 % 3) = de
   refine aN E.g E.aE (bz (c_ ((c, 13)) E.d7 E.bB (ao (aM E.cu) (ao (ah ai) aO)) (trivial) rfl) (t2 := .sh (.int (bQ c 13))) rfl) ?_
   have d0 := sV c 13
   generalize bQ c 13 = q at d0 ⊢
   refine aN E.g E.qb (aL (ah (aW (aM E.aE) (ah ai) ⟨by decide, by decide⟩)) (aM E.dZ) (by omega)) ?_
   refine aN E.g E.yk (cF (aX (dB (gb (aB bF (aB bF (aB bF bI))) (aC rfl))) (ah (aL (ah (aW (aM E.aE) (ah ai) ⟨by decide, by decide⟩)) (ah ai) (by decide))) (mD (f := L3.D.str) (l := ["new", "near", "far"]) Str.empty (VW _ (by decide)) (VM _ (by decide)))) rfl) ?_
   generalize Pu : (if q % 5 = 0 then (-1 : Int) else q / 5 % (m : Int)) = tg
   generalize Pw : (if q % 5 = 0 then ("new" : Str) else (["new", "near", "far"] : List Str).getD (q / 100 % 3).toNat Str.empty) = md
   refine rC (fun δ => δ = [some (.sh (.int c)), some (.sh (.lst (ops.map .int))), some (.sh (.int m)), some (.sh (.lst (bs.map .int))), some (.sh (.lst (th.map .str))), some (.sh (.int q)), some (.sh (.int src)), some (.lst ((al.map iU).map T.sh)), o8, some (.sh (.tup de)), some (.sh (.int tg)), some (.sh (.str md))]) (eL (ah (aL (aM E.aE) (ah ai) (by decide))) (ah ai)).1 (fun hq => ?_) (fun hq => ?_) ?_
   . rw [Vy (V3 hq)] at Pu Pw
     rw [← Pu, ← Pw]
     exact aN E.g E.qb (gn (ah ai)) (aN E.g E.yk bF (aD rfl))
   . rw [Vx (VP hq)] at Pu Pw
     rw [← Pu, ← Pw]
     exact aD rfl
   rintro δ rfl
   have q0 := VW (q / 300) (show (3 : Int) ≠ 0 by decide)
   have q1 := VM (q / 300) (show (0 : Int) < 3 by decide)
   exact bP (bL (aB (v_ E.qa.1) (aB (cF (aX (aM E.fE) (ah (aL (ah (aW (aM E.aE) (ah ai) ⟨by decide, by decide⟩)) (ah ai) (by decide))) (mD Str.empty q0 (by omega))) rfl) (aB (rD E.jY (vL E.yj.1) (fQ (fun a => lz a) _) E.jX) (aB (v_ E.zu.1) (aB (v_ E.qb.1) (aB (v_ E.yk.1) bI)))))) (aC rfl)) rfl
theorem c7 : mC (aq zq) ([("cell", av), ("opens", av), ("many", av), ("boxes", av), ("three", av), ("mixed", av), ("source", av), ("asks", av), ("k", av), ("deeds", av), ("target", av), ("mode", av), ("_law_mixed", aG), ("len", aG), ("range", aG), ("_law_ask", aG), ("tuple", aG)]) = true := by decide +kernel
theorem CG : aP ["cell", "opens", "many", "boxes", "three", "mixed", "source", "asks", "k", "deeds", "target", "mode"] ["cell", "opens", "many", "boxes", "three"] (aq zq) := bD
theorem FT {α : Type} {l : List α} {k : Nat} (h : l.length <= k) : cutD l none (some (k : Int)) = l := by
 unfold cutD
 have e1 : HT.nM l.length 0 none = 0 := rfl
 have e2 : HT.nM l.length l.length (some (k : Int)) = l.length := by
   unfold HT.nM
   simp
   split <;> omega
 rw [e1, e2]
 simp
abbrev tS : Stmt := top 25
abbrev yo : Type := List Int × List Int × Nat × List Int × List Str
def lN : yo -> List L3.D := fun (s, ops, m, bs, th) => [.lst (s.map .int), .lst (ops.map .int), .int m, .lst (bs.map .int), .lst (th.map .str)]
def jg : yo -> Prop := fun (s, ops, m, bs, th) => s.length <= 63 /\ 1 <= m /\ 1 <= ops.length /\ bs.length <= 1000 /\ th.length = 3 /\ (∀ x ∈ ops, 0 <= x /\ x < m) /\ ∀ x ∈ th, PyData.strOk x = true
def lO : yo -> T := fun (s, ops, m, bs, th) => (.lst (((pT s ops m bs th).map eN).map T.sh) : T)
structure KN (X : Cx) (CL : Str -> Addr) : Prop extends dz X where
 aU : Ln X 0 "script"
 bE : Ln X 1 "opens"
 tT : X.env.kindOf "opens" = some .cell
 dZ : Ln X 2 "many"
 KP : X.env.kindOf "many" = some .cell
 bN : Ln X 3 "boxes"
 tU : X.env.kindOf "boxes" = some .cell
 fE : Ln X 4 "three"
 FU : X.env.kindOf "three" = some .cell
 dD : Ln X 5 "ways"
 CH : Gl X "sorted"
 CJ : X.mg "sorted" = none
 NS : Fc X CL "_law_way" 3 5 oM lM oN
 lam : EX X CL "#_law_ways.<locals>.<lambda>" "_law_ways.<locals>.<lambda>"
 dp : X.A.depth < recursionLimit
 rm : dg 3 X.A
theorem KQ {X : Cx} {CL : Str -> Addr} {b : Bx} (E : KN X CL) (s ops m bs th) (h : jg (s, ops, m, bs, th)) :
   aH X CL b tS ["script", "opens", "many", "boxes", "three", "ways"] (lN (s, ops, m, bs, th)) (lO (s, ops, m, bs, th)) := by
 dsimp only [aH, jg, lN, lO] at h ⊢
 obtain ⟨hs, hm, ho, hb, h3, Fj, cK⟩ := h
 have Rr : cutD (s.map L3.D.int) none (some 63) = s.map L3.D.int := FT (k := 63) (by simpa using hs)
 have zW := fun c : Int => Cj (ops := ops) (m := m) (bs := bs) (th := th) hm ho Fj cK h3 c
 refine mH (p := fun _ => true) (gg := fun d => T.sh (eN (Ci ops m bs th d.xB))) E.g E.dD (cI (.cons E.bN.1 (.inl E.tU) (.cons E.dZ.1 (.inl E.KP) (.cons E.bE.1 (.inl E.tT) (.cons E.fE.1 (.inl E.FU) .nil)))) (by decide +kernel)) (Bv (EH (bz (vX (aM E.aU) (cX _) sC (sE (ah ai))) (t2 := .lst ((s.map L3.D.int).map T.sh)) (by rw [Rr])))) (.inr rfl) (fun C s0 H0 f0 b' d hd => ?Ay) (WG (dh (by simp; omega))) ?rest (by exact VF rfl) (gP ⟨_, rfl⟩)
 case Ay =>
   obtain ⟨c, hc, rfl⟩ := Wc.mp hd
   exact ⟨rfl, fun _ => bz (c_ ((c, ops, m, bs, th)) (oh E.NS) (jy (by decide +kernel)) (ao (ah (v_ (dO (i := 0) rfl (by decide +kernel)))) (ao (ah (v_ (gq (i := 3) rfl (by decide +kernel)))) (ao (ah (v_ (gq (i := 2) rfl (by decide +kernel)))) (ao (ah (v_ (gq (i := 1) rfl (by decide +kernel)))) (ao (ah (v_ (gq (i := 4) rfl (by decide +kernel)))) aO))))) (by dsimp only [lM]; exact (⟨hm, ho, hb, h3⟩)) ((zW c).g6)) rfl⟩
 case rest =>
 have em : ((s.map L3.D.int).filter fun _ => true).map (fun d => T.sh (eN (Ci ops m bs th d.xB))) = ((s.map (Ci ops m bs th)).map eN).map T.sh := by
   rw [f9, Wu, Wu, Wu]
   rfl
 rw [em]
 refine bP (bz (x9 (y := "way") (g := fun d => d.Lw.xB) E.lam E.g E.dp E.CJ E.CH (cI .nil (by decide +kernel)) (vL E.dD.1) (g9 fun d hd => ?g6) (by simp; omega) (fun f c s0 H0 b' d hd => ?key)) ?eq) rfl
 case g6 =>
   obtain ⟨w, hw, rfl⟩ := Wc.mp hd
   obtain ⟨c, _, rfl⟩ := Wc.mp hw
   exact (zW c).g6
 case key =>
   obtain ⟨w, hw, rfl⟩ := Wc.mp hd
   exact e9 (ah (v_ (Ku (i := 0) rfl (by decide +kernel)))) (ah ai) rfl
 case eq =>
   rw [mL]
   rfl
theorem d8 : mC (aq tS) ([("script", av), ("opens", .cell), ("many", .cell), ("boxes", .cell), ("three", .cell), ("ways", av), ("sorted", aG)]) = true := by decide +kernel
theorem zv : aP ["script", "opens", "many", "boxes", "three", "ways"] ["script", "opens", "many", "boxes", "three"] (aq tS) := bD
abbrev gf : Stmt := inClass (top 4) 0
abbrev jh : Type := List Str × List Int × List Int
def kC : jh -> List L3.D := fun (ks, es, ss) => [.lst (ks.map .str), .lst (es.map .int), .lst (ss.map .int)]
def kD : jh -> Prop := fun (ks, es, ss) => True
def kE : jh -> List (Str × T) := fun (ks, es, ss) => (iT ks es ss : List (Str × T))
structure wZ (X : Cx) (CL : Str -> Addr) : Prop extends dz X where
 gy : Ln X 0 "self"
 iA : Ln X 1 "kinds"
 bJ : Ln X 2 "elders"
 gR : Ln X 3 "starts"
 d9 : Gl X "list"
 ef : X.mg "list" = none
 iE : vo X.K (CL "Tree")
 iF : aY X.K (CL "Tree") "kinds"
 gA : aY X.K (CL "Tree") "elders"
 gB : aY X.K (CL "Tree") "starts"
theorem w4 {X : Cx} {CL : Str -> Addr} {b : Bx} (E : wZ X CL) (ks : List Str) (es ss : List Int) (y : Addr) (h : True) :
   eO X CL b (dJ gf) (BK ["self", "kinds", "elders", "starts"] y "Tree" [.lst (ks.map .str), .lst (es.map .int), .lst (ss.map .int)]) { nx := fun δ => δ[0]? = some (some (.pin y (.ins "Tree" (iT ks es ss)))), rt := fun _ _ => False } := by
 have hi : D.bw (ks.map L3.D.str) = true := fQ (fun _ => rfl) _
 refine k8 E.iE E.iF E.gy.1 (cM E.ef (aM E.iA) hi E.d9 bO) rfl (VF rfl) ?_
 rw [dU]
 refine k8 E.iE E.gA E.gy.1 (cM E.ef (aM E.bJ) (cX _) E.d9 bO) rfl (VF rfl) ?_
 rw [aZ (by decide +kernel), dU]
 refine k8 E.iE E.gB E.gy.1 (cM E.ef (aM E.gR) (cX _) E.d9 bO) rfl (VF rfl) ?_
 rw [aZ (by decide +kernel), aZ (by decide +kernel), dU]
 exact aD rfl
theorem eu : mC (aq gf) ([("self", av), ("kinds", av), ("elders", av), ("starts", av), ("list", aG)]) = true := by decide +kernel
theorem lP : aP ["self", "kinds", "elders", "starts"] ["self", "kinds", "elders", "starts"] (aq gf) := bD
abbrev fF : Stmt := inClass (top 2) 0
abbrev iG : Type := List L3.D × List L3.D × V × List L3.D × List L3.D × List L3.D
def ji : iG -> List L3.D := fun (bs, nm, tv, is, os, ws) => [.lst bs, .lst nm, .val tv, .lst is, .lst os, .lst ws]
def jk : iG -> Prop := fun (bs, nm, tv, is, os, ws) => D.bw bs = true /\ D.bw nm = true /\ D.bw is = true /\ D.bw os = true /\ D.bw ws = true
def jl : iG -> List (Str × T) := fun (bs, nm, tv, is, os, ws) => (fj bs nm (.sh (.val tv)) is os ws : List (Str × T))
structure tV (X : Cx) (CL : Str -> Addr) : Prop extends dz X where
 gy : Ln X 0 "self"
 bN : Ln X 1 "boxes"
 jZ : Ln X 2 "names"
 iH : Ln X 3 "tree"
 NT : Ln X 4 "ins"
 KR : Ln X 5 "outs"
 dD : Ln X 6 "ways"
 d9 : Gl X "list"
 ef : X.mg "list" = none
 dw : vo X.K (CL "Chart")
 qK : aY X.K (CL "Chart") "boxes"
 qL : aY X.K (CL "Chart") "names"
 iI : aY X.K (CL "Chart") "tree"
 w9 : aY X.K (CL "Chart") "ins"
 tW : aY X.K (CL "Chart") "outs"
 eB : aY X.K (CL "Chart") "ways"
theorem tX {X : Cx} {CL : Str -> Addr} {b : Bx} (E : tV X CL) (bs nm : List L3.D) (tv : V) (is os ws : List L3.D) (y : Addr) (h : D.bw bs = true /\ D.bw nm = true /\ D.bw is = true /\ D.bw os = true /\ D.bw ws = true) :
   eO X CL b (dJ fF) (BK ["self", "boxes", "names", "tree", "ins", "outs", "ways"] y "Chart" [.lst bs, .lst nm, .val tv, .lst is, .lst os, .lst ws]) { nx := fun δ => δ[0]? = some (some (.pin y (.ins "Chart" (fj bs nm (.sh (.val tv)) is os ws)))), rt := fun _ _ => False } := by
 obtain ⟨h1, h2, h3, h4, h5⟩ := h
 refine k8 E.dw E.qK E.gy.1 (cM E.ef (aM E.bN) h1 E.d9 bO) rfl (VF rfl) ?_
 rw [dU]
 refine k8 E.dw E.qL E.gy.1 (cM E.ef (aM E.jZ) h2 E.d9 bO) rfl (VF rfl) ?_
 rw [aZ (by decide +kernel), dU]
 refine k8 E.dw E.iI E.gy.1 (v_ E.iH.1) rfl (VF rfl) ?_
 rw [aZ (by decide +kernel), aZ (by decide +kernel), dU]
 refine k8 E.dw E.w9 E.gy.1 (cM E.ef (aM E.NT) h3 E.d9 bO) rfl (VF rfl) ?_
 rw [aZ (by decide +kernel), aZ (by decide +kernel), aZ (by decide +kernel), dU]
 refine k8 E.dw E.tW E.gy.1 (cM E.ef (aM E.KR) h4 E.d9 bO) rfl (VF rfl) ?_
 rw [aZ (by decide +kernel), aZ (by decide +kernel), aZ (by decide +kernel), aZ (by decide +kernel), dU]
 refine k8 E.dw E.eB E.gy.1 (cM E.ef (aM E.dD) h5 E.d9 bO) rfl (VF rfl) ?_
 rw [aZ (by decide +kernel), aZ (by decide +kernel), aZ (by decide +kernel), aZ (by decide +kernel), aZ (by decide +kernel), dU]
 exact aD rfl
theorem bU : mC (aq fF) ([("self", av), ("boxes", av), ("names", av), ("tree", av), ("ins", av), ("outs", av), ("ways", av), ("list", aG)]) = true := by decide +kernel
theorem kF : aP ["self", "boxes", "names", "tree", "ins", "outs", "ways"] ["self", "boxes", "names", "tree", "ins", "outs", "ways"] (aq fF) := bD
def sI (k : Int) : Str := toString k
def LJ (k : Nat) : Str := ("mood" : Str) ++ sI (k : Int)
def lQ (n : Nat) : List Str := (List.range n).map LJ
def LK (k : Nat) : L3.D := .tup [.str (("box" : Str) ++ sI (k : Int)), .int ((k : Int) - 2)]
def mW (n : Nat) : List L3.D := (List.range n).map LK
def nV (n : Nat) : List L3.D := (List.replicate n [L3.D.tup []]).flatten
theorem mX (n : Nat) : D.bw (mW n) = true := fQ (fun _ => rfl) _
theorem gW (n : Nat) : D.bw (nV n) = true := g9 fun d hd => by
 unfold nV at hd
 obtain ⟨l, hl, hd⟩ := List.mem_flatten.mp hd
 rw [(List.mem_replicate.mp hl).2] at hd
 rw [Wf.mp hd]; rfl
theorem xg (k : Nat) (h : k <= 40) : (k : Int).natAbs.log2 < 1920 /\ (toString (k : Int) : Str).length <= 50 /\ PyData.strOk (toString (k : Int) : Str) = true := by
 have h2 : ((List.range 41).all fun k => decide ((k : Int).natAbs.log2 < 1920) && decide ((toString (k : Int) : Str).length <= 50) && PyData.strOk (toString (k : Int) : Str)) = true := by decide +kernel
 have := WU.mp h2 k (W9.mpr (by omega))
 simpa [Bool.and_eq_true, and_assoc] using this
theorem tY {bs nm is os ws : List L3.D} {t : T} (h1 : D.bw bs = true) (h2 : D.bw nm = true) (h3 : t.clean = true) (h4 : D.bw is = true) (h5 : D.bw os = true) (h6 : D.bw ws = true) : T.aQ (fj bs nm t is os ws) = true := by
 unfold fj mO mP
 rw [V7, V7, Xj, T.aQ, T.aQ, T.aQ, T.aQ, T.aQ, T.aQ, T.aQ, bf h1, bf h2, h3, bf h4, bf h5, bf h6]
 rfl
abbrev oO : Stmt := top 26
abbrev tZ : Type := List Str × List Int × List Int × List Int × List Int × List L3.D
def j3 : tZ -> List L3.D := fun (ks, es, ss, oo, bs, ws) => [rO ks es ss oo, .lst (bs.map .int), .lst ws]
def gX : tZ -> Prop := fun (ks, es, ss, oo, bs, ws) => es.length <= 40 /\ bs.length <= 40 /\ D.bw ws = true
def j4 : tZ -> T := fun (ks, es, ss, oo, bs, ws) => (.ins "Chart" (fj (mW bs.length) ((lQ es.length).map .str) (.ins "Tree" (iT ks es ss)) (nV es.length) (nV es.length) ws) : T)
structure FW (X : Cx) (CL : Str -> Addr) : Prop extends dz X where
 bM : Ln X 0 "lists"
 bN : Ln X 1 "boxes"
 dD : Ln X 2 "ways"
 zx : Ln X 3 "named"
 jZ : Ln X 4 "names"
 iH : Ln X 5 "tree"
 b9 : Gl X "range"
 cD : Gl X "len"
 KS : Gl X "Tree"
 d9 : Gl X "list"
 FY : Gl X "Chart"
 cg : X.mg "range" = none
 cE : X.mg "len" = none
 KW : Fm X CL "Tree" 1 4 kC kD kE
 ef : X.mg "list" = none
 FZ : Fm X CL "Chart" 1 7 ji jk jl
 Ij : X.mg "str" = none
theorem F0 {X : Cx} {CL : Str -> Addr} {b : Bx} (E : FW X CL) (ks es ss oo bs ws) (h : gX (ks, es, ss, oo, bs, ws)) :
   aH X CL b oO ["lists", "boxes", "ways", "named", "names", "tree"] (j3 (ks, es, ss, oo, bs, ws)) (j4 (ks, es, ss, oo, bs, ws)) := by
 dsimp only [aH, gX, j3, j4] at h ⊢
 obtain ⟨hl, hb, iw⟩ := h
 refine mH (p := fun _ => true) (gg := fun d => T.sh (LK d.xB.toNat)) E.g E.zx (cI .nil (by decide +kernel)) (dH E.cg (ah (cB (VL ..) E.cE (aM E.bN) E.cD)) (by omega) E.b9) (.inr rfl) (fun C s0 H0 f0 b' d hd => ?Rt) (WG (dh (by simp [bC]; omega))) ?NV (by exact VF rfl) (gP ⟨_, rfl⟩)
 case Rt =>
   obtain ⟨i, hi, rfl⟩ := Wc.mp hd
   have DK : i < bs.length := by simpa using hi
   obtain ⟨q1, q2, _⟩ := xg i (by omega)
   have ei : (0 + (i : Int)) = (i : Int) := WQ _
   have et : (L3.D.int (0 + (i : Int))).xB.toNat = i := by show (0 + (i : Int)).toNat = i; omega
   refine ⟨rfl, fun _ => bz (bL (aB (i7 (ah bF) (ah (yS E.Ij (jy (by decide +kernel)) (ah (v_ (dO (i := 0) rfl (by decide +kernel)))) ((by rw [ei]; exact q1)))) ((by rw [ei, Wb]; show 3 + (toString (i : Int) : Str).length <= _; omega))) (aB (i6 (ah (v_ (dO (i := 0) rfl (by decide +kernel)))) (ah ai)) bI)) (aC rfl)) ?_⟩
   show T.sh _ = T.sh (LK (L3.D.int (0 + (i : Int))).xB.toNat)
   rw [et]
   unfold LK
   rw [ei]
   rfl
 case NV =>
 have U7 : ((bC 0 (bs.length : Int).toNat).filter fun _ => true).map (fun d => T.sh (LK d.xB.toNat)) = (mW bs.length).map T.sh := by
   rw [f9]
   unfold bC mW
   rw [Wu, Wu, Ww]
   refine List.map_congr_left fun k _ => ?_
   show T.sh (LK (0 + (k : Int)).toNat) = _
   rw [show (0 + (k : Int)).toNat = k by omega]
   rfl
 rw [U7]
 refine mH (p := fun _ => true) (gg := fun d => T.sh (.str (LJ d.xB.toNat))) E.g E.jZ (cI .nil (by decide +kernel)) (dH E.cg (ah (cB (VL ..) E.cE (aX (aM E.bM) (ah ai) rfl) E.cD)) (by omega) E.b9) (.inr rfl) (fun C s0 H0 f0 b' d hd => ?Ay) (WG (dh (by simp [bC]; omega))) ?rest (by exact VF rfl) (gP ⟨_, rfl⟩)
 case Ay =>
   obtain ⟨i, hi, rfl⟩ := Wc.mp hd
   have DK : i < es.length := by simpa using hi
   obtain ⟨q1, q2, _⟩ := xg i (by omega)
   have ei : (0 + (i : Int)) = (i : Int) := WQ _
   have et : (L3.D.int (0 + (i : Int))).xB.toNat = i := by show (0 + (i : Int)).toNat = i; omega
   refine ⟨rfl, fun _ => bz (i7 (ah bF) (ah (yS E.Ij (jy (by decide +kernel)) (ah (v_ (dO (i := 0) rfl (by decide +kernel)))) ((by rw [ei]; exact q1)))) ((by rw [ei, Wb]; show 4 + (toString (i : Int) : Str).length <= _; omega))) ?_⟩
   show T.sh _ = T.sh (.str (LJ (L3.D.int (0 + (i : Int))).xB.toNat))
   rw [et]
   unfold LJ
   rw [ei]
   rfl
 case rest =>
 have em : ((bC 0 (es.length : Int).toNat).filter fun _ => true).map (fun d => T.sh (.str (LJ d.xB.toNat))) = ((lQ es.length).map L3.D.str).map T.sh := by
   rw [f9]
   unfold bC lQ
   rw [Wu, Wu, Wu, Ww]
   refine List.map_congr_left fun k _ => ?_
   show T.sh (.str (LJ (0 + (k : Int)).toNat)) = _
   rw [show (0 + (k : Int)).toNat = k by omega]
   rfl
 rw [em]
 refine aN E.g E.iH (bz (Ue (ks, es, ss) E.KW E.KS (ao (dB (cM E.ef (aX (aM E.bM) (ah ai) rfl) (jb _) E.d9 bO)) (ao (dB (cM E.ef (aX (aM E.bM) (ah ai) rfl) (cX _) E.d9 bO)) (ao (dB (cM E.ef (aX (aM E.bM) (ah ai) rfl) (cX _) E.d9 bO)) aO))) trivial (nE ks es ss)) (t2 := .ins "Tree" (iT ks es ss)) rfl) ?_
 have LD : ((lQ es.length).map L3.D.str).length = es.length := by simp [lQ]
 have SN : ∀ n : Nat, (List.replicate ((n : Int).toNat) [L3.D.tup []]).flatten = nV n := fun n => by rw [Ww]; rfl
 exact bP (Uz (f := "tree") (v8 := mO (mW bs.length) ((lQ es.length).map .str)) (AW := mP (nV es.length) (nV es.length) ws) (fun v => (mW bs.length, (lQ es.length).map .str, v, nV es.length, nV es.length, ws)) E.FZ E.FY
   (v9 (vL E.zx.1) (v9 (vL E.jZ.1)
     (BW (vM E.iH.1)
       (ao (dB (bz (yU (ds := [.tup []]) (dB (ds := [.tup []]) (e7 (fB (bL bI (aC rfl)) eZ) (aC rfl))) (ah (cB LD E.cE (vL E.jZ.1) E.cD)) rfl (by omega) (by omega) (by rw [Ww, Wb]; show 1 * es.length <= _; omega)) (t2 := .lst ((nV es.length).map T.sh)) (by rw [SN])))
       (ao (dB (bz (yU (ds := [.tup []]) (dB (ds := [.tup []]) (e7 (fB (bL bI (aC rfl)) eZ) (aC rfl))) (ah (cB LD E.cE (vL E.jZ.1) E.cD)) rfl (by omega) (by omega) (by rw [Ww, Wb]; show 1 * es.length <= _; omega)) (t2 := .lst ((nV es.length).map T.sh)) (by rw [SN])))
       (ao (dB (cM E.ef (aM E.dD) iw E.d9 bO)) aO))))))
   (fun v => rfl) (fun v => ⟨mX _, jb _, gW _, gW _, iw⟩) (fun v => rfl) (sR (mX _) (jb _)) (sS (gW _) (gW _) iw)) rfl
theorem c9 : mC (aq oO) ([("lists", av), ("boxes", av), ("ways", av), ("named", av), ("names", av), ("tree", av), ("range", aG), ("len", aG), ("Tree", aG), ("list", aG), ("Chart", aG)]) = true := by decide +kernel
theorem xh : aP ["lists", "boxes", "ways", "named", "names", "tree"] ["lists", "boxes", "ways"] (aq oO) := bD
def qM (l : List L3.D) : List L3.D := l.filter fun d => !decide (d.Lw.toS ∈ (["open", "shut"] : List Str))
abbrev eT : Stmt := top 6
abbrev gC : Type := List L3.D × List L3.D × L3.D × List L3.D × List L3.D × List nR × Nat × nR
def dM : gC -> List L3.D := fun (bs, nm, tr, is, os, ws, k, w) => [sQ bs nm tr is os (ws.map eN), .int k]
def cN : gC -> Prop := fun (bs, nm, tr, is, os, ws, k, w) => ws[k]? = some w /\ w.asks.length <= 1000 /\ D.bw w.asks = true /\ ∀ d ∈ w.asks, ∃ x r, d = .tup (.str x :: r)
def dN : gC -> T := fun (bs, nm, tr, is, os, ws, k, w) => (.sh (.tup (qM w.asks)) : T)
structure qN (X : Cx) (CL : Str -> Addr) : Prop extends dz X where
 eU : Ln X 0 "chart"
 CK : Ln X 1 "way"
 jX : Gl X "tuple"
 KY : Gl X "ASKS"
 jY : X.mg "tuple" = none
 KZ : ∃ u, X.mg "ASKS" = some (.int 2 u)
 dw : vo X.K (CL "Chart")
 eB : aY X.K (CL "Chart") "ways"
theorem qO {X : Cx} {CL : Str -> Addr} {b : Bx} (E : qN X CL) (bs nm tr is os ws k w) (h : cN (bs, nm, tr, is, os, ws, k, w)) :
   aH X CL b eT ["chart", "way"] (dM (bs, nm, tr, is, os, ws, k, w)) (dN (bs, nm, tr, is, os, ws, k, w)) := by
 dsimp only [aH, cN, dM, dN] at h ⊢
 obtain ⟨hk, hl, hi, ha⟩ := h
 have Fx : nO (ws.map eN) (k : Int) = some (eN w) := fZ (by rw [Wn, hk]; rfl)
 refine bP (rD E.jY (Ex (bz (yV (p := fun d => !decide (d.Lw.toS ∈ (["open", "shut"] : List Str))) (g := fun d => T.sh d) (cI .nil (by decide +kernel)) E.g.calm (Bw (JN (JQ (BJ E.dw E.eB (v_ E.eU.1) pO) (aM E.CK) Fx) (ah (BG E.KZ E.KY)) rfl)) (.inr rfl) (fun C s0 H0 f0 b' d hd => ?Ay) (WG (dh hl))) (t2 := .lst ((qM w.asks).map T.sh)) rfl) rfl) (g9 fun d hd => k6 hi d (WX.mp hd).1) E.jX) rfl
 case Ay =>
   obtain ⟨x, r, rfl⟩ := ha d hd
   exact ⟨(EG (x := x) (l := ["open", "shut"]) (e9 (ah (v_ (dO (i := 0) rfl (by decide +kernel)))) (ah ai) (fZ (j := 0) rfl)) (ah (bL (aB bF (aB bF bI)) (aC rfl))) rfl rfl).1, fun _ => v_ (dO (i := 0) rfl (by decide +kernel))⟩
theorem eF : mC (aq eT) ([("chart", av), ("way", av), ("tuple", aG), ("ASKS", aG)]) = true := by decide +kernel
theorem jm : aP ["chart", "way"] ["chart", "way"] (aq eT) := bD
abbrev lR : Stmt := top 27
abbrev qc : Type := List L3.D × List L3.D × List Str × List Int × List Int × List Int × List L3.D × List L3.D × List L3.D
def iJ : qc -> List L3.D := fun (bs, nm, ks, es, ss, oo, is, os, ws) => [sQ bs nm (yX ks es ss) is os ws, rO ks es ss oo, .lst ws]
def fV : qc -> Prop := fun (bs, nm, ks, es, ss, oo, is, os, ws) => (∀ x ∈ ks, PyData.strOk x = true) /\ fX 60 (.lst ws)
def iK : qc -> T := fun (bs, nm, ks, es, ss, oo, is, os, ws) => (.sh (.bl true) : T)
structure CM (X : Cx) (CL : Str -> Addr) : Prop extends dz X where
 eU : Ln X 0 "chart"
 bM : Ln X 1 "lists"
 dD : Ln X 2 "ways"
 iH : Ln X 3 "tree"
 dw : vo X.K (CL "Chart")
 iE : vo X.K (CL "Tree")
 iI : aY X.K (CL "Chart") "tree"
 eB : aY X.K (CL "Chart") "ways"
 iF : aY X.K (CL "Tree") "kinds"
 gA : aY X.K (CL "Tree") "elders"
 gB : aY X.K (CL "Tree") "starts"
theorem CN {X : Cx} {CL : Str -> Addr} {b : Bx} (E : CM X CL) (bs nm ks es ss oo is os ws) (h : fV (bs, nm, ks, es, ss, oo, is, os, ws)) :
   aH X CL b lR ["chart", "lists", "ways", "tree"] (iJ (bs, nm, ks, es, ss, oo, is, os, ws)) (iK (bs, nm, ks, es, ss, oo, is, os, ws)) := by
 dsimp only [aH, fV, iJ, iK] at h ⊢
 obtain ⟨hk, hw⟩ := h
 refine aN E.g E.iH (BJ E.dw E.iI (v_ E.eU.1) yc) ?_
 have e1 : ∀ l : List Int, Ab (.lst (l.map L3.D.int)) (.lst (l.map L3.D.int)) = true := fun l => ja (eY l)
 refine g8 (El (yP (pD E.u (sF E.iE E.iF (aM E.iH) yb) (aX (aM E.bM) (ah ai) rfl) (Kl 59 hk) (Kl 59 hk)).1 (fun hb => (yP (pD E.u (sF E.iE E.gA (aM E.iH) wF) (aX (aM E.bM) (ah ai) rfl) (eY _) (eY _)).1 (fun Vv => (xX (pD E.u (sF E.iE E.gB (aM E.iH) wG) (aX (aM E.bM) (ah ai) rfl) (eY _) (eY _)).1)))))) (fun hp => ?_) (fun _ => aD ?_)
 . rw [ja (Kl 59 hk), e1, e1] at hp
   cases hp
 . refine bP (J4 E.u (sF E.dw E.eB (aM E.eU) pO) (aM E.dD) hw hw).2 ?_
   rw [ja hw]
theorem j5 : mC (aq lR) ([("chart", av), ("lists", av), ("ways", av), ("tree", av)]) = true := by decide +kernel
theorem rT : aP ["chart", "lists", "ways", "tree"] ["chart", "lists", "ways"] (aq lR) := bD
def NW (l : List L3.D) : List L3.D := l.filter fun d => decide (d.Lw.toS ∈ kO)
theorem Az {m : Nat} {bs : List Int} {l : List pQ} (h : ∀ a ∈ l, a.Ok m bs) : NW (l.map iU) = qM (l.map iU) := by
 refine List.filter_congr fun d hd => ?_
 obtain ⟨a, ha, rfl⟩ := Wc.mp hd
 have hk := h a ha
 cases a with
 | As op m =>
   show decide ((if op = true then ("open" : Str) else "shut") ∈ kO) = !decide ((if op = true then ("open" : Str) else "shut") ∈ (["open", "shut"] : List Str))
   cases op <;> decide +kernel
 | num mk b1 m1 b2 m2 =>
   have hm := hk.1
   show decide (mk ∈ kO) = !decide (mk ∈ (["open", "shut"] : List Str))
   rw [Xl hm]
   have : ∀ x ∈ kO, decide (x ∈ (["open", "shut"] : List Str)) = false := by decide +kernel
   rw [this mk hm]
   rfl
theorem CP (a : pQ) : ∃ x r, iU a = .tup (.str x :: r) := by cases a <;> exact ⟨_, _, rfl⟩
theorem AA {m : Nat} {bs : List Int} {l : List pQ} (h : ∀ a ∈ l, a.Ok m bs) {d : L3.D} (hd : d ∈ qM (l.map iU)) : fX 60 d /\ MQ d = some "tuple" := by
 obtain ⟨a, ha, rfl⟩ := Wc.mp (WX.mp hd).1
 exact ⟨wI (n := 58) (h a ha), by cases a <;> rfl⟩
abbrev zy : Stmt := top 28
abbrev CQ : Type := List Int
def j6 : CQ -> List L3.D := fun a => [.lst (a.map .int)]
def j7 : CQ -> Prop := fun a => a.length <= 63
def j8 : CQ -> T := fun a => (.sh (.bl true) : T)
structure NX (X : Cx) (CL : Str -> Addr) : Prop extends dz X where
 aU : Ln X 0 "script"
 bM : Ln X 1 "lists"
 bE : Ln X 2 "opens"
 bN : Ln X 3 "boxes"
 fE : Ln X 4 "three"
 dD : Ln X 5 "ways"
 eU : Ln X 6 "chart"
 kQ : Ln X 7 "k"
 rV : Ln X 8 "due"
 fC : Ln X 9 "found"
 qI : Ln X 10 "at"
 t6 : Gl X "_law_lists"
 t7 : Gl X "_law_opens"
 t8 : Gl X "_law_boxes"
 t9 : Gl X "_law_signs"
 xj : Gl X "_law_ways"
 cD : Gl X "len"
 ua : Gl X "_law_chart"
 b9 : Gl X "range"
 gD : Gl X "number_asks"
 lS : Gl X "isinstance"
 jX : Gl X "tuple"
 qP : Gl X "_law_stayed"
 F2 : Fc X CL "_law_lists" 3 1 jF jG jH
 F3 : Fc X CL "_law_opens" 1 1 jI gS jJ
 F4 : Fc X CL "_law_boxes" 2 1 jK jL jM
 F5 : Fc X CL "_law_signs" 2 1 jO jP jQ
 mY : Fc X CL "_law_ways" 4 5 lN jg lO
 cE : X.mg "len" = none
 F6 : Fc X CL "_law_chart" 3 3 j3 gX j4
 cg : X.mg "range" = none
 qQ : Fc X CL "number_asks" 1 2 dM cN dN
 lT : X.mg "isinstance" = none
 jY : X.mg "tuple" = none
 CT : Fc X CL "_law_stayed" 1 3 iJ fV iK
theorem NZ {X : Cx} {CL : Str -> Addr} {b : Bx} (E : NX X CL) (a) (h : j7 a) :
   aH X CL b zy ["script", "lists", "opens", "boxes", "three", "ways", "chart", "k", "due", "found", "at"] (j6 a) (j8 a) := by
 dsimp only [aH, j7, j6, j8] at h ⊢
 have hs : a.length <= 1000 := by omega
 refine aN E.g E.bM (bz (c_ a E.F2 E.t6 (ao (aM E.aU) aO) hs (by
   show T.clean (nG _ _ _ _) = true
   unfold nG
   rw [fJ, T.cV, T.cV, T.cV, T.cV, T.cV, bf (jb _), bf (cX _), bf (cX _), bf (cX _)]
   rfl)) (t2 := nG (nT a (fY a) (fY a).length) (fY a) (pP a (fY a) (fY a).length) (mQ a (fY a) (fY a).length)) rfl) ?_
 obtain ⟨n1, n2, oX⟩ := za a
 generalize fY a = es at n1 n2 oX ⊢
 have SQ : ∀ x ∈ nT a es es.length, PyData.strOk x = true := fun x hx => by
   obtain ⟨k, _, rfl⟩ := Wc.mp hx
   exact Kx _ _ _
 have N1 : (mQ a es es.length).length = es.length := by simp [mQ]
 generalize nT a es es.length = ks at SQ ⊢
 generalize pP a es es.length = ss
 generalize mQ a es es.length = oo at N1 ⊢
 have Px := Ce ks es ss oo
 refine aN E.g E.bE (bz (c_ (ks, es, ss, oo) E.F3 E.t7 (ao (vE E.bM.1 rfl Px) aO) (by dsimp only [gS]; exact ⟨n1, by omega, N1, oX.1⟩) (fS _)) (t2 := .lst (((rP es oo (es.length - 1)).map .int).map T.sh)) rfl) ?_
 have LC := (sY (es := es) (os := oo) (es.length - 1)).1
 have Fj : ∀ x ∈ rP es oo (es.length - 1), 0 <= x /\ x < es.length := fun x hx => by
   have := oj _ hx
   omega
 generalize rP es oo (es.length - 1) = ops at LC Fj ⊢
 refine aN E.g E.bN (bz (c_ (a) E.F4 E.t8 (ao (aM E.aU) aO) (hs) (fS _)) (t2 := .lst (((Lz a).map .int).map T.sh)) rfl) ?_
 have Pp := Fd a
 generalize Lz a = bs at Pp ⊢
 refine aN E.g E.fE (bz (c_ (a) E.F5 E.t9 (ao (aM E.aU) aO) (hs) (pM _)) (t2 := .lst (((Fe a).map .str).map T.sh)) rfl) ?_
 have h3 := Ff a
 have cK := Ky a
 generalize Fe a = th at h3 cK ⊢
 obtain ⟨wl, wo⟩ := Ck (s := a) (bs := bs) n1 LC Fj cK h3
 have LN : lA es.length bs (pT a ops es.length bs th) := ⟨by omega, wo⟩
 refine aN E.g E.dD (bz (c_ (a, ops, es.length, bs, th) E.mY E.xj (ao (aM E.aU) (ao (vL E.bE.1) (ao (ah (cB (List.length_map ..) E.cE (aX (vE E.bM.1 rfl Px) (ah ai) rfl) E.cD)) (ao (vL E.bN.1) (ao (vL E.fE.1) aO))))) (by dsimp only [jg]; exact ⟨h, n1, LC, by omega, h3, Fj, cK⟩) (by exact bf LN.bw)) (t2 := .lst (((pT a ops es.length bs th).map eN).map T.sh)) rfl) ?_
 generalize pT a ops es.length bs th = ws at LN ⊢
 have iw := LN.bw
 refine aN E.g E.eU (bz (c_ (ks, es, ss, oo, bs, ws.map eN) E.F6 E.ua (ao (vE E.bM.1 rfl Px) (ao (vL E.bN.1) (ao (vL E.dD.1) aO))) (by dsimp only [gX]; exact ⟨by omega, by omega, iw⟩) (by
   show T.aQ (fj _ _ _ _ _ _) = true
   exact tY (mX _) (jb _) (nE ks es ss) (gW _) (gW _) iw)) (t2 := .ins "Chart" (fj (mW bs.length) ((lQ es.length).map .str) (.ins "Tree" (iT ks es ss)) (nV es.length) (nV es.length) (ws.map eN))) rfl) ?_
 have SR : T.cT (.ins "Chart" (fj (mW bs.length) ((lQ es.length).map .str) (.ins "Tree" (iT ks es ss)) (nV es.length) (nV es.length) (ws.map eN))) = sQ (mW bs.length) ((lQ es.length).map .str) (yX ks es ss) (nV es.length) (nV es.length) (ws.map eN) := by
   rw [yd, An]
 have MA : (ws.map eN).length = ws.length := by simp
 refine pC E.g E.kQ (fun j δ => ∃ o7 o8 o9 K0, δ = [some (.sh (.lst (a.map .int))), some (nG ks es ss oo), some (.lst ((ops.map .int).map T.sh)), some (.lst ((bs.map .int).map T.sh)), some (.lst ((th.map .str).map T.sh)), some (.lst ((ws.map eN).map T.sh)), some (.ins "Chart" (fj (mW bs.length) ((lQ es.length).map .str) (.ins "Tree" (iT ks es ss)) (nV es.length) (nV es.length) (ws.map eN))), o7, o8, o9, K0])
   (dH E.cg (ah (cB MA E.cE (vL E.dD.1) E.cD)) (by have := LN.1; omega) E.b9) ⟨_, _, _, _, rfl⟩ (fun j δ ⟨_, _, _, _, e⟩ => by subst e; exact VF rfl) ?turn ?fin
 case turn =>
   rintro j d δ hj ⟨o7, o8, o9, K0, rfl⟩
   obtain ⟨rfl, DN⟩ := fP hj
   have DN : j < ws.length := by simpa using DN
   rw [WQ]
   obtain ⟨w, hw⟩ : ∃ w, ws[j]? = some w := ⟨_, V2 DN⟩
   have U8 := LN.2 w (Wr hw)
   obtain ⟨al, EW, zW, SV⟩ := U8.asks
   have Fx : nO (ws.map eN) (j : Int) = some (eN w) := fZ (by rw [Wn, hw]; rfl)
   have Ru : D.bw w.asks = true := by rw [EW]; exact fQ (fun a => lz a) _
   have Pr : ∀ d ∈ w.asks, ∃ x r, d = .tup (.str x :: r) := fun d hd => by
     rw [EW] at hd
     obtain ⟨q, _, rfl⟩ := Wc.mp hd
     exact CP q
   have SG : w.asks.length <= 2 := by rw [EW, VL]; exact zW
   refine mH (p := fun d => decide (d.Lw.toS ∈ kO)) (gg := fun d => T.sh d) E.g E.rV (cI .nil (by decide +kernel)) (Bw (cF (e9 (aX (vL E.dD.1) (aM E.kQ) Fx) (ah ai) rfl) (show D.bw w.asks = true from Ru))) (.inr rfl) (fun C s0 H0 f0 b' d hd => ?Ay) (WG (dh (by omega))) ?rest (by exact VF rfl) (gP ⟨_, rfl⟩)
   case Ay =>
     obtain ⟨x, r, rfl⟩ := Pr d hd
     exact ⟨(EF (x := x) (l := kO) (e9 (ah (v_ (dO (i := 0) rfl (by decide +kernel)))) (ah ai) (fZ (j := 0) rfl)) (ah (bL (k7 rfl) (aC rfl))) rfl rfl).1, fun _ => v_ (dO (i := 0) rfl (by decide +kernel))⟩
   case rest =>
   have Rw : (w.asks.filter fun d => decide (d.Lw.toS ∈ kO)).map (fun d => T.sh d) = (qM w.asks).map T.sh := by
     rw [EW, ← Az SV]
     rfl
   rw [Rw]
   refine aN E.g E.fC (bz (c_ (mW bs.length, (lQ es.length).map .str, yX ks es ss, nV es.length, nV es.length, ws, j, w) E.qQ E.gD (ao (vE E.eU.1 rfl SR) (ao (aM E.kQ) aO)) (by dsimp only [cN]; exact ⟨hw, by omega, Ru, Pr⟩) (show T.clean (.sh (.tup (qM w.asks))) = true from (g9 fun d hd => k6 Ru d (List.mem_filter.mp hd).1))) (t2 := .sh (.tup (qM w.asks))) rfl) ?_
   have SW : ∀ {d : L3.D}, d ∈ qM w.asks -> fX 60 d /\ MQ d = some "tuple" := fun hd => by
     rw [EW] at hd
     exact AA SV hd
   have LD : (qM w.asks).length <= 2 := Wk (List.length_filter_le _ _) SG
   generalize qM w.asks = na at SW LD ⊢
   refine g8 (El (yP (Br (HS (R0 E.lT E.jY E.lS E.jX (aM E.fC)))) (fun _ => (xX (xW (ah (En E.cE (aM E.fC) E.cD)) (ah (n9 E.cE (vL E.rV.1) E.cD))).1)))) (fun hp => ?_) (fun _ => aD ?_)
   . exact absurd hp (by simp)
   refine pC E.g E.qI (fun i δ => ∃ K0, δ = [some (.sh (.lst (a.map .int))), some (nG ks es ss oo), some (.lst ((ops.map .int).map T.sh)), some (.lst ((bs.map .int).map T.sh)), some (.lst ((th.map .str).map T.sh)), some (.lst ((ws.map eN).map T.sh)), some (.ins "Chart" (fj (mW bs.length) ((lQ es.length).map .str) (.ins "Tree" (iT ks es ss)) (nV es.length) (nV es.length) (ws.map eN))), some (.sh (.int j)), some (.lst (na.map T.sh)), some (.sh (.tup na)), K0])
     (dH E.cg (ah (n9 E.cE (vL E.rV.1) E.cD)) (by omega) E.b9) ⟨_, rfl⟩ (fun j δ ⟨_, e⟩ => by subst e; exact VF rfl) ?N2 ?fin2
   case N2 =>
     rintro i d δ hi ⟨K0, rfl⟩
     obtain ⟨rfl, Rx⟩ := fP hi
     have Rx : i < na.length := by simpa using Rx
     rw [WQ]
     obtain ⟨q, hq⟩ : ∃ q, na[i]? = some q := ⟨_, V2 Rx⟩
     obtain ⟨Ry, hd2⟩ := SW (Wr hq)
     have Rz : nO na (i : Int) = some q := fZ hq
     refine g8 (El (yP (Br (HS (R0 E.lT E.jY E.lS E.jX (e9 (aM E.fC) (aM E.qI) Rz) hd2))) (fun _ => (xX (pD E.u (e9 (aM E.fC) (aM E.qI) Rz) (aX (vL E.rV.1) (aM E.qI) Rz) Ry Ry).1)))) (fun hp => ?_) (fun _ => aD (aD ⟨_, rfl⟩))
     rw [ja Ry] at hp
     exact absurd hp (by simp)
   case fin2 =>
     rintro δ ⟨K0, rfl⟩
     exact aD ⟨_, _, _, _, rfl⟩
 case fin =>
   rintro δ ⟨o7, o8, o9, K0, rfl⟩
   exact bP (c_ (mW bs.length, (lQ es.length).map .str, ks, es, ss, oo, nV es.length, nV es.length, ws.map eN) E.CT E.qP (ao (vE E.eU.1 rfl SR) (ao (vE E.bM.1 rfl Px) (ao (vL E.dD.1) aO))) (by dsimp only [fV]; exact ⟨SQ, LN.dep 47⟩) rfl) rfl
theorem b8 : mC (aq zy) ([("script", av), ("lists", av), ("opens", av), ("boxes", av), ("three", av), ("ways", av), ("chart", av), ("k", av), ("due", av), ("found", av), ("at", av), ("_law_lists", aG), ("_law_opens", aG), ("_law_boxes", aG), ("_law_signs", aG), ("_law_ways", aG), ("len", aG), ("_law_chart", aG), ("range", aG), ("number_asks", aG), ("isinstance", aG), ("tuple", aG), ("_law_stayed", aG)]) = true := by decide +kernel
theorem CV : aP ["script", "lists", "opens", "boxes", "three", "ways", "chart", "k", "due", "found", "at"] ["script"] (aq zy) := bD
def cl (aj ak aF : Addr) : Str -> Addr := fun c => if c = "Chart" then aj else if c = "Tree" then ak else if c = "#_law_ways.<locals>.<lambda>" then aF else 0
theorem rW {aj ak aF : Addr} : cl aj ak aF "#_law_ways.<locals>.<lambda>" = aF := by unfold cl; rw [Vx (by decide +kernel)]; rw [Vx (by decide +kernel)]; rw [Vy rfl]
theorem eG {aj ak aF : Addr} : cl aj ak aF "Chart" = aj := by unfold cl; rw [Vy rfl]
theorem j9 {aj ak aF : Addr} : cl aj ak aF "Tree" = ak := by unfold cl; rw [Vx (by decide +kernel)]; rw [Vy rfl]
theorem F7 {aj ak aF : Addr} {x : Str} (h : vQ x = true) (h0 : cl aj ak aF x ≠ 0) : (cl aj ak aF x, zZ x) ∈ ([(aF, "_law_ways.<locals>.<lambda>")] : List (Addr × Str)) := by
 unfold cl at h0 ⊢
 rw [Vx (fun e => by rw [e] at h; exact absurd h (by decide +kernel))] at h0 ⊢
 rw [Vx (fun e => by rw [e] at h; exact absurd h (by decide +kernel))] at h0 ⊢
 by_cases yp : x = "#_law_ways.<locals>.<lambda>"
 . rw [Vy yp, yp, show zZ ("#_law_ways.<locals>.<lambda>" : Str) = "_law_ways.<locals>.<lambda>" by decide +kernel]; simp
 rw [Vx yp] at h0 ⊢
 exact absurd rfl h0
theorem all_mk {l : PySem.W.OpenLaw} {w : World} {K : PySem.W.Frag} {h : Heap} {mg : Str -> Option Value} {T0 : List Addr} {fa uc mZ ud qd uf ug qe uh yq um uo uq CW CY CZ yr gi fG ur gE qf Ik aj ak aF : Addr} (XX : K.In h) (G : h.Ns mainGlobals mg) (U9 : mg "law" = some (.ref fa))
   {F8 AF F9 C1 Ga Gb C2 Gd K1 Ge Gf Gg N3 N4 N5 C3 xm uv Gh gD C4 Il : FuncData}
   (uw : PySem.W.nsIn K mainGlobals "Chart" = some (some (.ref aj))) (qg : PySem.W.plainGet K aj Str.empty = true) (qh : PySem.W.hasDictIn K aj = true) (qi : PySem.W.plainOver K aj = true) (qj : PySem.W.findIn K (.ref aj) "__setattr__" = some (some (.builtin "object.__setattr__"))) (qk : PySem.W.makesIn K aj = true) (ql : PySem.W.keepIn K (.ref aj) = true)
   (gF : PySem.W.findIn K (.ref aj) "boxes" = some none)
   (gG : PySem.W.findIn K (.ref aj) "names" = some none)
   (iL : PySem.W.findIn K (.ref aj) "tree" = some none)
   (jn : PySem.W.findIn K (.ref aj) "ins" = some none)
   (iM : PySem.W.findIn K (.ref aj) "outs" = some none)
   (iN : PySem.W.findIn K (.ref aj) "ways" = some none)
   (yt : PySem.W.nsIn K mainGlobals "Tree" = some (some (.ref ak))) (ux : PySem.W.plainGet K ak Str.empty = true) (uy : PySem.W.hasDictIn K ak = true) (uz : PySem.W.plainOver K ak = true) (uA : PySem.W.findIn K (.ref ak) "__setattr__" = some (some (.builtin "object.__setattr__"))) (uB : PySem.W.makesIn K ak = true) (uC : PySem.W.keepIn K (.ref ak) = true)
   (iO : PySem.W.findIn K (.ref ak) "kinds" = some none)
   (gH : PySem.W.findIn K (.ref ak) "elders" = some none)
   (gI : PySem.W.findIn K (.ref ak) "starts" = some none)
   (uD : PySem.W.nsIn K mainGlobals "_law_mixed" = some (some (.ref uc))) (uE : kI K "_law_mixed" "_law_mixed" om uc F8)
   (m5 : PySem.W.nsIn K mainGlobals "_law_cell_at" = some (some (.ref mZ))) (m7 : kI K "_law_cell_at" "_law_cell_at" jA mZ AF)
   (uF : PySem.W.nsIn K mainGlobals "_law_chain" = some (some (.ref ud))) (uG : kI K "_law_chain" "_law_chain" oq ud F9)
   (qm : PySem.W.nsIn K mainGlobals "_law_elders" = some (some (.ref qd))) (qo : kI K "_law_elders" "_law_elders" lC qd C1)
   (uH : PySem.W.nsIn K mainGlobals "_law_lists" = some (some (.ref uf))) (uI : kI K "_law_lists" "_law_lists" ou uf Ga)
   (uJ : PySem.W.nsIn K mainGlobals "_law_opens" = some (some (.ref ug))) (uK : kI K "_law_opens" "_law_opens" ow ug Gb)
   (qp : PySem.W.nsIn K mainGlobals "_law_number" = some (some (.ref qe))) (qq : kI K "_law_number" "_law_number" lD qe C2)
   (uL : PySem.W.nsIn K mainGlobals "_law_boxes" = some (some (.ref uh))) (uM : kI K "_law_boxes" "_law_boxes" oz uh Gd)
   (yu : PySem.W.nsIn K mainGlobals "_law_name" = some (some (.ref yq))) (yw : kI K "_law_name" "_law_name" tM yq K1)
   (uN : PySem.W.nsIn K mainGlobals "_law_signs" = some (some (.ref um))) (uO : kI K "_law_signs" "_law_signs" oA um Ge)
   (uP : PySem.W.nsIn K mainGlobals "_law_small" = some (some (.ref uo))) (uQ : kI K "_law_small" "_law_small" oB uo Gf)
   (uR : PySem.W.nsIn K mainGlobals "_law_worth" = some (some (.ref uq))) (uS : kI K "_law_worth" "_law_worth" oE uq Gg)
   (C5 : PySem.W.nsIn K mainGlobals "_law_due" = some (some (.ref CW))) (C6 : kI K "_law_due" "_law_due" zj CW N3)
   (C7 : PySem.W.nsIn K mainGlobals "_law_ask" = some (some (.ref CY))) (C8 : kI K "_law_ask" "_law_ask" zk CY N4)
   (C9 : PySem.W.nsIn K mainGlobals "_law_way" = some (some (.ref CZ))) (Dc : kI K "_law_way" "_law_way" zq CZ N5)
   (yx : PySem.W.nsIn K mainGlobals "_law_ways" = some (some (.ref yr))) (yy : kI K "_law_ways" "_law_ways" tS yr C3)
   {mY : Addr} {Gi : Option Addr} {zA : Array Value} {Gj : Array (Option Value)} (uT : C3.code = .ref mY) (zB : K.lookup mY = some ⟨.type "code", Gi, .fields zA, Gj⟩) (zC : zA[11]? = some (.ref aF)) (oQ : PySem.W.codeHdIn K mY aF = true) (uU : aF ≠ 0) (uV : K.lookup aF = none) (uW : aF ∈ T0)
   (jo : PySem.W.findIn K (.ref ak) "__init__" = some (some (.ref gi))) (jq : PySem.W.isFn K (.ref gi) = true) (nI : kI K "__init__" "Tree.__init__" gf gi xm)
   (iP : PySem.W.findIn K (.ref aj) "__init__" = some (some (.ref fG))) (iQ : PySem.W.isFn K (.ref fG) = true) (lU : kI K "__init__" "Chart.__init__" fF fG uv)
   (uX : PySem.W.nsIn K mainGlobals "_law_chart" = some (some (.ref ur))) (uY : kI K "_law_chart" "_law_chart" oO ur Gh)
   (gJ : PySem.W.nsIn K mainGlobals "number_asks" = some (some (.ref gE))) (gK : kI K "number_asks" "number_asks" eT gE gD)
   (qu : PySem.W.nsIn K mainGlobals "_law_stayed" = some (some (.ref qf))) (qv : kI K "_law_stayed" "_law_stayed" lR qf C4)
   (zE : PySem.W.nsIn K mainGlobals "law" = some (some (.ref Ik))) (Dd : kI K "law" "law" zy Ik Il)
   (De : PySem.W.nsIn K mainGlobals "len" = some none)
   (uZ : PySem.W.nsIn K mainGlobals "range" = some none)
   (Df : PySem.W.nsIn K mainGlobals "int" = some none)
   (u0 : PySem.W.nsIn K mainGlobals "tuple" = some none)
   (qw : PySem.W.nsIn K mainGlobals "sorted" = some none)
   (yz : PySem.W.nsIn K mainGlobals "list" = some none)
   (Dg : PySem.W.nsIn K mainGlobals "str" = some none)
   {Gk : Tok} (yC : PySem.W.nsIn K mainGlobals "ASKS" = some (some (.int 2 Gk)))
   (iR : PySem.W.nsIn K mainGlobals "isinstance" = some none)
   : ∃ (fd : FuncData) (ts : List (Addr × Str)), (∀ p ∈ ts, p.1 ∈ T0 /\ ts.lookup p.1 = some p.2 /\ K.lookup p.1 = none /\ ∃ c, PySem.W.CodeHd h c p.1) /\ (∀ (s : Shared) (v : Value), BindsTo s fd ⟨[v], []⟩ [("script", v)]) /\ ∀ base : Heap, K.In base -> base.Ns mainGlobals mg -> pK mg base -> bX l.prog w K mg base f6 5 fa fd ["script"] (spT K ts 1 j6 j7 j8) := by
 have e := U9.symm.trans (V4 XX G zE)
 cases e
 have Gm := V4 XX G uD
 have Gn := uE.binds (ps := ["cell", "salt"]) fun _ _ _ _ _ _ us hl => match us, hl with | [_, _], _ => rfl
 have AG := V4 XX G m5
 have AH := m7.binds (ps := ["script", "k"]) fun _ _ _ _ _ _ us hl => match us, hl with | [_, _], _ => rfl
 have Gp := V4 XX G uF
 have Gq := uG.binds (ps := ["elders", "mood"]) fun _ _ _ _ _ _ us hl => match us, hl with | [_, _], _ => rfl
 have Dh := V4 XX G qm
 have Di := qo.binds (ps := ["script"]) fun _ _ _ _ _ _ us hl => match us, hl with | [_], _ => rfl
 have Gr := V4 XX G uH
 have Gs := uI.binds (ps := ["script"]) fun _ _ _ _ _ _ us hl => match us, hl with | [_], _ => rfl
 have Gu := V4 XX G uJ
 have Gv := uK.binds (ps := ["lists"]) fun _ _ _ _ _ _ us hl => match us, hl with | [_], _ => rfl
 have Dj := V4 XX G qp
 have Dk := qq.binds (ps := ["cell"]) fun _ _ _ _ _ _ us hl => match us, hl with | [_], _ => rfl
 have Gw := V4 XX G uL
 have Gy := uM.binds (ps := ["script"]) fun _ _ _ _ _ _ us hl => match us, hl with | [_], _ => rfl
 have K2 := V4 XX G yu
 have K3 := yw.binds (ps := ["cell"]) fun _ _ _ _ _ _ us hl => match us, hl with | [_], _ => rfl
 have Gz := V4 XX G uN
 have GA := uO.binds (ps := ["script"]) fun _ _ _ _ _ _ us hl => match us, hl with | [_], _ => rfl
 have GB := V4 XX G uP
 have GC := uQ.binds (ps := ["cell"]) fun _ _ _ _ _ _ us hl => match us, hl with | [_], _ => rfl
 have GD := V4 XX G uR
 have GF := uS.binds (ps := ["term", "boxes"]) fun _ _ _ _ _ _ us hl => match us, hl with | [_, _], _ => rfl
 have N6 := V4 XX G C5
 have N7 := C6.binds (ps := ["mark", "one", "other"]) fun _ _ _ _ _ _ us hl => match us, hl with | [_, _, _], _ => rfl
 have N8 := V4 XX G C7
 have N9 := C8.binds (ps := ["cell", "opens", "many", "boxes"]) fun _ _ _ _ _ _ us hl => match us, hl with | [_, _, _, _], _ => rfl
 have Oa := V4 XX G C9
 have Ob := Dc.binds (ps := ["cell", "opens", "many", "boxes", "three"]) fun _ _ _ _ _ _ us hl => match us, hl with | [_, _, _, _, _], _ => rfl
 have K4 := V4 XX G yx
 have K5 := yy.binds (ps := ["script", "opens", "many", "boxes", "three"]) fun _ _ _ _ _ _ us hl => match us, hl with | [_, _, _, _, _], _ => rfl
 have xo := nI.binds (ps := ["self", "kinds", "elders", "starts"]) fun _ _ _ _ _ _ us hl => match us, hl with | [_, _, _, _], _ => rfl
 have u5 := lU.binds (ps := ["self", "boxes", "names", "tree", "ins", "outs", "ways"]) fun _ _ _ _ _ _ us hl => match us, hl with | [_, _, _, _, _, _, _], _ => rfl
 have GH := V4 XX G uX
 have GJ := uY.binds (ps := ["lists", "boxes", "ways"]) fun _ _ _ _ _ _ us hl => match us, hl with | [_, _, _], _ => rfl
 have qR := V4 XX G gJ
 have qS := gK.binds (ps := ["chart", "way"]) fun _ _ _ _ _ _ us hl => match us, hl with | [_, _], _ => rfl
 have Dl := V4 XX G qu
 have Dm := qv.binds (ps := ["chart", "lists", "ways"]) fun _ _ _ _ _ _ us hl => match us, hl with | [_, _, _], _ => rfl
 have SX := V4 XX G zE
 have SY := Dd.binds (ps := ["script"]) fun _ _ _ _ _ _ us hl => match us, hl with | [_], _ => rfl
 have GK := V4 XX G uw
 have dw : vo K aj := ⟨qg, qh, qi, qj⟩
 have u6 : vo K ((cl aj ak aF) "Chart") := by rw [eG]; exact dw
 have qT : aY K ((cl aj ak aF) "Chart") "boxes" := by rw [eG]; exact gF
 have qU : aY K ((cl aj ak aF) "Chart") "names" := by rw [eG]; exact gG
 have lV : aY K ((cl aj ak aF) "Chart") "tree" := by rw [eG]; exact iL
 have xq : aY K ((cl aj ak aF) "Chart") "ins" := by rw [eG]; exact jn
 have u9 : aY K ((cl aj ak aF) "Chart") "outs" := by rw [eG]; exact iM
 have iS : aY K ((cl aj ak aF) "Chart") "ways" := by rw [eG]; exact iN
 have K6 := V4 XX G yt
 have iE : vo K ak := ⟨ux, uy, uz, uA⟩
 have Dn : vo K ((cl aj ak aF) "Tree") := by rw [j9]; exact iE
 have lW : aY K ((cl aj ak aF) "Tree") "kinds" := by rw [j9]; exact iO
 have kG : aY K ((cl aj ak aF) "Tree") "elders" := by rw [j9]; exact gH
 have kH : aY K ((cl aj ak aF) "Tree") "starts" := by rw [j9]; exact gI
 have nJ := WH XX G De
 have gj := WH XX G uZ
 have Oc := WH XX G Df
 have vd := WH XX G u0
 have Dp := WH XX G qw
 have yE := WH XX G yz
 have Od := WH XX G Dg
 have K7 : ∃ u, mg "ASKS" = some (.int 2 u) := ⟨_, V4 XX G yC⟩
 have ve := WH XX G iR
 refine ⟨Il, [(aF, "_law_ways.<locals>.<lambda>")], ?tabs, ?bind, fun base kb _ bl => ?_⟩
 case tabs =>
   intro p hp
   simp only [VC, W4, or_false] at hp
   rcases hp with rfl
   . exact ⟨uW, by simp only [V8, Xe], uV, mY, PySem.W.codeHd_of_K XX oQ⟩
 case bind =>
   obtain ⟨oc, od, kV, doc, pm, an, cS, ct, DI, rfl, lk, gY⟩ := Dd.ex
   exact fun s v => .of_eq rfl
 have GL : bX l.prog w K mg base f6 1 uc _ ["cell", "salt"] (ni K (cl aj ak aF) 2 dQ dR dS) := bS uE wM fun cS Ar outer s H E b a hr hp => by
   obtain ⟨p0, p1⟩ := a; refine Fo ?_ p0 p1 hp
   exact ⟨⟨⟨wM.nd, rfl, rfl⟩, hr.units⟩, bT pU 0, bT pU 1, bT pU 2⟩
 have lX := dW GL Gm uE.kp Gn
 have AI : bX l.prog w K mg base f6 1 mZ _ ["script", "k"] (ni K (cl aj ak aF) 2 cY cZ c6) := bS m7 pV fun cS Ar outer s H E b a hr hp => by
   obtain ⟨p0, p1⟩ := a; refine Ax ?_ p0 p1 hp
   exact ⟨⟨⟨pV.nd, rfl, rfl⟩, hr.units⟩, bT kR 0, bT kR 1, fh kR 2, nJ⟩
 have kg := dW AI AG m7.kp AH
 have GN : bX l.prog w K mg base f6 1 ud _ ["elders", "mood"] (ni K (cl aj ak aF) 2 jB jC jD) := bS uG wN fun cS Ar outer s H E b a hr hp => by
   obtain ⟨p0, p1⟩ := a; refine Fq ?_ p0 p1 hp
   exact ⟨⟨⟨wN.nd, rfl, rfl⟩, hr.units⟩, bT lB 0, bT lB 1, bT lB 2, bT lB 3⟩
 have GO := dW GN Gp uG.kp Gq
 have Dq : bX l.prog w K mg base f6 2 qd _ ["script"] (ni K (cl aj ak aF) 1 iu iy iz) := bS qo rQ fun cS Ar outer s H E b a hr hp => by
   refine Cp ?_ a hp
   exact ⟨⟨⟨rQ.nd, rfl, rfl⟩, hr.units⟩, bT cG 0, bT cG 1, bT cG 2, bT cG 3, bT cG 4, bT cG 5, fh cG 6, fh cG 7, fh cG 8, fh cG 9, fh cG 10, eX lX hr, eX kg hr, gj, eX GO hr, nJ⟩
 have Dr := dW Dq Dh qo.kp Di
 have GP : bX l.prog w K mg base f6 3 uf _ ["script"] (ni K (cl aj ak aF) 1 jF jG jH) := bS uI wO fun cS Ar outer s H E b a hr hp => by
   refine Fw ?_ a hp
   exact ⟨⟨⟨wO.nd, rfl, rfl⟩, hr.units⟩, bT bZ 0, DL bZ 1, di bZ 1 rfl, bT bZ 2, bT bZ 3, bT bZ 4, DL bZ 5, di bZ 5 rfl, bT bZ 6, bT bZ 7, fh bZ 8, fh bZ 9, fh bZ 10, fh bZ 11, fh bZ 12, eX Dr hr, gj, nJ, eX lX hr, eX kg hr⟩
 have GQ := dW GP Gr uI.kp Gs
 have GR : bX l.prog w K mg base f6 1 ug _ ["lists"] (ni K (cl aj ak aF) 1 jI gS jJ) := bS uK wQ fun cS Ar outer s H E b a hr hp => by
   obtain ⟨p0, p1, p2, p3⟩ := a; refine Fz ?_ p0 p1 p2 p3 hp
   exact ⟨⟨⟨wQ.nd, rfl, rfl⟩, hr.units⟩, bT gT 0, bT gT 1, bT gT 2, bT gT 3, fh gT 4, fh gT 5, gj, nJ⟩
 have GU := dW GR Gu uK.kp Gv
 have Ds : bX l.prog w K mg base f6 1 qe _ ["cell"] (ni K (cl aj ak aF) 1 iB iC iD) := bS qq rS fun cS Ar outer s H E b a hr hp => by
   refine Ct ?_ a hp
   exact ⟨⟨⟨rS.nd, rfl, rfl⟩, hr.units⟩, bT rR 0, bT rR 1⟩
 have Dt := dW Ds Dj qq.kp Dk
 have GV : bX l.prog w K mg base f6 2 uh _ ["script"] (ni K (cl aj ak aF) 1 jK jL jM) := bS uM wR fun cS Ar outer s H E b a hr hp => by
   refine FE ?_ a hp
   exact ⟨⟨⟨wR.nd, rfl, rfl⟩, hr.units⟩, DL gU 0, di gU 0 rfl, bT gU 1, fh gU 2, fh gU 3, fh gU 4, eX lX hr, eX kg hr, gj, eX Dt hr⟩
 have GW := dW GV Gw uM.kp Gy
 have K8 : bX l.prog w K mg base f6 1 yq _ ["cell"] (ni K (cl aj ak aF) 1 lE lF lG) := bS yw zg fun cS Ar outer s H E b a hr hp => by
   refine KH ?_ a hp
   exact ⟨⟨⟨zg.nd, rfl, rfl⟩, hr.units⟩, bT jN 0, bT jN 1, bT jN 2, bT jN 3, bT jN 4, fh jN 5, gj⟩
 have K9 := dW K8 K2 yw.kp K3
 have GX : bX l.prog w K mg base f6 2 um _ ["script"] (ni K (cl aj ak aF) 1 jO jP jQ) := bS uO wU fun cS Ar outer s H E b a hr hp => by
   refine FH ?_ a hp
   exact ⟨⟨⟨wU.nd, rfl, rfl⟩, hr.units⟩, bT lH 0, bT lH 1, fh lH 2, fh lH 3, eX K9 hr, eX kg hr⟩
 have GY := dW GX Gz uO.kp GA
 have GZ : bX l.prog w K mg base f6 1 uo _ ["cell"] (ni K (cl aj ak aF) 1 jR jS jT) := bS uQ wW fun cS Ar outer s H E b a hr hp => by
   refine FJ ?_ a hp
   exact ⟨⟨⟨wW.nd, rfl, rfl⟩, hr.units⟩, bT wV 0, bT wV 1⟩
 have G0 := dW GZ GB uQ.kp GC
 have G3 : bX l.prog w K mg base f6 1 uq _ ["term", "boxes"] (ni K (cl aj ak aF) 2 jU jV jW) := bS uS wY fun cS Ar outer s H E b a hr hp => by
   obtain ⟨p0, p1, p2⟩ := a; refine FN ?_ p0 p1 p2 hp
   exact ⟨⟨⟨wY.nd, rfl, rfl⟩, hr.units⟩, bT wX 0, bT wX 1⟩
 have G4 := dW G3 GD uS.kp GF
 have Oe : bX l.prog w K mg base f6 1 CW _ ["mark", "one", "other"] (ni K (cl aj ak aF) 3 oF oG oH) := bS C6 Cy fun cS Ar outer s H E b a hr hp => by
   obtain ⟨p0, p1, p2⟩ := a; refine Ny ?_ p0 p1 p2 hp
   exact ⟨⟨⟨Cy.nd, rfl, rfl⟩, hr.units⟩, bT yh 0, bT yh 1, bT yh 2⟩
 have Og := dW Oe N6 C6.kp N7
 have Oh : bX l.prog w K mg base f6 2 CY _ ["cell", "opens", "many", "boxes"] (ni K (cl aj ak aF) 4 oJ lI oK) := bS C8 CD fun cS Ar outer s H E b a hr hp => by
   obtain ⟨p0, p1, p2, p3⟩ := a; refine NK ?_ p0 p1 p2 p3 hp
   exact ⟨⟨⟨CD.nd, rfl, rfl⟩, hr.units⟩, bT cH 0, bT cH 1, bT cH 2, bT cH 3, bT cH 4, DL cH 5, di cH 5 rfl, bT cH 6, bT cH 7, bT cH 8, DL cH 9, di cH 9 rfl, DL cH 10, di cH 10 rfl, bT cH 11, fh cH 12, fh cH 13, fh cH 14, fh cH 15, fh cH 16, eX lX hr, Oc, nJ, eX G0 hr, eX G4 hr, eX Og hr⟩
 have Oi := dW Oh N8 C8.kp N9
 have Oj : bX l.prog w K mg base f6 3 CZ _ ["cell", "opens", "many", "boxes", "three"] (ni K (cl aj ak aF) 5 oM lM oN) := bS Dc CG fun cS Ar outer s H E b a hr hp => by
   obtain ⟨p0, p1, p2, p3, p4⟩ := a; refine NR ?_ p0 p1 p2 p3 p4 hp
   exact ⟨⟨⟨CG.nd, rfl, rfl⟩, hr.units⟩, bT c7 0, bT c7 1, bT c7 2, bT c7 3, bT c7 4, bT c7 5, bT c7 6, bT c7 7, bT c7 8, bT c7 9, bT c7 10, bT c7 11, fh c7 12, fh c7 13, fh c7 14, fh c7 15, fh c7 16, eX lX hr, nJ, gj, eX Oi hr, vd⟩
 have Ol := dW Oj Oa Dc.kp Ob
 have La : bX l.prog w K mg base f6 4 yr _ ["script", "opens", "many", "boxes", "three"] (ni K (cl aj ak aF) 5 lN jg lO) := B7 yy zv fun cS Ar outer s H E b a gY hr hp => by
   obtain ⟨p0, p1, p2, p3, p4⟩ := a; refine KQ ?_ p0 p1 p2 p3 p4 hp
   exact ⟨⟨⟨zv.nd, rfl, rfl⟩, hr.units⟩, bT d8 0, DL d8 1, di d8 1 rfl, DL d8 2, di d8 2 rfl, DL d8 3, di d8 3 rfl, DL d8 4, di d8 4 rfl, bT d8 5, fh d8 6, Dp, eX Ol hr, Rf bl kb gY uT (by rw [rW]; exact oQ) (by rw [rW]; exact uU), E4 hr, hr⟩
 have Lb := dW La K4 yy.kp K5
 have xr : bX l.prog w K mg base f6 1 gi _ ["self", "kinds", "elders", "starts"] (MV K (cl aj ak aF) "Tree" 4 kC kD kE) := yR nI lP fun cS Ar outer s H E b a y hr hp => by
   obtain ⟨p0, p1, p2⟩ := a; refine w4 ?_ p0 p1 p2 y hp
   exact ⟨⟨⟨lP.nd, rfl, rfl⟩, hr.units⟩, bT eu 0, bT eu 1, bT eu 2, bT eu 3, fh eu 4, yE, Dn, lW, kG, kH⟩
 have vf : bX l.prog w K mg base f6 1 fG _ ["self", "boxes", "names", "tree", "ins", "outs", "ways"] (MV K (cl aj ak aF) "Chart" 7 ji jk jl) := yR lU kF fun cS Ar outer s H E b a y hr hp => by
   obtain ⟨p0, p1, p2, p3, p4, p5⟩ := a; refine tX ?_ p0 p1 p2 p3 p4 p5 y hp
   exact ⟨⟨⟨kF.nd, rfl, rfl⟩, hr.units⟩, bT bU 0, bT bU 1, bT bU 2, bT bU 3, bT bU 4, bT bU 5, bT bU 6, fh bU 7, yE, u6, qT, qU, lV, xq, u9, iS⟩
 have G5 : bX l.prog w K mg base f6 3 ur _ ["lists", "boxes", "ways"] (ni K (cl aj ak aF) 3 j3 gX j4) := bS uY xh fun cS Ar outer s H E b a hr hp => by
   obtain ⟨p0, p1, p2, p3, p4, p5⟩ := a; refine F0 ?_ p0 p1 p2 p3 p4 p5 hp
   exact ⟨⟨⟨xh.nd, rfl, rfl⟩, hr.units⟩, bT c9 0, bT c9 1, bT c9 2, bT c9 3, bT c9 4, bT c9 5, fh c9 6, fh c9 7, fh c9 8, fh c9 9, fh c9 10, gj, nJ, ⟨⟨_, _, _, by rw [j9]; exact ⟨uB, jo, jq, uC⟩, xr, by rw [j9]; exact K6, xo⟩, hr.mono (by decide)⟩, yE, ⟨⟨_, _, _, by rw [eG]; exact ⟨qk, iP, iQ, ql⟩, vf, by rw [eG]; exact GK, u5⟩, hr.mono (by decide)⟩, Od⟩
 have G6 := dW G5 GH uY.kp GJ
 have qV : bX l.prog w K mg base f6 1 gE _ ["chart", "way"] (ni K (cl aj ak aF) 2 dM cN dN) := bS gK jm fun cS Ar outer s H E b a hr hp => by
   obtain ⟨p0, p1, p2, p3, p4, p5, p6, p7⟩ := a; refine qO ?_ p0 p1 p2 p3 p4 p5 p6 p7 hp
   exact ⟨⟨⟨jm.nd, rfl, rfl⟩, hr.units⟩, bT eF 0, bT eF 1, fh eF 2, fh eF 3, vd, K7, u6, iS⟩
 have qW := dW qV qR gK.kp qS
 have Du : bX l.prog w K mg base f6 1 qf _ ["chart", "lists", "ways"] (ni K (cl aj ak aF) 3 iJ fV iK) := bS qv rT fun cS Ar outer s H E b a hr hp => by
   obtain ⟨p0, p1, p2, p3, p4, p5, p6, p7, p8⟩ := a; refine CN ?_ p0 p1 p2 p3 p4 p5 p6 p7 p8 hp
   exact ⟨⟨⟨rT.nd, rfl, rfl⟩, hr.units⟩, bT j5 0, bT j5 1, bT j5 2, bT j5 3, u6, Dn, lV, iS, lW, kG, kH⟩
 have Dv := dW Du Dl qv.kp Dm
 have Om : bX l.prog w K mg base f6 5 _ _ ["script"] (ni K (cl aj ak aF) 1 j6 j7 j8) := bS Dd CV fun cS Ar outer s H E b a hr hp => by
   refine NZ ?_ a hp
   exact ⟨⟨⟨CV.nd, rfl, rfl⟩, hr.units⟩, bT b8 0, bT b8 1, bT b8 2, bT b8 3, bT b8 4, bT b8 5, bT b8 6, bT b8 7, bT b8 8, bT b8 9, bT b8 10, fh b8 11, fh b8 12, fh b8 13, fh b8 14, fh b8 15, fh b8 16, fh b8 17, fh b8 18, fh b8 19, fh b8 20, fh b8 21, fh b8 22, eX GQ hr, eX GU hr, eX GW hr, eX GY hr, eX Lb hr, nJ, eX G6 hr, gj, eX qW hr, ve, vd, eX Dv hr⟩
 exact Om.imp (E2 (fun _ => rfl) (fun _ => rfl) fun x hx h0 => F7 hx h0)
theorem walk {l : PySem.W.OpenLaw} {q : Program} {loose : List Str} {XP : (Str -> Option Value) -> Heap -> Prop} {YP : World -> Heap -> Prop} {d : DefRec} {K : Params -> PySem.W.Frag} {T0 : List Addr} (hn : l.most = some 63) (MB : d.params.defaults = [])
   (hY : ∀ (w : World) (h : Heap), YP w h -> (K w.params).In h) (hT : ∀ (w : World) (h : Heap), YP w h -> ∀ P ∈ T0, h.get? P = some (PySem.W.tabObj #[]))
   (F : ∀ (w : World) (mg : Str -> Option Value) (fa : Addr) (h : Heap), (K w.params).In h -> h.Ns mainGlobals mg -> mg d.name = some (.ref fa) →
     ∃ (fd : FuncData) (ts : List (Addr × Str)), (∀ p ∈ ts, p.1 ∈ T0 /\ ts.lookup p.1 = some p.2 /\ (K w.params).lookup p.1 = none /\ ∃ c, PySem.W.CodeHd h c p.1) /\ (∀ (s : Shared) (u : Value), BindsTo s fd ⟨[u], []⟩ [("script", u)]) /\ ∀ base : Heap, (K w.params).In base -> base.Ns mainGlobals mg -> pK mg base -> bX l.prog w (K w.params) mg base f6 5 fa fd ["script"] (spT (K w.params) ts 1 j6 j7 j8)) :
   PySem.W.WalkO q loose XP YP l.row.toRowW d [] (fun f vs => PySem.call f vs) :=
 B8 (n := 63) (k := 5) (x := "script") (sp := fun w ts => spT (K w.params) ts 1 j6 j7 j8) hn (by decide) MB ⟨rfl, by decide, by decide⟩ hY hT F (fun _ _ _ a ns hl hS ht => E3 rfl hl rfl hS ht)
end Law
open PySem PySem.W PyProof.Rows
set_option maxRecDepth 100000 in
set_option maxHeartbeats 0 in
theorem PySem.Challenge.cw_moodtree_k32_asks_of_numbers_holds : PySem.Challenge.rw_moodtree_k32_asks_of_numbers.Holds := by
 w_on; o_law; k_head; (case hw => w_witness2)
 k_fill
 refine Law.walk (l := PySem.Challenge.rw_moodtree_k32_asks_of_numbers) rfl rfl (fun w h Y => PySem.W.km_in_of Y) (fun w h Y => PySem.W.km_tabs_of Y) ?F
 case F =>
   intro w mg fa h KX G MC
   refine' Law.all_mk KX G MC ?uw ?qg ?qh ?qi ?qj ?qk ?ql ?gF ?gG ?iL ?jn ?iM ?iN ?yt ?ux ?uy ?uz ?uA ?uB ?uC ?iO ?gH ?gI ?uD (L2.cj ?aE ?G7 ?G8) ?m5 (L2.cj ?AJ ?AK ?AO) ?uF (L2.cj ?G9 ?Hf ?Hg) ?qm (L2.cj ?bJ ?Dw ?pY) ?uH (L2.cj ?bM ?Hh ?Hi) ?uJ (L2.cj ?bE ?Hj ?tT) ?qp (L2.cj ?Dy ?Dz ?DB) ?uL (L2.cj ?bN ?Hl ?tU) ?yu (L2.cj ?gw ?Lc ?Ld) ?uN (L2.cj ?Ho ?Hq ?Hr) ?uP (L2.cj ?Hs ?Ht ?Hu) ?uR (L2.cj ?Hv ?Hw ?Hx) ?C5 (L2.cj ?rV ?Oo ?Oq) ?C7 (L2.cj ?Ot ?Ou ?Ov) ?C9 (L2.cj ?CK ?Ow ?Ox) ?yx (L2.cj ?dD ?Le ?Lf) ?uT ?zB ?zC ?oQ ?uU ?uV ?uW ?jo ?jq (L2.cj ?xu ?xx ?xA) ?iP ?iQ (L2.cj ?vg ?vh ?vm) ?uX (L2.cj ?eU ?Hy ?Hz) ?gJ (L2.cj ?qX ?qY ?qZ) ?qu (L2.cj ?DC ?DE ?DF) ?zE (L2.cj ?Oz ?OB ?OD) ?De ?uZ ?Df ?u0 ?qw ?yz ?Dg ?yC ?iR
   case uw | qg | qh | qi | qj | qk | ql | gF | gG | iL | jn | iM | iN | yt | ux | uy | uz | uA | uB | uC | iO | gH | gI | uD | aE | G7 | G8 | m5 | AJ | AK | AO | uF | G9 | Hf | Hg | qm | bJ | Dw | pY | uH | bM | Hh | Hi | uJ | bE | Hj | tT | qp | Dy | Dz | DB | uL | bN | Hl | tU | yu | gw | Lc | Ld | uN | Ho | Hq | Hr | uP | Hs | Ht | Hu | uR | Hv | Hw | Hx | C5 | rV | Oo | Oq | C7 | Ot | Ou | Ov | C9 | CK | Ow | Ox | yx | dD | Le | Lf => k_is
   case uT => exact rfl
   case zB => k_is
   case zC => exact rfl
   case oQ => kernel_rfl
   case uU => decide
   case uV => kernel_rfl
   case uW => decide
   case jo | jq | xu | xx | xA | iP | iQ | vg | vh | vm | uX | eU | Hy | Hz | gJ | qX | qY | qZ | qu | DC | DE | DF | zE | Oz | OB | OD | De | uZ | Df | u0 | qw | yz | Dg | yC | iR => k_is
