import PyProof.Rows.All
import Wide.All
import OpenK.AllK
import Wide.FinOn
import Lean
import PyProof.EqAt
import PyProof.EqKinds
import PyProof.TupleCall
import PySem.Challenge.RW_moodtree_k13_what_is_a_name
set_option Elab.async false
set_option linter.all false
set_option maxRecDepth 100000
set_option maxHeartbeats 4000000
namespace L2
open PySem PySem.Spec PyProof.Rows

/-- a key: an int or a str -/
abbrev Key := Sum Int Str
def keyIs : Key → Value → Bool
  | .inl k, v => Value.isInt k v
  | .inr x, v => Value.isStrOf x v
def keyH (w : World) : Key → Int
  | .inl k => hashInt k
  | .inr x => hashStr w x
theorem keyIs_shape : ∀ {k : Key} {v : Value}, keyIs k v = true → (∃ i t, k = Sum.inl i ∧ v = Value.int i t) ∨ (∃ x t, k = Sum.inr x ∧ v = Value.str x t)
  | .inl i, v, h => by
    obtain ⟨t, e⟩ := Value.isInt_shape (k := i) (v := v) h
    exact .inl ⟨i, t, rfl, e⟩
  | .inr x, v, h => by
    obtain ⟨t, e⟩ := Value.isStrOf_shape (x := x) (v := v) h
    exact .inr ⟨x, t, rfl, e⟩
theorem key_ll (a b : Int) : decide ((Sum.inl a : Key) = Sum.inl b) = (a == b) := by
  by_cases e : a = b
  · subst e; simp
  · have h : ¬ (Sum.inl a : Key) = Sum.inl b := fun q => e (Sum.inl.inj q)
    rw [decide_eq_false h]
    exact (beq_eq_false_iff_ne.mpr e).symm
theorem key_rr (a b : Str) : decide ((Sum.inr a : Key) = Sum.inr b) = decide (a = b) := by
  by_cases e : a = b
  · subst e; simp
  · have h : ¬ (Sum.inr a : Key) = Sum.inr b := fun q => e (Sum.inr.inj q)
    rw [decide_eq_false h, decide_eq_false e]
theorem key_lr (a : Int) (b : Str) : decide ((Sum.inl a : Key) = Sum.inr b) = false := decide_eq_false (fun q => nomatch q)
theorem key_rl (a : Str) (b : Int) : decide ((Sum.inr a : Key) = Sum.inl b) = false := decide_eq_false (fun q => nomatch q)

def mixKind (prog : Program) (w : World) : PySem.KeyKind prog w Key where
  is := keyIs
  hash := keyH w
  inj := fun v a b ha hb => by
    rcases keyIs_shape ha with ⟨i, t, rfl, rfl⟩ | ⟨x, t, rfl, rfl⟩
    · rcases keyIs_shape hb with ⟨j, u, rfl, e⟩ | ⟨y, u, rfl, e⟩
      · injection e with e1 _; rw [e1]
      · exact nomatch e
    · rcases keyIs_shape hb with ⟨j, u, rfl, e⟩ | ⟨y, u, rfl, e⟩
      · exact nomatch e
      · injection e with e1 _; rw [e1]
  byValue := fun k v h => by
    rcases keyIs_shape h with ⟨i, t, rfl, rfl⟩ | ⟨x, t, rfl, rfl⟩ <;> rfl
  pyHash := fun hv h => by
    rcases keyIs_shape hv with ⟨i, t, rfl, rfl⟩ | ⟨x, t, rfl, rfl⟩
    · exact wpAny_pyHash_int h
    · exact wpAny_pyHash_str h
  eqBool := fun hu hv h => by
    rcases keyIs_shape hu with ⟨i, t, rfl, rfl⟩ | ⟨x, t, rfl, rfl⟩
    · rcases keyIs_shape hv with ⟨j, u, rfl, rfl⟩ | ⟨y, u, rfl, rfl⟩
      · rw [key_ll] at h; exact wpAny_eqBool_int h
      · rw [key_lr] at h; exact SeqAt.EqAt.int_str i t y u _ _ _ _ h
    · rcases keyIs_shape hv with ⟨j, u, rfl, rfl⟩ | ⟨y, u, rfl, rfl⟩
      · rw [key_rl] at h; exact SeqAt.EqAt.str_int x t j u _ _ _ _ h
      · rw [key_rr] at h; exact wpAny_eqBool_str h
  «strs» := fun k x t v h => by
    rcases keyIs_shape h with ⟨i, u, rfl, e⟩ | ⟨y, u, rfl, e⟩
    · exact nomatch e
    · injection e with e1 _
      subst e1
      cases v <;> rfl

end L2

namespace L2
open PySem PySem.Spec PyProof.Rows

/-- a value, without the heap -/
inductive V where
  | non | bl (b : Bool) | int (i : Int) | str (x : Str) | byt (b : Array UInt8) | flt (b : UInt64) | ref (a : Addr) | ty (n : String)
  deriving DecidableEq

def RelV : V → Value → Prop
  | .non, u => u = Value.none
  | .bl b, u => u = Value.bool b
  | .int i, u => ∃ t, u = Value.int i t
  | .str x, u => ∃ t, u = Value.str x t
  | .byt b, u => ∃ t, u = Value.bytes b t
  | .flt b, u => ∃ t, u = Value.float b t
  | .ref a, u => u = Value.ref a
  | .ty n, u => u = Value.type n

abbrev Vals : List V → List Value → Prop := Paired RelV
theorem Vals.length {xs : List V} {us : List Value} (r : Vals xs us) : xs.length = us.length := Paired.length r
theorem Vals.get : ∀ {xs : List V} {us : List Value} {i : Nat} {x : V}, Vals xs us → xs[i]? = some x → ∃ u, us[i]? = some u ∧ RelV x u
  | _, _, _, _, .nil, e => by simp at e
  | _, _, 0, _, .cons r _, e => by simp at e; subst e; exact ⟨_, rfl, r⟩
  | _, _, i + 1, x, .cons _ t, e => by
    obtain ⟨u, h1, h2⟩ := Vals.get (i := i) (x := x) t (by simpa using e)
    exact ⟨u, by simpa using h1, h2⟩
theorem Vals.set {x : V} {u : Value} (r : RelV x u) : ∀ {xs : List V} {us : List Value} (i : Nat), Vals xs us → Vals (xs.set i x) (us.set i u)
  | _, _, _, .nil => .nil
  | _, _, 0, .cons _ t => .cons r t
  | _, _, i + 1, .cons q t => .cons q (Vals.set r i t)
theorem Vals.append : ∀ {xs ys : List V} {us ws : List Value}, Vals xs us → Vals ys ws → Vals (xs ++ ys) (us ++ ws)
  | _, _, _, _, .nil, s => s
  | _, _, _, _, .cons r t, s => .cons r (Vals.append t s)
theorem Vals.take : ∀ {xs : List V} {us : List Value} (n : Nat), Vals xs us → Vals (xs.take n) (us.take n)
  | _, _, 0, _ => .nil
  | _, _, _ + 1, .nil => .nil
  | _, _, n + 1, .cons r t => .cons r (Vals.take n t)
theorem Vals.drop : ∀ {xs : List V} {us : List Value} (n : Nat), Vals xs us → Vals (xs.drop n) (us.drop n)
  | _, _, 0, r => r
  | _, _, _ + 1, .nil => .nil
  | _, _, n + 1, .cons _ t => Vals.drop n t
def RelO : Option V → Option Value → Prop
  | some v, some u => RelV v u
  | none, none => True
  | _, _ => False
def KV {κ : Type} : List (κ × V) → List (κ × Value) → Prop := Paired fun (p : κ × V) (q : κ × Value) => p.1 = q.1 ∧ RelV p.2 q.2

/-- a key of a dict (00_mix): an int or a text -/
def kV : Key → V
  | .inl i => .int i
  | .inr x => .str x

/-- what stands at a tracked address -/
inductive HO where
  /-- a list -/
  | lst (xs : List V)
  /-- a tuple (never changes) -/
  | tup (xs : List V)
  /-- a dict whose keys are ints and texts; one whose keys are tuples of ints and texts (the empty one is both) -/
  | dK (kvs : List (Key × V)) | dT (kvs : List (List Key × V))
  /-- a set of ints: its members, its size -/
  | set (S : Int → Bool) (n : Nat)
  /-- an instance of the class at C, its dict at dx, its attributes -/
  | ins (C dx : Addr) (fs : List (Str × V))
  /-- the dict of the instance at x -/
  | own (x : Addr)
  /-- the dict of an exception -/
  | xd (fs : List (Str × V))
  /-- a bound method, f of x -/
  | met (f x : Addr)
  /-- a range object lo, lo + 1, .. below hi -/
  | rng (lo hi : Int)
  /-- a thing that is known to the object (the script; a dict while a loop walks it): read, never written while it is so -/
  | frz (o : Obj) (u : HO)
  /-- a code object's table -/
  | tbl (ps : Array Value)
  /-- any other thing, by what is true of its one object (a def of one's own: SetO a S n := HO.ext fun h => ..) -/
  | ext (φ : Heap → Prop)

abbrev Hp := Addr → Option HO
def upd (H : Hp) (a : Addr) (o : HO) : Hp := fun b => if b = a then some o else H b
theorem upd_same {H : Hp} {a : Addr} {o : HO} : upd H a o a = some o := by unfold upd; rw [if_pos rfl]
theorem upd_ne {H : Hp} {a b : Addr} {o : HO} (h : b ≠ a) : upd H a o b = H b := by unfold upd; rw [if_neg h]
theorem ne_of_none {H : Hp} {a b : Addr} {o : HO} (h : H a = some o) (h' : H b = none) : a ≠ b := by
  intro e; subst e; rw [h] at h'; cases h'

section
variable (P : Program) (w : World)
def ObjOk (H : Hp) (h : Heap) (a : Addr) : HO → Prop
  | .lst xs => xs.length ≤ sizeLine ∧ ∃ (its : List Value) (n : Nat), Vals xs its ∧ h.get? a = some { cls := .type "list", data := .seq its.toArray n }
  | .tup xs => xs.length ≤ sizeLine ∧ ∃ its : List Value, Vals xs its ∧ IsTup h a its.toArray
  | .dK kvs => kvs.length ≤ sizeLine ∧ (a == sysModules) = false ∧ ∃ vs, KV kvs vs ∧ h.DictOf (mixKind P w) a vs
  | .dT kvs => kvs.length ≤ sizeLine ∧ (a == sysModules) = false ∧ ∃ xs : List (List Key × Addr × Value),
      Paired (fun (p : List Key × V) (q : List Key × Addr × Value) => p.1 = q.1 ∧ H q.2.1 = some (.tup (p.1.map kV)) ∧ RelV p.2 q.2.2) kvs xs ∧
      ∃ o es ep, h.get? a = some o ∧ o.ExactDict ∧ o.data = .dict es ep ∧ es.toList = xs.map (entryOfKey (tupleKind (mixKind P w))) ∧ (xs.map (·.1)).Nodup
  | .set S n => h.SetOf (intKind P w) a S n
  | .ins C dx fs => H dx = some (.own a) ∧ fs.length ≤ 1000 ∧ dx ≠ a ∧ h.get? a = some (PySem.W.instObj C dx) ∧
      ∃ mA, h.Ns1 dx mA ∧ (∀ f, RelO (fs.lookup f) (mA f)) ∧ PySem.Within mA (fs.map (·.1))
  | .own _ => ∃ o, h.get? a = some o
  | .xd fs => ∃ mA, h.Ns1 a mA ∧ ∀ f, RelO (fs.lookup f) (mA f)
  | .rng lo hi => ∃ t u v, h.get? a = some { cls := .type "range", data := .fields #[.int lo t, .int hi u, .int 1 v] }
  | .frz o u => h.get? a = some o ∧ ObjOk H h a u
  | .tbl ps => h.get? a = some { cls := .none, data := .fields ps }
  | .met f x => h.get? a = some (PySem.W.methodObj (.ref f) (.ref x))
  | .ext φ => φ h ∧ (∃ o, h.get? a = some o) ∧ ∀ h1 h2 : Heap, φ h1 → (∀ o, h1.get? a = some o → h2.get? a = some o) → φ h2
/-- the abstract heap is held -/
def HOk (H : Hp) (h : Heap) : Prop := ∀ a o, H a = some o → ObjOk P w H h a o
end

section
variable {P : Program} {w : World} {H H' : Hp} {h h' : Heap} {a : Addr} {o : HO}
theorem ObjOk.lt (x : ObjOk P w H h a o) : a < h.objs.size := by
  cases o with
  | lst xs => obtain ⟨_, _, _, _, e⟩ := x; exact Heap.lt_size e
  | tup xs => obtain ⟨_, _, _, p⟩ := x; exact p.lt
  | dK kvs => obtain ⟨_, _, _, _, o, _, _, e, _⟩ := x; exact Heap.lt_size e
  | dT kvs => obtain ⟨_, _, _, _, o, _, _, e, _⟩ := x; exact Heap.lt_size e
  | set S n => obtain ⟨o, _, _, _, e, _⟩ := x; exact Heap.lt_size e
  | ins C dx fs => obtain ⟨_, _, _, e, _⟩ := x; exact Heap.lt_size e
  | own y => obtain ⟨_, e⟩ := x; exact Heap.lt_size e
  | xd fs => obtain ⟨_, ⟨_, _, _, e, _⟩, _⟩ := x; exact Heap.lt_size e
  | rng lo hi => obtain ⟨_, _, _, e⟩ := x; exact Heap.lt_size e
  | frz ob u => obtain ⟨e, _⟩ := x; exact Heap.lt_size e
  | tbl ps => exact Heap.lt_size (show h.get? a = some _ from x)
  | met f y => exact Heap.lt_size (show h.get? a = some _ from x)
  | ext φ => obtain ⟨_, ⟨_, e⟩, _⟩ := x; exact Heap.lt_size e
theorem Paired.mapP {α β : Type} {F G : α → β → Prop} : ∀ {l₁ : List α} {l₂ : List β}, Paired F l₁ l₂ → (∀ a b, F a b → G a b) → Paired G l₁ l₂
  | _, _, .nil, _ => .nil
  | _, _, .cons r t, f => .cons (f _ _ r) (Paired.mapP t f)
/-- what an object's description leans on: its own object, its own dict, the tuples -/
theorem ObjOk.stay (x : ObjOk P w H h a o) (k : ∀ b u, (b = a ∨ H b = some (.own a)) → h.get? b = some u → h'.get? b = some u)
    (ho : ∀ b, H b = some (.own a) → H' b = some (.own a)) (ht : ∀ b xs, H b = some (.tup xs) → H' b = some (.tup xs)) : ObjOk P w H' h' a o := by
  induction o with
  | lst xs => obtain ⟨z, its, n, r, e⟩ := x; exact ⟨z, its, n, r, k _ _ (.inl rfl) e⟩
  | tup xs => obtain ⟨z, its, r, ob, e, c⟩ := x; exact ⟨z, its, r, ob, k _ _ (.inl rfl) e, c⟩
  | dK kvs => obtain ⟨z, y, vs, r, ob, es, ep, e, c⟩ := x; exact ⟨z, y, vs, r, ob, es, ep, k _ _ (.inl rfl) e, c⟩
  | dT kvs =>
    obtain ⟨z, y, xs, r, ob, es, ep, e, c⟩ := x
    exact ⟨z, y, xs, Paired.mapP r fun p q z => ⟨z.1, ht _ _ z.2.1, z.2.2⟩, ob, es, ep, k _ _ (.inl rfl) e, c⟩
  | set S n => obtain ⟨ob, es, ep, t, e, c⟩ := x; exact ⟨ob, es, ep, t, k _ _ (.inl rfl) e, c⟩
  | ins C dx fs =>
    obtain ⟨d, z, ne, e, mA, ⟨od, es, ep, e2, c⟩, r⟩ := x
    exact ⟨ho _ d, z, ne, k _ _ (.inl rfl) e, mA, ⟨od, es, ep, k _ _ (.inr d) e2, c⟩, r⟩
  | own y => obtain ⟨ob, e⟩ := x; exact ⟨ob, k _ _ (.inl rfl) e⟩
  | xd fs => obtain ⟨mA, ⟨od, es, ep, e, c⟩, r⟩ := x; exact ⟨mA, ⟨od, es, ep, k _ _ (.inl rfl) e, c⟩, r⟩
  | rng lo hi => obtain ⟨t, u, v, e⟩ := x; exact ⟨t, u, v, k _ _ (.inl rfl) e⟩
  | frz ob u ih => obtain ⟨e, q⟩ := x; exact ⟨k _ _ (.inl rfl) e, ih q⟩
  | tbl ps =>
    have e : h.get? a = some { cls := .none, data := .fields ps } := x
    show h'.get? a = some { cls := .none, data := .fields ps }
    exact k a _ (.inl rfl) e
  | met f y =>
    have e : h.get? a = some (PySem.W.methodObj (.ref f) (.ref y)) := x
    show h'.get? a = some (PySem.W.methodObj (.ref f) (.ref y))
    exact k a _ (.inl rfl) e
  | ext φ => obtain ⟨p, ⟨o, e⟩, st⟩ := x; exact ⟨st _ _ p fun o q => k _ _ (.inl rfl) q, ⟨o, k _ _ (.inl rfl) e⟩, st⟩
theorem HOk.lt (x : HOk P w H h) (e : H a = some o) : a < h.objs.size := (x a o e).lt
theorem HOk.fresh (x : HOk P w H h) (e : h.objs.size ≤ a) : H a = none := by
  cases q : H a with
  | none => rfl
  | some u => exact absurd (Nat.lt_of_lt_of_le (x.lt q) e) (Nat.lt_irrefl _)
/-- every object of the heap is kept -/
theorem HOk.kept (x : HOk P w H h) (k : ∀ b u, h.get? b = some u → h'.get? b = some u) : HOk P w H h' := fun a o e =>
  (x a o e).stay (fun b u _ q => k b u q) (fun _ q => q) fun _ _ q => q
/-- a new object is laid and tracked -/
theorem HOk.laid (x : HOk P w H h) (k : ∀ b u, h.get? b = some u → h'.get? b = some u) (hp : h.objs.size ≤ a) (new : ObjOk P w (upd H a o) h' a o) : HOk P w (upd H a o) h' := fun b u e => by
  have hn := x.fresh hp
  by_cases hb : b = a
  · subst hb; rw [upd_same] at e; cases e; exact new
  · rw [upd_ne hb] at e
    exact (x b u e).stay (fun c v _ q => k c v q) (fun c q => by rw [upd_ne (ne_of_none q hn)]; exact q) fun c xs q => by rw [upd_ne (ne_of_none q hn)]; exact q
end

/-- what may be read as u: it is u, or a known u -/
def Rd (H : Hp) (a : Addr) (u : HO) : Prop := H a = some u ∨ ∃ o, H a = some (.frz o u)
theorem Rd.of {H : Hp} {a : Addr} {u : HO} (h : H a = some u) : Rd H a u := .inl h
theorem Rd.ok {P : Program} {w : World} {H : Hp} {h : Heap} {a : Addr} {u : HO} (r : Rd H a u) (x : HOk P w H h) : ObjOk P w H h a u := by
  rcases r with r | ⟨o, r⟩
  · exact x a u r
  · obtain ⟨_, q⟩ := x a _ r
    exact q
/-- what may be written -/
def Mut : Option HO → Prop
  | some (.lst _) => True
  | some (.dK _) => True
  | some (.dT _) => True
  | some (.set _ _) => True
  | some (.ins _ _ _) => True
  | some (.ext _) => True
  | _ => False
section
variable {P : Program} {w : World} {H : Hp} {h h' : Heap} {x e : Addr} {o' : HO}
/-- the object at e is changed: x itself, or the dict of the instance x -/
theorem HOk.write (ok : HOk P w H h) (mu : Mut (H x)) (he : e = x ∨ H e = some (.own x)) (k : ∀ b u, b ≠ e → h.get? b = some u → h'.get? b = some u) (heo : ∃ u, h'.get? e = some u)
    (new : ObjOk P w (upd H x o') h' x o') : HOk P w (upd H x o') h' := fun b u q => by
  have nown : ∀ c y, H c = some (.own y) → c ≠ x := fun c y r z => by subst z; rw [r] at mu; exact mu
  have ntup : ∀ c xs, H c = some (.tup xs) → c ≠ x := fun c xs r z => by subst z; rw [r] at mu; exact mu
  by_cases hb : b = x
  · subst hb; rw [upd_same] at q; cases q; exact new
  · rw [upd_ne hb] at q
    by_cases hbe : b = e
    · have q' : H b = some (.own x) := by
        rcases he with z | z
        · exact absurd (hbe.trans z) hb
        · rw [hbe]; exact z
      rw [q] at q'; cases q'
      obtain ⟨v, hv⟩ := heo
      exact ⟨v, by rw [hbe]; exact hv⟩
    · refine (ok b u q).stay (fun c v hc r => k c v ?_ r) (fun c r => by rw [upd_ne (nown c b r)]; exact r) fun c xs r => by rw [upd_ne (ntup c xs r)]; exact r
      rcases hc with rfl | hc
      · exact hbe
      · rintro rfl
        rcases he with z | z
        · exact nown c b hc z
        · rw [hc] at z; cases z; exact hb rfl
end

/-! ### kept unless tracked; of the frames at fs (the callers') the slots may change (an exception that passes writes there); of the records at ex (iterators) nothing is said -/
structure Un (fs ex : List Addr) (H H' : Hp) (h h' : Heap) : Prop where
  keep : ∀ b o, h.get? b = some o → H b = none → b ∉ fs → b ∉ ex → h'.get? b = some o
  slot : ∀ b o, h.get? b = some o → H b = none → b ∈ fs → b ∉ ex → ∃ sl, h'.get? b = some { o with slots := sl }
  free : ∀ b o, h.get? b = some o → H b = none → b ∉ ex → H' b = none
  there : ∀ b o, h.get? b = some o → b ∉ ex → ∃ o', h'.get? b = some o'
  tups : ∀ b xs, H b = some (.tup xs) → H' b = some (.tup xs)
  frzs : ∀ b o u, H b = some (.frz o u) → H' b = some (.frz o u)
  tbls : ∀ b ps, H b = some (.tbl ps) → ∃ more, H' b = some (.tbl (ps ++ more))
section
variable {fs fs' ex ex' : List Addr} {H H1 H2 : Hp} {h h1 h2 h' : Heap} {a x e : Addr} {o : HO}
theorem Un.any (u : Un fs ex H H1 h h1) {b : Addr} {ob : Obj} (q : h.get? b = some ob) (n : H b = none) (hx : b ∉ ex) : ∃ sl, h1.get? b = some { ob with slots := sl } := by
  by_cases hb : b ∈ fs
  · exact u.slot b ob q n hb hx
  · exact ⟨ob.slots, u.keep b ob q n hb hx⟩
theorem Un.trans (a : Un fs ex H H1 h h1) (b : Un fs ex H1 H2 h1 h2) : Un fs ex H H2 h h2 where
  keep := fun c ob q n hc hx => b.keep c ob (a.keep c ob q n hc hx) (a.free c ob q n hx) hc hx
  slot := fun c ob q n hc hx => by
    obtain ⟨sl, e1⟩ := a.slot c ob q n hc hx
    obtain ⟨sl', e2⟩ := b.slot c _ e1 (a.free c ob q n hx) hc hx
    exact ⟨sl', e2⟩
  free := fun c ob q n hx => by
    obtain ⟨o', e1⟩ := a.there c ob q hx
    exact b.free c o' e1 (a.free c ob q n hx) hx
  there := fun c ob q hx => by
    obtain ⟨o', e1⟩ := a.there c ob q hx
    exact b.there c o' e1 hx
  tups := fun c xs q => b.tups c xs (a.tups c xs q)
  frzs := fun c ob xs q => b.frzs c ob xs (a.frzs c ob xs q)
  tbls := fun c ps q => by
    obtain ⟨m1, e1⟩ := a.tbls c ps q
    obtain ⟨m2, e2⟩ := b.tbls c _ e1
    exact ⟨m1 ++ m2, by rw [e2, Array.append_assoc]⟩
theorem Un.kept (k : ∀ b u, h.get? b = some u → h'.get? b = some u) : Un fs ex H H h h' :=
  ⟨fun b ob q _ _ _ => k b ob q, fun b ob q _ _ _ => ⟨ob.slots, k b ob q⟩, fun _ _ _ n _ => n, fun b ob q _ => ⟨ob, k b ob q⟩, fun _ _ q => q, fun _ _ _ q => q, fun _ ps q => ⟨#[], by rw [q]; simp⟩⟩
theorem Un.refl : Un fs ex H H h h := Un.kept fun _ _ q => q
theorem Un.laid (k : ∀ b u, h.get? b = some u → h'.get? b = some u) (hp : h.objs.size ≤ a) (hn : H a = none) : Un fs ex H (upd H a o) h h' where
  keep := fun b u q _ _ _ => k b u q
  slot := fun b u q _ _ _ => ⟨u.slots, k b u q⟩
  free := fun b u q n _ => by rw [upd_ne (Nat.ne_of_lt (Nat.lt_of_lt_of_le (Heap.lt_size q) hp))]; exact n
  there := fun b u q _ => ⟨u, k b u q⟩
  tups := fun b xs q => by rw [upd_ne (ne_of_none q hn)]; exact q
  frzs := fun b u xs q => by rw [upd_ne (ne_of_none q hn)]; exact q
  tbls := fun b ps q => ⟨#[], by rw [upd_ne (ne_of_none q hn), q]; simp⟩
theorem Un.write (mu : Mut (H x)) (he : e = x ∨ H e = some (.own x)) (k : ∀ b u, b ≠ e → h.get? b = some u → h'.get? b = some u) (heo : ∃ u, h'.get? e = some u) : Un fs ex H (upd H x o) h h' := by
  have hx : ∀ b, H b = none → b ≠ x := fun b n z => by subst z; rw [n] at mu; exact mu
  have hb : ∀ b, H b = none → b ≠ e := fun b n z => by
    subst z
    rcases he with r | r
    · exact hx b n r
    · rw [n] at r; cases r
  have hm : ∀ b u, H b = some u → ¬ Mut (some u) → b ≠ x := fun b u q nm z => by subst z; rw [q] at mu; exact nm mu
  refine ⟨fun b u q n _ _ => k b u (hb b n) q, fun b u q n _ _ => ⟨u.slots, k b u (hb b n) q⟩, fun b u q n _ => by rw [upd_ne (hx b n)]; exact n, fun b u q _ => ?_,
    fun b xs q => by rw [upd_ne (hm b _ q fun z => z)]; exact q, fun b u xs q => by rw [upd_ne (hm b _ q fun z => z)]; exact q, fun b ps q => ⟨#[], by rw [upd_ne (hm b _ q fun z => z), q]; simp⟩⟩
  by_cases hbe : b = e
  · subst hbe; exact heo
  · exact ⟨u, k b u hbe q⟩
theorem Un.mono (u : Un fs ex H H1 h h1) (hs : ∀ b ∈ fs, b ∈ fs') (hx : ∀ b ∈ ex, b ∈ ex') : Un fs' ex' H H1 h h1 :=
  ⟨fun b ob q n hb he => u.keep b ob q n (fun z => hb (hs b z)) fun z => he (hx b z), fun _ _ q n _ he => u.any q n fun z => he (hx _ z), fun b ob q n he => u.free b ob q n fun z => he (hx b z), fun b ob q he => u.there b ob q fun z => he (hx b z), u.tups, u.frzs, u.tbls⟩
end

/-! ### the heap without what is tracked -/
def trk (h : Heap) (H : Hp) : List Addr := (List.range h.objs.size).filter fun a => (H a).isSome
def hidT (h : Heap) (H : Hp) : Heap := PySem.W.hideAll h (trk h H)
theorem hidT_size (h : Heap) (H : Hp) : (hidT h H).objs.size = h.objs.size := PySem.W.hideAll_size _ _
theorem hidT_get {h : Heap} {H : Hp} {b : Addr} {o : Obj} (e : h.get? b = some o) (n : H b = none) : (hidT h H).get? b = some o :=
  PySem.W.hideAll_get _ e fun hm => by
    have q : (H b).isSome = true := (List.mem_filter.mp hm).2
    rw [n] at q; simp at q
theorem of_hidT {h : Heap} {H : Hp} {b : Addr} {o : Obj} (e : (hidT h H).get? b = some o) : h.get? b = some o ∧ H b = none := by
  have e' : h.get? b = some o := PySem.W.of_hideAll (trk h H) e
  refine ⟨e', ?_⟩
  cases q : H b with
  | none => rfl
  | some x =>
    have hm : b ∈ trk h H := List.mem_filter.mpr ⟨List.mem_range.mpr (Heap.lt_size e'), by simp [q]⟩
    have z : (hidT h H).get? b = none := PySem.W.hideAll_none (trk h H) hm
    rw [z] at e; cases e

/-! ### OpenK's ledger, filled with every new object but one -/
def allNews (g h : Heap) (L : Addr) : List (Addr × Obj) := (List.range h.objs.size).filterMap fun a => if a = L ∨ (g.get? a).isSome = true then none else (h.get? a).map fun o => (a, o)
def rest (g h : Heap) (L d : Addr) : List (Addr × Obj) := (allNews g h L).filter fun p => decide (p.1 ≠ d)
end L2

namespace L2
open PySem PySem.Spec PyProof.Rows

/-- the module's facts, over the base: the heap at the law's entry without what is tracked there -/
structure Mod (K : PySem.W.Frag) (mg : Str → Option Value) (base : Heap) : Prop where
  kin : K.In base
  glob : base.Ns mainGlobals mg
  blt : ∃ mb, base.Ns builtinsNs mb ∧ ∀ x : Str, x ≠ "__name__" → mb x = bootBuiltins x
  nolimit : base.NoLimit

/-- the context: a def's body (or a comprehension's block) running. base: fixed through the whole law; s₀, H₀: the entry; outer: the frames whose slots others may change (a def's callers); stack: all frames that run;
   ex: iterators that were made ahead of the entry and are walked here (a comprehension's); fn: the names whose cells were made at the entry (a def: all; a comprehension's block: its own); calm: not within an except suite; pn: pins that every state bears; xe: what is wanted of an exception that leaves the code -/
structure Cx where
  prog : Program
  w : World
  K : PySem.W.Frag
  mg : Str → Option Value
  base : Heap
  A : Around
  N : List Str
  s₀ : Shared
  H₀ : Hp
  env : Env
  outer : List Env
  stack : List Env
  ex : List Addr
  fn : Str → Bool
  calm : Bool
  pn : List (Addr × Obj)
  xe : Value → Shared → Prop
/-- the callers' frames -/
def frs (l : List Env) : List Addr := l.filterMap (·.frame)
abbrev Cx.fs (X : Cx) : List Addr := frs X.outer

def Vis (sc : Scope) (x : Str) : Prop := sc.names.lookup x = some .local ∨ sc.names.lookup x = some .cell ∨ sc.names.lookup x = some .free
def Loc (sc : Scope) (x : Str) : Prop := sc.names.lookup x = some .local ∨ sc.names.lookup x = some .cell
def Look (env : Env) (h : Heap) (m : Str → Option Value) (x : Str) (u : Value) : Prop :=
  (env.kindOf x = some .local ∧ m x = some u) ∨ ((env.kindOf x = some .cell ∨ env.kindOf x = some .free) ∧ ∃ c, env.cells.lookup x = some c ∧ h.IsCell c (some u))

structure Cx.Ok (X : Cx) : Prop where
  mod : Mod X.K X.mg X.base
  kind : X.env.scope.kind = .function
  glob : X.env.globals = mainGlobals
  blt : X.env.builtins = builtinsNs
  above : X.s₀.heap.objs.size ≤ X.env.locals
  inj : ∀ x y c, X.env.cells.lookup x = some c → X.env.cells.lookup y = some c → x = y
  has : ∀ x, (X.env.kindOf x = some .cell ∨ X.env.kindOf x = some .free) → ∃ c, X.env.cells.lookup x = some c
  cab : ∀ x c, X.fn x = true → X.env.cells.lookup x = some c → X.s₀.heap.objs.size ≤ c
  hd : X.calm = true → X.A.handled = none
  frames : X.A.frames = some X.stack
  stk : X.stack = X.outer ∨ (X.stack = X.env :: X.outer ∧ X.env.frame = some X.env.locals)
  exf : ∀ b ∈ X.ex, b ≠ X.env.locals ∧ ∀ x c, X.env.cells.lookup x = some c → c ≠ b
  bs : ∀ b o, X.base.get? b = some o → X.s₀.heap.get? b = some o ∧ X.H₀ b = none
  bsz : X.base.objs.size ≤ X.s₀.heap.objs.size
  noex : ∀ b o, X.base.get? b = some o → b ∉ X.ex
  exfs : ∀ b ∈ X.ex, b ∉ X.fs
  funs : X.s₀.heap.FunFrames X.base X.outer
  frf : ∀ b ∈ X.fs, X.H₀ b = none

structure Inv (X : Cx) (pins : List (Addr × Obj)) (σ : List (Option V)) (H : Hp) (s : Shared) : Prop where
  ok : X.Ok
  os : s.os = X.s₀.os
  bare : AllBare s.gens
  base : Un X.fs X.ex X.H₀ H X.s₀.heap s.heap
  loc : ∃ m, s.heap.Ns X.env.locals m ∧ ∀ (i : Nat) (x : Str) (v : V), X.N[i]? = some x → σ[i]? = some (some v) → Vis X.env.scope x → ∃ u, RelV v u ∧ Look X.env s.heap m x u
  cell : ∀ x c, X.env.cells.lookup x = some c → ∃ v, s.heap.IsCell c v
  free : H X.env.locals = none
  freeC : ∀ x c, X.env.cells.lookup x = some c → H c = none
  pin : ∀ p ∈ X.pn ++ pins, s.heap.get? p.1 = some p.2 ∧ H p.1 = none ∧ p.1 ≠ X.env.locals ∧ p.1 ∉ X.fs ∧ ∀ v, p.2.data ≠ .cell v
  hok : HOk X.prog X.w H s.heap
  len : σ.length = X.N.length

section
variable {X : Cx} {pins : List (Addr × Obj)} {σ : List (Option V)} {H H' : Hp} {s : Shared} {h' : Heap}

theorem Cx.Ok.nofr (ok : X.Ok) {b : Addr} {o : Obj} (e : X.base.get? b = some o) : b ∉ X.fs := fun hb => by
  have := (ok.funs.mem hb).1
  rw [e] at this; cases this
theorem Inv.bs (I : Inv X pins σ H s) : ∀ b o, X.base.get? b = some o → s.heap.get? b = some o ∧ H b = none := fun b o e =>
  ⟨I.base.keep b o (I.ok.bs b o e).1 (I.ok.bs b o e).2 (I.ok.nofr e) (I.ok.noex b o e), I.base.free b o (I.ok.bs b o e).1 (I.ok.bs b o e).2 (I.ok.noex b o e)⟩
theorem Inv.bk (I : Inv X pins σ H s) : ∀ b o, X.base.get? b = some o → s.heap.get? b = some o := fun b o e => (I.bs b o e).1
theorem Inv.mod (I : Inv X pins σ H s) : Mod X.K X.mg X.base := I.ok.mod
theorem Inv.kIn (I : Inv X pins σ H s) : X.K.In s.heap := I.ok.mod.kin.keeps I.bk
theorem Inv.nolimit (I : Inv X pins σ H s) : s.heap.NoLimit := I.ok.mod.nolimit.keeps I.bk
theorem Inv.lt (I : Inv X pins σ H s) : X.env.locals < s.heap.objs.size := let ⟨_, hn, _⟩ := I.loc; hn.lt
theorem Inv.sz (I : Inv X pins σ H s) : X.s₀.heap.objs.size ≤ s.heap.objs.size := Nat.le_trans I.ok.above (Nat.le_of_lt I.lt)
theorem Inv.nofs (I : Inv X pins σ H s) {a : Addr} (h : s.heap.objs.size ≤ a) : a ∉ X.fs := fun hb => by
  obtain ⟨_, o, ho, _⟩ := I.ok.funs.mem hb
  exact absurd (Nat.lt_of_lt_of_le (Heap.lt_size ho) (Nat.le_trans I.sz h)) (Nat.lt_irrefl _)
theorem Inv.cne (I : Inv X pins σ H s) : ∀ x c, X.env.cells.lookup x = some c → c ≠ X.env.locals := fun x c e z => by
  obtain ⟨v, o, ho, hd⟩ := I.cell x c e
  obtain ⟨m, ⟨o', es, ep, ho', hd', _⟩, _⟩ := I.loc
  rw [z, ho'] at ho; cases ho; rw [hd'] at hd; cases hd
theorem Inv.funs (I : Inv X pins σ H s) : s.heap.FunFrames X.base X.outer := by
  have all : ∀ (l : List Env), (∀ b ∈ frs l, b ∈ X.fs) → X.s₀.heap.FunFrames X.base l → s.heap.FunFrames X.base l := by
    intro l
    induction l with
    | nil => intro _ _; trivial
    | cons env r ih =>
      intro hs hl
      obtain ⟨hk, ⟨L, o, hf, hn, ho, hd⟩, hr⟩ := hl
      have hL : L ∈ X.fs := hs L (by unfold frs; rw [List.filterMap_cons, hf]; exact List.mem_cons_self)
      obtain ⟨sl, e⟩ := I.base.slot L o ho (I.ok.frf L hL) hL fun z => I.ok.exfs L z hL
      exact ⟨hk, ⟨L, _, hf, hn, e, hd⟩, ih (fun b hb => hs b (by unfold frs; rw [List.filterMap_cons, hf]; exact List.mem_cons_of_mem _ hb)) hr⟩
  exact all X.outer (fun _ hb => hb) I.ok.funs

/-- the frames that run, for a call -/
theorem Inv.stack (I : Inv X pins σ H s) : s.heap.FunFrames X.base X.stack := by
  rcases I.ok.stk with e | ⟨e, hf⟩
  · rw [e]; exact I.funs
  · rw [e]
    obtain ⟨m, hn, _⟩ := I.loc
    refine .cons (by rw [I.ok.kind]; decide) hf hn ?_ I.funs
    exact Heap.get?_none_of_le (Nat.le_trans I.ok.bsz I.ok.above)
theorem Inv.stkSub (I : Inv X pins σ H s) : ∀ b ∈ frs X.stack, b ∈ X.env.locals :: X.fs := fun b hb => by
  rcases I.ok.stk with e | ⟨e, hf⟩
  · rw [e] at hb; exact List.mem_cons_of_mem _ hb
  · rw [e] at hb
    unfold frs at hb
    rw [List.filterMap_cons, hf] at hb
    exact hb
theorem Inv.stkFree (I : Inv X pins σ H s) : ∀ b ∈ frs X.stack, H b = none := fun b hb => by
  rcases List.mem_cons.mp (I.stkSub b hb) with e | hb
  · rw [e]; exact I.free
  · obtain ⟨_, o, ho, _⟩ := I.ok.funs.mem hb
    exact I.base.free b o ho (I.ok.frf b hb) fun z => I.ok.exfs b z hb

/-- THE STEP: the untracked objects but the frame and the records at ch are kept (the callers' frames up to slots), the frame's map is kept, the new abstract heap is held -/
theorem Inv.step {g' : Array GenState} {t' : Nat} {d' : Drawn} {ch : List Addr} (I : Inv X pins σ H s)
    (hch : ∀ b ∈ ch, (b ∈ X.ex ∨ X.s₀.heap.objs.size ≤ b) ∧ b ≠ X.env.locals ∧ (∀ x c, X.env.cells.lookup x = some c → c ≠ b) ∧ ∀ p ∈ X.pn ++ pins, p.1 ≠ b)
    (keep : ∀ b o, b ≠ X.env.locals → b ∉ X.fs → b ∉ ch → s.heap.get? b = some o → H b = none → h'.get? b = some o)
    (slot : ∀ b o, b ≠ X.env.locals → b ∈ X.fs → b ∉ ch → s.heap.get? b = some o → H b = none → ∃ sl, h'.get? b = some { o with slots := sl }) (free : ∀ b o, b ∉ ch → s.heap.get? b = some o → H b = none → H' b = none)
    (there : ∀ b o, b ∉ ch → s.heap.get? b = some o → ∃ o', h'.get? b = some o')
    (tups : ∀ b xs, H b = some (.tup xs) → H' b = some (.tup xs)) (frzs : ∀ b o u, H b = some (.frz o u) → H' b = some (.frz o u)) (tbls : ∀ b ps, H b = some (.tbl ps) → ∃ more, H' b = some (.tbl (ps ++ more)))
    (ns : ∀ m, s.heap.Ns X.env.locals m → h'.Ns X.env.locals m) (hok : HOk X.prog X.w H' h') (hg : AllBare g') :
    Inv X pins σ H' { s with heap := h', gens := g', drawn := d', toks := t' } := by
  have neL : ∀ b o, X.s₀.heap.get? b = some o → b ≠ X.env.locals := fun b o e => Nat.ne_of_lt (Nat.lt_of_lt_of_le (Heap.lt_size e) I.ok.above)
  have neC : ∀ b o, X.s₀.heap.get? b = some o → b ∉ X.ex → b ∉ ch := fun b o e hx hb => by
    rcases (hch b hb).1 with z | z
    · exact hx z
    · exact absurd (Nat.lt_of_lt_of_le (Heap.lt_size e) z) (Nat.lt_irrefl _)
  have cellK : ∀ x c, X.env.cells.lookup x = some c → ∀ v, s.heap.IsCell c v → h'.IsCell c v := fun x c e v ⟨o, ho, hd⟩ => by
    have nch : c ∉ ch := fun z => (hch c z).2.2.1 x c e rfl
    by_cases hc : c ∈ X.fs
    · obtain ⟨sl, q⟩ := slot c o (I.cne x c e) hc nch ho (I.freeC x c e)
      exact ⟨_, q, hd⟩
    · exact ⟨o, keep c o (I.cne x c e) hc nch ho (I.freeC x c e), hd⟩
  refine ⟨I.ok, I.os, hg, ⟨fun b o e n hb hx => ?_, fun b o e n hb hx => ?_, fun b o e n hx => ?_, fun b o e hx => ?_, fun b xs e => tups b xs (I.base.tups b xs e), fun b o xs e => frzs b o xs (I.base.frzs b o xs e), fun b ps e => ?_⟩, ?_, fun x c e => ?_, ?_, fun x c e => ?_, fun p hp => ?_, hok, I.len⟩
  · exact keep b o (neL b o e) hb (neC b o e hx) (I.base.keep b o e n hb hx) (I.base.free b o e n hx)
  · obtain ⟨sl, e1⟩ := I.base.slot b o e n hb hx
    obtain ⟨sl', e2⟩ := slot b _ (neL b o e) hb (neC b o e hx) e1 (I.base.free b o e n hx)
    exact ⟨sl', e2⟩
  · obtain ⟨o', e1⟩ := I.base.there b o e hx
    exact free b o' (neC b o e hx) e1 (I.base.free b o e n hx)
  · obtain ⟨o', e1⟩ := I.base.there b o e hx
    exact there b o' (neC b o e hx) e1
  · obtain ⟨m1, e1⟩ := I.base.tbls b ps e
    obtain ⟨m2, e2⟩ := tbls b _ e1
    exact ⟨m1 ++ m2, by rw [e2, Array.append_assoc]⟩
  · obtain ⟨m, hn, hl⟩ := I.loc
    refine ⟨m, ns m hn, fun i x v e1 e2 e3 => ?_⟩
    obtain ⟨u, r, l⟩ := hl i x v e1 e2 e3
    refine ⟨u, r, ?_⟩
    rcases l with l | ⟨k, c, e, z⟩
    · exact .inl l
    · exact .inr ⟨k, c, e, cellK x c e _ z⟩
  · obtain ⟨v, z⟩ := I.cell x c e
    exact ⟨v, cellK x c e v z⟩
  · obtain ⟨m, ⟨o, _, _, ho, _⟩, _⟩ := I.loc
    exact free _ o (fun z => (hch _ z).2.1 rfl) ho I.free
  · obtain ⟨v, o, ho, hd⟩ := I.cell x c e
    exact free c o (fun z => (hch c z).2.2.1 x c e rfl) ho (I.freeC x c e)
  · obtain ⟨e, n, ne, nf, d⟩ := I.pin p hp
    have nch : p.1 ∉ ch := fun z => (hch p.1 z).2.2.2 p hp rfl
    exact ⟨keep p.1 p.2 ne nf nch e n, free p.1 p.2 nch e n, ne, nf, d⟩
/-- .. where the frame's own object is kept too -/
theorem Inv.un {t' : Nat} (I : Inv X pins σ H s) (u : Un X.fs [] H H' s.heap h') (hok : HOk X.prog X.w H' h') : Inv X pins σ H' { s with heap := h', toks := t' } := by
  obtain ⟨m, ⟨o, es, ep, ho, r⟩, _⟩ := id I.loc
  obtain ⟨sl, hL⟩ := u.any ho I.free (by simp)
  exact I.step (g' := s.gens) (d' := s.drawn) (ch := []) (fun _ z => nomatch z) (fun b o _ hb _ e n => u.keep b o e n hb (by simp)) (fun b o _ hb _ e n => u.slot b o e n hb (by simp)) (fun b o _ e n => u.free b o e n (by simp)) (fun b o _ e => u.there b o e (by simp)) u.tups u.frzs u.tbls (fun m' hm => by
    obtain ⟨o', es', ep', ho', r'⟩ := hm
    rw [ho] at ho'; cases ho'
    exact ⟨_, es', ep', hL, r'⟩) hok I.bare
/-- behind a call (or a comprehension's block): the slots of this frame may have changed too, the records at ch may have turned -/
theorem Inv.call {g' : Array GenState} {t' : Nat} {d' : Drawn} {ch : List Addr} (I : Inv X pins σ H s) (u : Un (frs X.stack) ch H H' s.heap h') (hok : HOk X.prog X.w H' h') (hg : AllBare g')
    (hch : ∀ b ∈ ch, (b ∈ X.ex ∨ X.s₀.heap.objs.size ≤ b) ∧ b ≠ X.env.locals ∧ (∀ x c, X.env.cells.lookup x = some c → c ≠ b) ∧ ∀ p ∈ X.pn ++ pins, p.1 ≠ b) :
    Inv X pins σ H' { s with heap := h', gens := g', drawn := d', toks := t' } := by
  obtain ⟨m, ⟨o, es, ep, ho, r⟩, _⟩ := id I.loc
  obtain ⟨sl, hL⟩ := u.any ho I.free fun z => (hch _ z).2.1 rfl
  exact I.step (ch := ch) hch (fun b o hL hb hc e n => u.keep b o e n (fun z => (List.mem_cons.mp (I.stkSub b z)).elim hL hb) hc) (fun b o _ _ hc e n => u.any e n hc) (fun b o hc e n => u.free b o e n hc) (fun b o hc e => u.there b o e hc) u.tups u.frzs u.tbls (fun m' hm => by
    obtain ⟨o', es', ep', ho', r'⟩ := hm
    rw [ho] at ho'; cases ho'
    exact ⟨_, es', ep', hL, r'⟩) hok hg
/-- an untracked record of ours (an iterator) has turned -/
theorem Inv.turned {t' : Nat} {it : Addr} (I : Inv X pins σ H s) (k : ∀ b o, b ≠ it → s.heap.get? b = some o → h'.get? b = some o) (hn : H it = none) (hL : it ≠ X.env.locals)
    (h1 : it ∈ X.ex ∨ X.s₀.heap.objs.size ≤ it) (h2 : ∀ x c, X.env.cells.lookup x = some c → c ≠ it) (h3 : ∀ p ∈ X.pn ++ pins, p.1 ≠ it) : Inv X pins σ H { s with heap := h', toks := t' } := by
  have nit : ∀ b u, H b = some u → b ≠ it := fun b u e z => by rw [z, hn] at e; cases e
  refine I.step (g' := s.gens) (d' := s.drawn) (ch := [it]) (fun b hb => ?_) (fun b o _ _ hc e _ => k b o (fun z => hc (by simp [z])) e) (fun b o _ _ hc e _ => ⟨o.slots, k b o (fun z => hc (by simp [z])) e⟩) (fun _ _ _ _ n => n)
    (fun b o hc e => ⟨o, k b o (fun z => hc (by simp [z])) e⟩) (fun _ _ e => e) (fun _ _ _ e => e) (fun b ps e => ⟨#[], by rw [e]; simp⟩) (fun m hm => ?_) (fun b u e => ?_) I.bare
  · have e : b = it := by simpa using hb
    subst e
    exact ⟨h1, hL, h2, h3⟩
  · obtain ⟨o, es, ep, ho, r⟩ := hm
    exact ⟨o, es, ep, k _ o (Ne.symm hL) ho, r⟩
  · refine (I.hok b u e).stay (fun c v hc q => k c v ?_ q) (fun _ q => q) fun _ _ q => q
    rcases hc with z | z
    · rw [z]; exact nit b u e
    · exact nit c _ z
theorem Inv.tok (I : Inv X pins σ H s) (t : Nat) : Inv X pins σ H { s with toks := t } := I.un (h' := s.heap) (t' := t) Un.refl I.hok
/-- all objects kept -/
theorem Inv.kept {t' : Nat} (I : Inv X pins σ H s) (k : ∀ b u, s.heap.get? b = some u → h'.get? b = some u) : Inv X pins σ H { s with heap := h', toks := t' } := I.un (Un.kept k) (I.hok.kept k)
/-- a new object laid and tracked -/
theorem Inv.laid {a : Addr} {o : HO} {t' : Nat} (I : Inv X pins σ H s) (k : ∀ b u, s.heap.get? b = some u → h'.get? b = some u) (hp : s.heap.objs.size ≤ a) (new : ObjOk X.prog X.w (upd H a o) h' a o) :
    Inv X pins σ (upd H a o) { s with heap := h', toks := t' } := I.un (Un.laid k hp (I.hok.fresh hp)) (I.hok.laid k hp new)
/-- an object written -/
theorem Inv.write {x e : Addr} {o : HO} {t' : Nat} (I : Inv X pins σ H s) (mu : Mut (H x)) (he : e = x ∨ H e = some (.own x)) (k : ∀ b u, b ≠ e → s.heap.get? b = some u → h'.get? b = some u) (heo : ∃ u, h'.get? e = some u)
    (new : ObjOk X.prog X.w (upd H x o) h' x o) : Inv X pins σ (upd H x o) { s with heap := h', toks := t' } := I.un (Un.write mu he k heo) (I.hok.write mu he k heo new)
theorem Inv.pins_of {pins' : List (Addr × Obj)} (I : Inv X pins σ H s) (h : ∀ p ∈ pins', s.heap.get? p.1 = some p.2 ∧ H p.1 = none ∧ p.1 ≠ X.env.locals ∧ p.1 ∉ X.fs ∧ ∀ v, p.2.data ≠ .cell v) : Inv X pins' σ H s :=
  ⟨I.ok, I.os, I.bare, I.base, I.loc, I.cell, I.free, I.freeC, fun p hp => (List.mem_append.mp hp).elim (fun z => I.pin p (List.mem_append_left _ z)) (h p), I.hok, I.len⟩

theorem nodup_ix {N : List Str} (hN : N.Nodup) {i j : Nat} {x : Str} (a : N[i]? = some x) (b : N[j]? = some x) : i = j := by
  obtain ⟨h1, e1⟩ := List.getElem?_eq_some_iff.mp a
  obtain ⟨h2, e2⟩ := List.getElem?_eq_some_iff.mp b
  exact (List.getElem_inj hN).mp (e1.trans e2.symm)

/-- a name is stored; what changed -/
theorem store_ok2 {M : Model} {A : Around} {E : Value → Shared → Prop} {i : Nat} {x : Str} {v : V} {u : Value} {Q : Unit → Shared → Prop} (I : Inv X pins σ H s) (hN : X.N.Nodup) (hi : X.N[i]? = some x) (hx : Loc X.env.scope x) (r : RelV v u)
    (h : ∀ s', Inv X pins (σ.set i (some v)) H s' → (∃ a, Heap.SameBut a s.heap s'.heap ∧ (a = X.env.locals ∨ X.env.cells.lookup x = some a)) → Q () s') (hf : X.fn x = true ∨ X.env.scope.names.lookup x = some .local := by first | exact .inl rfl | exact .inr rfl | assumption) : wpAny M A (storeName X.env x u) Q E s := by
  obtain ⟨m, hn, hl⟩ := id I.loc
  have hcls : (X.env.scope.kind == .class || (X.env.scope.kind == .module && X.env.locals != X.env.globals)) = false := by rw [I.ok.kind]; rfl
  have hiσ : i < σ.length := by rw [I.len]; exact (List.getElem?_eq_some_iff.mp hi).1
  have cne := I.cne
  have tracked : ∀ {a : Addr} {h' : Heap}, (∃ o, s.heap.get? a = some o ∧ H a = none) → Heap.SameBut a s.heap h' → HOk X.prog X.w H h' := fun {a h'} ha hs b ob e => by
    obtain ⟨_, _, hfree⟩ := ha
    refine (I.hok b ob e).stay (fun c w' hc q => (hs.2 c ?_).trans q) (fun _ q => q) fun _ _ q => q
    rintro rfl
    rcases hc with rfl | hc
    · rw [hfree] at e; cases e
    · rw [hfree] at hc; cases hc
  rcases hx with hk | hk
  · refine wpAny_storeName_local hk hn (fun h' hn' hs => ?_) hcls
    obtain ⟨oL, _, _, hoL, _⟩ := id hn
    refine h _ ⟨I.ok, I.os, I.bare, ⟨fun b o e n hb hx => ?_, fun b o e n hb hx => ?_, I.base.free, fun b o e hx => ?_, I.base.tups, I.base.frzs, I.base.tbls⟩, ⟨_, hn', fun j y v' e1 e2 e3 => ?_⟩, fun y c e => ?_, I.free, I.freeC, fun p hp => ?_, tracked ⟨oL, hoL, I.free⟩ hs, by simpa using I.len⟩ ⟨_, hs, .inl rfl⟩
    · exact (hs.2 b (Nat.ne_of_lt (Nat.lt_of_lt_of_le (Heap.lt_size e) I.ok.above))).trans (I.base.keep b o e n hb hx)
    · obtain ⟨sl, e1⟩ := I.base.slot b o e n hb hx
      exact ⟨sl, (hs.2 b (Nat.ne_of_lt (Nat.lt_of_lt_of_le (Heap.lt_size e) I.ok.above))).trans e1⟩
    · obtain ⟨o', e1⟩ := I.base.there b o e hx
      exact ⟨o', (hs.2 b (Nat.ne_of_lt (Nat.lt_of_lt_of_le (Heap.lt_size e) I.ok.above))).trans e1⟩
    · by_cases hj : j = i
      · subst hj
        rw [hi] at e1; cases e1
        rw [List.getElem?_set_self hiσ] at e2
        cases e2
        exact ⟨u, r, .inl ⟨hk, by simp⟩⟩
      · rw [List.getElem?_set_ne (Ne.symm hj)] at e2
        obtain ⟨u', r', q⟩ := hl j y v' e1 e2 e3
        refine ⟨u', r', ?_⟩
        rcases q with ⟨k, e⟩ | ⟨k, c, e, z⟩
        · refine .inl ⟨k, ?_⟩
          have : y ≠ x := fun e => hj (nodup_ix hN e1 (e ▸ hi))
          simp [this, e]
        · exact .inr ⟨k, c, e, z.sameBut hs (cne y c e)⟩
    · obtain ⟨w', z⟩ := I.cell y c e
      exact ⟨w', z.sameBut hs (cne y c e)⟩
    · obtain ⟨e, n, ne, nf, d⟩ := I.pin p hp
      exact ⟨(hs.2 p.1 ne).trans e, n, ne, nf, d⟩
  · have hfn : X.fn x = true := by
      rcases hf with z | z
      · exact z
      · rw [z] at hk; cases hk
    obtain ⟨c, hc⟩ := I.ok.has x (.inl hk)
    obtain ⟨w', z⟩ := I.cell x c hc
    refine wpAny_storeName_cell I.ok.kind hk hc z (fun h' hc' hs => ?_)
    obtain ⟨oc, hoc, hocd⟩ := id z
    refine h { s with heap := h' } ⟨I.ok, I.os, I.bare, ⟨fun b o e n hb hx => ?_, fun b o e n hb hx => ?_, I.base.free, fun b o e hx => ?_, I.base.tups, I.base.frzs, I.base.tbls⟩, ⟨m, hn.sameBut hs (Ne.symm (cne x c hc)), fun j y v' e1 e2 e3 => ?_⟩, fun y c' e => ?_, I.free, I.freeC, fun p hp => ?_, tracked ⟨oc, hoc, I.freeC x c hc⟩ hs, by simpa using I.len⟩ ⟨c, hs, .inr hc⟩
    · exact (hs.2 b (Nat.ne_of_lt (Nat.lt_of_lt_of_le (Heap.lt_size e) (I.ok.cab x c hfn hc)))).trans (I.base.keep b o e n hb hx)
    · obtain ⟨sl, e1⟩ := I.base.slot b o e n hb hx
      exact ⟨sl, (hs.2 b (Nat.ne_of_lt (Nat.lt_of_lt_of_le (Heap.lt_size e) (I.ok.cab x c hfn hc)))).trans e1⟩
    · obtain ⟨o', e1⟩ := I.base.there b o e hx
      exact ⟨o', (hs.2 b (Nat.ne_of_lt (Nat.lt_of_lt_of_le (Heap.lt_size e) (I.ok.cab x c hfn hc)))).trans e1⟩
    · by_cases hj : j = i
      · subst hj
        rw [hi] at e1; cases e1
        rw [List.getElem?_set_self hiσ] at e2
        cases e2
        exact ⟨u, r, .inr ⟨.inl hk, c, hc, hc'⟩⟩
      · rw [List.getElem?_set_ne (Ne.symm hj)] at e2
        obtain ⟨u', r', q⟩ := hl j y v' e1 e2 e3
        refine ⟨u', r', ?_⟩
        rcases q with q | ⟨k, c', e, z'⟩
        · exact .inl q
        · refine .inr ⟨k, c', e, z'.sameBut hs ?_⟩
          rintro rfl
          exact hj (nodup_ix hN e1 (I.ok.inj _ _ _ e hc ▸ hi))
    · by_cases hcc : c' = c
      · subst hcc; exact ⟨_, hc'⟩
      · obtain ⟨w2, z2⟩ := I.cell y c' e
        exact ⟨w2, z2.sameBut hs hcc⟩
    · obtain ⟨e, n, ne, nf, d⟩ := I.pin p hp
      refine ⟨(hs.2 p.1 ?_).trans e, n, ne, nf, d⟩
      intro q
      rw [q, hoc] at e
      have q' : oc = p.2 := Option.some.inj e
      exact d w' (by rw [← q']; exact hocd)
theorem store_ok {M : Model} {A : Around} {E : Value → Shared → Prop} {i : Nat} {x : Str} {v : V} {u : Value} {Q : Unit → Shared → Prop} (I : Inv X pins σ H s) (hN : X.N.Nodup) (hi : X.N[i]? = some x) (hx : Loc X.env.scope x) (r : RelV v u)
    (h : ∀ s', Inv X pins (σ.set i (some v)) H s' → Q () s') (hf : X.fn x = true ∨ X.env.scope.names.lookup x = some .local := by first | exact .inl rfl | exact .inr rfl | assumption) : wpAny M A (storeName X.env x u) Q E s :=
  store_ok2 I hN hi hx r (fun s' I' _ => h s' I') hf
end

/-! ### the judgements -/
/-- an exception: its class, its own dict's address (where it has one), the abstract heap behind it -/
abbrev XK := Value → Option Addr → Hp → Prop
abbrev St := List (Option V)
abbrev VK := V → Hp → Prop
/-- an expression's reading; a test's; an argument list's -/
abbrev TE := St → Hp → VK → Prop
abbrev TT := St → Hp → (Bool → Hp → Prop) → Prop
abbrev TA := St → Hp → (List V → Hp → Prop) → Prop
/-- what is wanted behind a statement -/
structure Ends where
  nx : St → Hp → Prop
  rt : VK
  bk : St → Hp → Prop := fun _ _ => False
  ct : St → Hp → Prop := fun _ _ => False
abbrev TS := Ends → St → Hp → Prop

def EP (X : Cx) (pins : List (Addr × Obj)) (σ : St) (Q : VK) (u : Value) (s' : Shared) : Prop := ∃ v H', Inv X pins σ H' s' ∧ RelV v u ∧ Q v H'
def TP (X : Cx) (pins : List (Addr × Obj)) (σ : St) (Q : Bool → Hp → Prop) (b : Bool) (s' : Shared) : Prop := ∃ H', Inv X pins σ H' s' ∧ Q b H'
def AP (X : Cx) (pins : List (Addr × Obj)) (σ : St) (Q : List V → Hp → Prop) (us : List Value) (s' : Shared) : Prop := ∃ vs H', Inv X pins σ H' s' ∧ Vals vs us ∧ Q vs H'
def SP (X : Cx) (pins : List (Addr × Obj)) (D : Ends) (f : Flow) (s' : Shared) : Prop :=
  match f with
  | .next => ∃ σ' H', Inv X pins σ' H' s' ∧ D.nx σ' H'
  | .brk => ∃ σ' H', Inv X pins σ' H' s' ∧ D.bk σ' H'
  | .cont => ∃ σ' H', Inv X pins σ' H' s' ∧ D.ct σ' H'
  | .ret u => ∃ v σ' H', Inv X pins σ' H' s' ∧ RelV v u ∧ D.rt v H'

def PE (X : Cx) (e : Expr) (t : TE) : Prop :=
  ∀ (pins : List (Addr × Obj)) (s : Shared) (σ : St) (H : Hp) (Q : VK), Inv X pins σ H s → t σ H Q → wpAny (model X.prog X.w) X.A (eval e X.env) (EP X pins σ Q) X.xe s
def PT (X : Cx) (e : Expr) (t : TT) : Prop :=
  ∀ (pins : List (Addr × Obj)) (s : Shared) (σ : St) (H : Hp) (Q : Bool → Hp → Prop), Inv X pins σ H s → t σ H Q → wpAny (model X.prog X.w) X.A (isTrue e X.env (eval e X.env)) (TP X pins σ Q) X.xe s
/-- a test whatever its 'whole' is (and, or) -/
def PW (X : Cx) (e : Expr) (t : TT) : Prop :=
  ∀ (whole : Sem Value) (pins : List (Addr × Obj)) (s : Shared) (σ : St) (H : Hp) (Q : Bool → Hp → Prop), Inv X pins σ H s → t σ H Q → wpAny (model X.prog X.w) X.A (isTrue e X.env whole) (TP X pins σ Q) X.xe s
theorem PW.pt {X : Cx} {e : Expr} {t : TT} (h : PW X e t) : PT X e t := h _
/-- an argument list (no star), from the left -/
def PA (X : Cx) (es : List Expr) (t : TA) : Prop :=
  ∀ (pos : Pos) (pins : List (Addr × Obj)) (s : Shared) (σ : St) (H : Hp) (Q : List V → Hp → Prop), Inv X pins σ H s → t σ H Q → wpAny (model X.prog X.w) X.A (spliced (backTo pos (starEach es X.env))) (AP X pins σ Q) X.xe s
def PS (X : Cx) (st : Stmt) (t : TS) : Prop :=
  ∀ (pins : List (Addr × Obj)) (s : Shared) (σ : St) (H : Hp) (D : Ends), Inv X pins σ H s → t D σ H → wpAny (model X.prog X.w) X.A (exec st X.env) (SP X pins D) X.xe s
def PSs (X : Cx) (st : List Stmt) (t : TS) : Prop :=
  ∀ (pins : List (Addr × Obj)) (s : Shared) (σ : St) (H : Hp) (D : Ends), Inv X pins σ H s → t D σ H → wpAny (model X.prog X.w) X.A (execs st X.env) (SP X pins D) X.xe s
/-- weaken the end -/
theorem thn {α : Type} {t : Sem α} {Q Q' : α → Shared → Prop} {M : Model} {A : Around} {E : Value → Shared → Prop} {s : Shared} (h : wpAny M A t Q E s) (hQ : ∀ a s, Q a s → Q' a s) : wpAny M A t Q' E s := wpAny_mono h hQ fun _ _ x => x
end L2

namespace L2
open PySem PySem.Spec PyProof.Rows
section
variable {X : Cx}

/-! ### names and constants -/
def tVar (i : Nat) : TE := fun σ H Q => ∃ v, σ[i]? = some (some v) ∧ Q v H
def tC (v : V) : TE := fun _ H Q => Q v H
theorem pe_var {i : Nat} {x : Str} {pos : Pos} (hN : X.N[i]? = some x) (hv : Vis X.env.scope x) (hd : (x == ("__debug__" : Str)) = false := by decide) (hcd : (x == ("__classdict__" : Str)) = false := by decide) : PE X (.Name x pos) (tVar i) := by
  intro pins s σ H Q I h
  obtain ⟨v, e, h⟩ := h
  obtain ⟨m, hn, hl⟩ := I.loc
  obtain ⟨u, r, l⟩ := hl i x v hN e hv
  have fin : EP X pins σ Q u s := ⟨v, H, I, r, h⟩
  rcases l with ⟨hk, hm⟩ | ⟨hk, c, hc, hcell⟩
  · exact wpAny_Name (wpAny_loadName_local I.ok.kind hk hn hm fin) hd
  · rcases hk with hk | hk
    · exact wpAny_Name (wpAny_loadName_cell I.ok.kind hk hc hcell fin) hd
    · exact wpAny_Name (wpAny_loadName_free I.ok.kind hk hc hcell fin hcd) hd
theorem pe_int {i j pos} : PE X (.Constant (.int i) j pos) (tC (.int i)) := fun _ _ _ H _ I h => wpAny_Constant_int ⟨.int i, H, I.tok _, ⟨_, rfl⟩, h⟩
theorem pe_bl {b j pos} : PE X (.Constant (.bool b) j pos) (tC (.bl b)) := fun _ _ _ H _ I h => Constant_bool ⟨.bl b, H, I, rfl, h⟩
theorem pe_str {x j pos} : PE X (.Constant (.str x) j pos) (tC (.str x)) := fun _ _ _ H _ I h => Calls.Constant_str ⟨.str x, H, I.tok _, ⟨_, rfl⟩, h⟩

/-- a global name of the def -/
def Gl (X : Cx) (x : Str) : Prop := X.env.kindOf x = some .globalImplicit
theorem ld_glob {E : Value → Shared → Prop} {pins : List (Addr × Obj)} {s : Shared} {σ : St} {H : Hp} {x : Str} {u : Value} {pos : Pos} {Q : Value → Shared → Prop} (I : Inv X pins σ H s) (hg : Gl X x) (hm : X.mg x = some u) (h : Q u s)
    (hd : (x == ("__debug__" : Str)) = false := by decide) : wpAny (model X.prog X.w) X.A (eval (.Name x pos) X.env) Q E s :=
  Calls.Name_function_global I.ok.kind hg (Calls.loadGlobal_global (by rw [I.ok.glob]; exact I.mod.glob.keeps I.bk) hm h) hd
theorem ld_blt {E : Value → Shared → Prop} {pins : List (Addr × Obj)} {s : Shared} {σ : St} {H : Hp} {x : Str} {u : Value} {pos : Pos} {Q : Value → Shared → Prop} (I : Inv X pins σ H s) (hg : Gl X x) (hm : X.mg x = none) (hv : bootBuiltins x = some u) (h : Q u s)
    (hn : x ≠ "__name__" := by decide) (hd : (x == ("__debug__" : Str)) = false := by decide) : wpAny (model X.prog X.w) X.A (eval (.Name x pos) X.env) Q E s := by
  obtain ⟨mb, h1, h2⟩ := I.mod.blt
  exact Calls.Name_function_global I.ok.kind hg (Calls.loadGlobal_builtin (by rw [I.ok.glob]; exact I.mod.glob.keeps I.bk) hm (by rw [I.ok.blt]; exact h1.keeps I.bk) ((h2 x hn).trans hv) h) hd
/-- a module's constant, a class, a function, as a value -/
theorem pe_glob {x : Str} {v : V} {u : Value} {pos : Pos} (hg : Gl X x) (hm : X.mg x = some u) (r : RelV v u) (hd : (x == ("__debug__" : Str)) = false := by decide) : PE X (.Name x pos) (tC v) :=
  fun _ _ _ H _ I h => ld_glob I hg hm ⟨v, H, I, r, h⟩ hd
theorem pe_bltn {x : Str} {v : V} {u : Value} {pos : Pos} (hg : Gl X x) (hm : X.mg x = none) (hv : bootBuiltins x = some u) (r : RelV v u) (hn : x ≠ "__name__" := by decide) (hd : (x == ("__debug__" : Str)) = false := by decide) : PE X (.Name x pos) (tC v) :=
  fun _ _ _ H _ I h => ld_blt I hg hm hv ⟨v, H, I, r, h⟩ hn hd

/-! ### arithmetic -/
variable {a b : Expr} {ta tb : TE} {pos : Pos}
/-! ### comparisons -/
/-- a comparison as a value, as a test -/
def tB (t : TE) : TT := fun σ H Q => t σ H fun x H1 => ∃ c, x = .bl c ∧ Q c H1
/-- an expression whose value is a bool, as a test -/
theorem pt_val {e : Expr} {t : TE} (h : PE X e t) (he : ∀ whole, isTrue e X.env whole = (do let v ← whole; standAt e.pos; holding [v] (truthy v)) := by intro _; rfl) : PT X e (tB t) := by
  intro pins s σ H Q I hw
  refine isTrue_plain (thn (h pins s σ H _ I hw) fun v s1 ⟨x, H1, I1, r1, q1⟩ => ?_) (he _)
  obtain ⟨d, rfl, q⟩ := q1
  cases r1
  exact wpAny_truthy_bool ⟨H1, I1, q⟩

/-! ### and, or, not -/
variable {tA tB' : TT} {rest : List Expr}
def tAnd (t u : TT) : TT := fun σ H Q => t σ H fun c H1 => if c = true then u σ H1 Q else Q false H1
def tOr (t u : TT) : TT := fun σ H Q => t σ H fun c H1 => if c = true then Q true H1 else u σ H1 Q
def tNot (t : TT) : TT := fun σ H Q => t σ H fun c H1 => Q (!c) H1
theorem pw_and1 (ha : PT X a tA) : PW X (.BoolOp .And [a] pos) tA := by
  intro wh pins s σ H Q I h
  refine isTrue_and (thn (ha pins s σ H Q I h) fun c s1 e => ?_)
  cases c with
  | true => exact isTrue_and_nil e
  | false => exact e
theorem pw_or1 (ha : PT X a tA) : PW X (.BoolOp .Or [a] pos) tA := by
  intro wh pins s σ H Q I h
  refine isTrue_or (thn (ha pins s σ H Q I h) fun c s1 e => ?_)
  cases c with
  | false => exact isTrue_or_nil e
  | true => exact e
theorem pw_and (ha : PT X a tA) (hb : PW X (.BoolOp .And (b :: rest) pos) tB') : PW X (.BoolOp .And (a :: b :: rest) pos) (tAnd tA tB') := by
  intro wh pins s σ H Q I h
  refine isTrue_and (thn (ha pins s σ H _ I h) fun c s1 ⟨H1, I1, q1⟩ => ?_)
  cases c with
  | true => exact hb wh pins s1 σ H1 Q I1 q1
  | false => exact ⟨H1, I1, q1⟩
theorem pw_or (ha : PT X a tA) (hb : PW X (.BoolOp .Or (b :: rest) pos) tB') : PW X (.BoolOp .Or (a :: b :: rest) pos) (tOr tA tB') := by
  intro wh pins s σ H Q I h
  refine isTrue_or (thn (ha pins s σ H _ I h) fun c s1 ⟨H1, I1, q1⟩ => ?_)
  cases c with
  | true => exact ⟨H1, I1, q1⟩
  | false => exact hb wh pins s1 σ H1 Q I1 q1
theorem pt_not (ha : PT X a tA) : PT X (.UnaryOp .Not a pos) (tNot tA) := by
  intro pins s σ H Q I h
  exact isTrue_not (ha pins s σ H (fun c H1 => Q (!c) H1) I h)
/-- .. as values (bools) -/
def tAndV (ta tb : TE) : TE := fun σ H Q => ta σ H fun x H1 => ∃ c, x = .bl c ∧ if c = true then tb σ H1 Q else Q (.bl false) H1
theorem pe_one {op} {t : TE} (h : PE X a t) : PE X (.BoolOp op [a] pos) t := fun pins s σ H Q I hw => BoolOp_one (h pins s σ H Q I hw)
theorem pe_and (ha : PE X a ta) (hb : PE X (.BoolOp .And (b :: rest) pos) tb) : PE X (.BoolOp .And (a :: b :: rest) pos) (tAndV ta tb) := by
  intro pins s σ H Q I h
  refine BoolOp_and (thn (ha pins s σ H _ I h) fun v s1 ⟨x, H1, I1, r1, q1⟩ => ?_)
  obtain ⟨c, rfl, q1⟩ := q1
  cases r1
  refine wpAny_truthy_bool ?_
  cases c with
  | true => exact hb pins s1 σ H1 Q I1 q1
  | false => exact ⟨.bl false, H1, I1, rfl, q1⟩
end
end L2

namespace L2
open PySem PySem.Spec PyProof.Rows

/-! ### a list, a tuple that is read: tracked, frozen, or an object of the module -/
def SqL (K : PySem.W.Frag) (H : Hp) (a : Addr) (xs : List V) : Prop :=
  Rd H a (.lst xs) ∨
    ∃ (o : Obj) (its : Array Value) (n : Nat), K.lookup a = some o ∧ o.cls = .type "list" ∧ o.dict = none ∧ o.data = .seq its n ∧ its.size ≤ sizeLine ∧ Vals xs its.toList
def SqT (K : PySem.W.Frag) (H : Hp) (a : Addr) (xs : List V) : Prop :=
  Rd H a (.tup xs) ∨
    ∃ (o : Obj) (its : Array Value) (n : Nat), K.lookup a = some o ∧ o.cls = .type "tuple" ∧ o.data = .seq its n ∧ its.size ≤ sizeLine ∧ Vals xs its.toList
def absV : Value → Option V
  | .none => some .non
  | .bool b => some (.bl b)
  | .int i _ => some (.int i)
  | .str x _ => some (.str x)
  | .bytes b _ => some (.byt b)
  | .float b _ => some (.flt b)
  | .ref a => some (.ref a)
  | .type n => some (.ty n)
  | _ => none
theorem RelV.abs {x : V} {u : Value} (r : RelV x u) : absV u = some x := by
  cases x with
  | non => cases r; rfl
  | bl _ => cases r; rfl
  | int _ => obtain ⟨t, rfl⟩ := r; rfl
  | str _ => obtain ⟨t, rfl⟩ := r; rfl
  | byt _ => obtain ⟨t, rfl⟩ := r; rfl
  | flt _ => obtain ⟨t, rfl⟩ := r; rfl
  | ref _ => cases r; rfl
  | ty _ => cases r; rfl
theorem RelV.inj {x y : V} {u : Value} (r : RelV x u) (q : RelV y u) : x = y := Option.some.inj (r.abs.symm.trans q.abs)
theorem Vals.inj : ∀ {xs ys : List V} {us : List Value}, Vals xs us → Vals ys us → xs = ys
  | _, _, _, .nil, .nil => rfl
  | _, _, _, .cons r t, .cons r' t' => by rw [r.inj r', Vals.inj t t']
section
variable {X : Cx} {pins : List (Addr × Obj)} {σ : St} {H : Hp} {s : Shared} {a : Addr} {xs ys : List V}
theorem SqL.of {K : PySem.W.Frag} (h : H a = some (.lst xs)) : SqL K H a xs := .inl (.inl h)
theorem SqT.of {K : PySem.W.Frag} (h : H a = some (.tup xs)) : SqT K H a xs := .inl (.inl h)
theorem Inv.list (I : Inv X pins σ H s) (h : SqL X.K H a xs) : ∃ its : List Value, Vals xs its ∧ PlainL s.heap a its.toArray ∧ xs.length ≤ sizeLine := by
  rcases h with h | ⟨o, its, n, hk, hc, hd, hs, hz, r⟩
  · obtain ⟨z, its, n, r, e⟩ := h.ok I.hok
    exact ⟨its, r, ⟨_, n, e, rfl, rfl, rfl⟩, z⟩
  · refine ⟨its.toList, r, ⟨o, n, I.kIn a o hk, hc, hd, by simpa using hs⟩, ?_⟩
    have e := r.length
    simp only [Array.length_toList] at e
    omega
theorem Inv.tuple (I : Inv X pins σ H s) (h : SqT X.K H a xs) : ∃ its : List Value, Vals xs its ∧ IsTup s.heap a its.toArray ∧ xs.length ≤ sizeLine := by
  rcases h with h | ⟨o, its, n, hk, hc, hs, hz, r⟩
  · obtain ⟨z, its, r, p⟩ := h.ok I.hok
    exact ⟨its, r, p, z⟩
  · refine ⟨its.toList, r, ⟨o, I.kIn a o hk, hc, n, by simpa using hs⟩, ?_⟩
    have e := r.length
    simp only [Array.length_toList] at e
    omega
theorem Inv.list_inj (I : Inv X pins σ H s) (h : SqL X.K H a xs) (h' : SqL X.K H a ys) : xs = ys := by
  obtain ⟨its, r, ⟨o, n, e, _, _, d⟩, _⟩ := I.list h
  obtain ⟨its', r', ⟨o', n', e', _, _, d'⟩, _⟩ := I.list h'
  rw [e] at e'; cases e'
  rw [d] at d'
  injection d' with d1 _
  have : its = its' := by simpa using congrArg Array.toList d1
  subst this
  exact r.inj r'
end

/-! ### another wish about exceptions -/
abbrev Cx.wish (X : Cx) (E : Value → Shared → Prop) : Cx := { X with xe := E }
/-- no exception leaves -/
abbrev Cx.nox (X : Cx) : Cx := X.wish fun _ _ => False
theorem Cx.Ok.wish {X : Cx} (ok : X.Ok) (E : Value → Shared → Prop) : (X.wish E).Ok :=
  ⟨ok.mod, ok.kind, ok.glob, ok.blt, ok.above, ok.inj, ok.has, ok.cab, ok.hd, ok.frames, ok.stk, ok.exf, ok.bs, ok.bsz, ok.noex, ok.exfs, ok.funs, ok.frf⟩
theorem Cx.Ok.unwish {X : Cx} {E : Value → Shared → Prop} (ok : (X.wish E).Ok) : X.Ok :=
  ⟨ok.mod, ok.kind, ok.glob, ok.blt, ok.above, ok.inj, ok.has, ok.cab, ok.hd, ok.frames, ok.stk, ok.exf, ok.bs, ok.bsz, ok.noex, ok.exfs, ok.funs, ok.frf⟩
section
variable {X : Cx} {pins : List (Addr × Obj)} {σ : St} {H : Hp} {s : Shared} {E : Value → Shared → Prop}
theorem Inv.wish (I : Inv X pins σ H s) (E : Value → Shared → Prop) : Inv (X.wish E) pins σ H s := ⟨I.ok.wish E, I.os, I.bare, I.base, I.loc, I.cell, I.free, I.freeC, I.pin, I.hok, I.len⟩
theorem Inv.unwish (I : Inv (X.wish E) pins σ H s) : Inv X pins σ H s := ⟨I.ok.unwish, I.os, I.bare, I.base, I.loc, I.cell, I.free, I.freeC, I.pin, I.hok, I.len⟩
theorem SP.unwish {D : Ends} {f : Flow} {s' : Shared} (h : SP (X.wish E) pins D f s') : SP X pins D f s' := by
  cases f with
  | next => obtain ⟨σ', H', I, q⟩ := h; exact ⟨σ', H', I.unwish, q⟩
  | brk => obtain ⟨σ', H', I, q⟩ := h; exact ⟨σ', H', I.unwish, q⟩
  | cont => obtain ⟨σ', H', I, q⟩ := h; exact ⟨σ', H', I.unwish, q⟩
  | ret u => obtain ⟨v, σ', H', I, r, q⟩ := h; exact ⟨v, σ', H', I.unwish, r, q⟩
theorem PE.nox {e : Expr} {t : TE} (h : PE X.nox e t) : PE X e t := fun pins s σ H Q I hw =>
  wpAny_mono (h pins s σ H Q (I.wish _) hw) (fun _ _ ⟨v, H', I', r, q⟩ => ⟨v, H', I'.unwish, r, q⟩) fun _ _ z => False.elim z
theorem PT.nox {e : Expr} {t : TT} (h : PT X.nox e t) : PT X e t := fun pins s σ H Q I hw =>
  wpAny_mono (h pins s σ H Q (I.wish _) hw) (fun _ _ ⟨H', I', q⟩ => ⟨H', I'.unwish, q⟩) fun _ _ z => False.elim z
theorem PSs.nox {st : List Stmt} {t : TS} (h : PSs X.nox st t) : PSs X st t := fun pins s σ H D I hw =>
  wpAny_mono (h pins s σ H D (I.wish _) hw) (fun _ _ q => q.unwish) fun _ _ z => False.elim z
end

/-! ### blocks and small statements -/
section
variable {X : Cx} {st : Stmt} {rest : List Stmt} {t u : TS} {e : Expr} {te : TE} {pos : Pos}
def tNext : TS := fun D σ H => D.nx σ H
def tSeq (t u : TS) : TS := fun D σ H => t { D with nx := u D } σ H
theorem pss_nil : PSs X [] tNext := fun _ _ σ H _ I h => wpAny_execs_nil ⟨σ, H, I, h⟩
theorem pss_cons (h1 : PS X st t) (h2 : PSs X rest u) : PSs X (st :: rest) (tSeq t u) := by
  intro pins s σ H D I h
  refine wpAny_execs_cons (thn (h1 pins s σ H { D with nx := u D } I h) fun f s1 q => ?_)
  cases f with
  | next =>
    obtain ⟨σ', H', I', q⟩ := q
    exact h2 pins s1 σ' H' D I' q
  | ret v => exact q
  | brk => exact q
  | cont => exact q
def tRet (te : TE) : TS := fun D σ H => te σ H D.rt
theorem ps_ret (he : PE X e te) : PS X (.Return (some e) pos) (tRet te) := by
  intro pins s σ H D I h
  exact wpAny_Return_some (thn (he pins s σ H _ I h) fun v s1 ⟨x, H1, I1, r1, q1⟩ => ⟨x, σ, H1, I1, r1, q1⟩)
def tIfS (c : TT) (t u : TS) : TS := fun D σ H => c σ H fun b H1 => if b = true then t D σ H1 else u D σ H1
theorem ps_if {c : Expr} {a b : List Stmt} {tc : TT} (hc : PT X c tc) (ha : PSs X a t) (hb : PSs X b u) : PS X (.If c a b pos) (tIfS tc t u) := by
  intro pins s σ H D I h
  refine wpAny_If (thn (hc pins s σ H _ I h) fun d s1 ⟨H1, I1, q1⟩ => ?_)
  cases d with
  | true => exact ha pins s1 σ H1 D I1 q1
  | false => exact hb pins s1 σ H1 D I1 q1
end

/-! ### targets -/
abbrev TG := V → St → Hp → (St → Hp → Prop) → Prop
def PG (X : Cx) (target : Expr) (t : TG) : Prop :=
  ∀ (pins : List (Addr × Obj)) (s : Shared) (σ : St) (H : Hp) (v : V) (u : Value) (Q : St → Hp → Prop), Inv X pins σ H s → RelV v u → t v σ H Q →
    wpAny (model X.prog X.w) X.A (assign target X.env u) (fun _ s' => ∃ σ' H', Inv X pins σ' H' s' ∧ Q σ' H') X.xe s
section
variable {X : Cx} {pos : Pos}
def gName (i : Nat) : TG := fun v σ H Q => Q (σ.set i (some v)) H
theorem pg_name {i : Nat} {x : Str} (hN : X.N.Nodup) (hi : X.N[i]? = some x) (hx : Loc X.env.scope x) (hf : X.fn x = true ∨ X.env.scope.names.lookup x = some .local := by first | exact .inl rfl | exact .inr rfl | assumption) : PG X (.Name x pos) (gName i) := by
  intro pins s σ H v u Q I r h
  exact wpAny_assign_Name (store_ok I hN hi hx r (fun s' I' => ⟨_, H, I', h⟩) hf)
/-- target = value -/
def tAsg (te : TE) (g : TG) : TS := fun D σ H => te σ H fun x H1 => g x σ H1 D.nx
/-- name = value -/
theorem ps_set {i : Nat} {x : Str} {e : Expr} {te : TE} {pos' : Pos} (hN : X.N.Nodup) (hi : X.N[i]? = some x) (hx : Loc X.env.scope x) (he : PE X e te) (hs : swapsWith e (some (.Name x pos')) pos.line X.env = pure false := by rfl) (hf : X.fn x = true ∨ X.env.scope.names.lookup x = some .local := by first | exact .inl rfl | exact .inr rfl | assumption) :
    PS X (.Assign [.Name x pos'] e pos) (tAsg te (gName i)) := by
  intro pins s σ H D I h
  refine wpAny_Assign_Name (thn (he pins s σ H _ I h) fun v s1 ⟨y, H1, I1, r1, q1⟩ => ?_) hs
  exact store_ok I1 hN hi hx r1 (fun s2 I2 => ⟨_, H1, I2, q1⟩) hf
end

/-! ### while -/
section
variable {X : Cx} {pos : Pos}
end

/-! ### what a loop or a comprehension walks -/
/-- at turn i: it yields x (the heap may grow), or it stops -/
structure It where
  go : Nat → Hp → Prop
  yld : Nat → Hp → V → Hp → Prop
  stop : Nat → Hp → Prop
/-- the iterator's own objects may turn: they are not the frame's, not pinned, younger than the entry (or a comprehension's own) -/
def FpOk (X : Cx) (pins : List (Addr × Obj)) (H : Hp) (b : Addr) : Prop :=
  H b = none ∧ b ≠ X.env.locals ∧ b ∉ X.fs ∧ (b ∈ X.ex ∨ X.s₀.heap.objs.size ≤ b) ∧ (∀ x c, X.env.cells.lookup x = some c → c ≠ b) ∧ ∀ p ∈ X.pn ++ pins, p.1 ≠ b
theorem Inv.fpOk {X : Cx} {pins : List (Addr × Obj)} {σ : St} {H H' : Hp} {s : Shared} {b : Addr} (I : Inv X pins σ H s) (hb : s.heap.objs.size ≤ b) (hn : H' b = none) : FpOk X pins H' b := by
  refine ⟨hn, Nat.ne_of_gt (Nat.lt_of_lt_of_le I.lt hb), I.nofs hb, .inr (Nat.le_trans I.sz hb), fun x c e z => ?_, fun p hp z => ?_⟩
  · obtain ⟨v, q⟩ := I.cell x c e
    exact absurd (Nat.lt_of_lt_of_le q.lt (by rw [z]; exact hb)) (Nat.lt_irrefl _)
  · exact absurd (Nat.lt_of_lt_of_le (Heap.lt_size (I.pin p hp).1) (by rw [z]; exact hb)) (Nat.lt_irrefl _)
structure Turn (P : Program) (w : World) (K : PySem.W.Frag) (tg : Expr) (J : It) (fp : List Addr) (it : Addr) (tn : Nat → Heap → Prop) : Prop where
  mem : it ∈ fp
  obj : ∀ i h, tn i h → ∀ b ∈ fp, ∃ o, h.get? b = some o ∧ ∀ v, o.data ≠ .cell v
  keep : ∀ i h h', tn i h → (∀ b ∈ fp, ∀ o, h.get? b = some o → h'.get? b = some o) → tn i h'
  item : ∀ (X : Cx), X.prog = P → X.w = w → X.K = K → X.calm = true → ∀ (i : Nat) (pins : List (Addr × Obj)) (s : Shared) (σ : St) (H : Hp) (E : Value → Shared → Prop), Inv X pins σ H s → (∀ b ∈ fp, FpOk X pins H b) → tn i s.heap → J.go i H →
    wpAny (model P w) X.A (pyNext (.ref it)) (fun r s1 => ∃ u, r = some u ∧
      wpAny (model P w) X.A (letOwnedTupleGo tg (.ref it) u) (fun _ s2 => ∃ x H', Inv X pins σ H' s2 ∧ RelV x u ∧ J.yld i H x H' ∧ tn (i + 1) s2.heap ∧ ∀ b ∈ fp, H' b = none) E s1) E s
  done : ∀ (X : Cx), X.prog = P → X.w = w → X.K = K → X.calm = true → ∀ (i : Nat) (pins : List (Addr × Obj)) (s : Shared) (σ : St) (H : Hp) (E : Value → Shared → Prop), Inv X pins σ H s → (∀ b ∈ fp, FpOk X pins H b) → tn i s.heap → J.stop i H →
    wpAny (model P w) X.A (pyNext (.ref it)) (fun r s1 => r = none ∧ Inv X pins σ H s1) E s
  self : ∀ (A : Around) (i : Nat) (s : Shared) (Q : Value → Shared → Prop) (E : Value → Shared → Prop), tn i s.heap → Q (.ref it) s → wpAny (model P w) A (pyIter (.ref it)) Q E s
abbrev TI := St → Hp → (It → Hp → Prop) → Prop
/-- an iterator has come -/
def PIE (X : Cx) (pins : List (Addr × Obj)) (σ : St) (tg : Expr) (R : It → Hp → Prop) (itv : Value) (s2 : Shared) : Prop :=
  ∃ (it : Addr) (fp : List Addr) (tn : Nat → Heap → Prop) (J : It) (H' : Hp), itv = .ref it ∧ Inv X pins σ H' s2 ∧ Turn X.prog X.w X.K tg J fp it tn ∧ tn 0 s2.heap ∧ (∀ b ∈ fp, FpOk X pins H' b) ∧ R J H'
def PI (X : Cx) (tg iter : Expr) (wi : TI) : Prop :=
  ∀ (pins : List (Addr × Obj)) (s : Shared) (σ : St) (H : Hp) (R : It → Hp → Prop), Inv X pins σ H s → wi σ H R →
    wpAny (model X.prog X.w) X.A (eval iter X.env) (fun v s1 => wpAny (model X.prog X.w) X.A (pyIter v) (PIE X pins σ tg R) X.xe s1) X.xe s

/-- the step ahead of the store is nothing for an iterator that keeps no tuple -/
theorem go_of {M : Model} {A : Around} {E : Value → Shared → Prop} {s : Shared} {tg : Expr} {it : Addr} {u : Value} {o : Obj} {n : String} {vs : Array Value} {Q : Unit → Shared → Prop} (ho : s.heap.get? it = some o) (hc : o.cls = .type n) (hd : o.data = .fields vs)
    (hn : ["enumerate", "zip", "dict_itemiterator", "dict_reverseitemiterator", "odict_iterator", "itertools.zip_longest", "itertools.pairwise"].contains n = false) (hQ : Q () s) : wpAny M A (letOwnedTupleGo tg (.ref it) u) Q E s := by
  unfold letOwnedTupleGo
  cases tg <;> first
    | exact wpAny_pure hQ
    | (cases u <;> first
        | exact wpAny_pure hQ
        | (refine wpAny_bind (wpAny_load ho ?_)
           rw [hc, hd]
           show wpAny M A (if (["enumerate", "zip", "dict_itemiterator", "dict_reverseitemiterator", "odict_iterator", "itertools.zip_longest", "itertools.pairwise"].contains n && vs[0]? == some (rawInt _)) = true then _ else _) Q E s
           rw [if_neg (by intro h; rw [hn, Bool.false_and] at h; cases h)]
           exact wpAny_pure hQ))

/-- the list at a, as it stands at each turn (a loop may append to it) -/
def Itl (K : PySem.W.Frag) (a : Addr) : It :=
  ⟨fun i H => ∃ xs x, SqL K H a xs ∧ xs[i]? = some x, fun i H x H' => H' = H ∧ ∀ xs, SqL K H a xs → xs[i]? = some x, fun i H => ∃ xs, SqL K H a xs ∧ xs.length ≤ i⟩
/-- lo, lo + 1, .. (n of them) -/
def Itr (lo : Int) (n : Nat) : It := ⟨fun i _ => i < n, fun i H x H' => H' = H ∧ x = .int (lo + i), fun i _ => n ≤ i⟩
theorem turn_list {P : Program} {w : World} {K : PySem.W.Frag} {tg : Expr} (a it : Addr) : Turn P w K tg (Itl K a) [it] it (fun i h => h.IsListIter it a i) where
  mem := by simp
  obj := fun i h st b hb => by
    have e : b = it := by simpa using hb
    subst e
    obtain ⟨o, e, c, d⟩ := st
    exact ⟨o, e, fun v z => by rw [d] at z; cases z⟩
  keep := fun i h h' st k => st.at fun o e => k it (by simp) o e
  item := by
    intro X hP hw hK hc i pins s σ H E I hf st hg
    subst hP hw hK
    obtain ⟨xs, x, hq, hx⟩ := hg
    obtain ⟨its, rv, p, hz⟩ := I.list hq
    obtain ⟨u, hu, ru⟩ := rv.get hx
    obtain ⟨f0, f1, f2, f3, f4, f5⟩ := hf it (by simp)
    refine wpAny_pyNext_list_item st p.isList (x := u) (by simpa using hu) fun h' st' sb => ?_
    have I1 : Inv X pins σ H { s with heap := h' } := I.turned (t' := s.toks) (fun b o hb e => (sb.2 b hb).trans e) f0 f1 f3 f4 f5
    obtain ⟨o, e, c, d⟩ := id st'
    exact ⟨u, rfl, go_of (s := { s with heap := h' }) e c d (by decide) ⟨x, H, I1, ru, ⟨rfl, fun ys hy => by rw [I.list_inj hy hq]; exact hx⟩, st', fun b hb => (hf b hb).1⟩⟩
  done := by
    intro X hP hw hK hc i pins s σ H E I hf st hg
    subst hP hw hK
    obtain ⟨xs, hq, hx⟩ := hg
    obtain ⟨its, rv, p, hz⟩ := I.list hq
    obtain ⟨f0, f1, f2, f3, f4, f5⟩ := hf it (by simp)
    have hl := rv.length
    exact wpAny_pyNext_list_end (I.ok.hd hc) st p.isList (by simp; omega) fun h' eb => ⟨rfl, I.turned (t' := s.toks) (fun b o hb e => eb b o hb e) f0 f1 f3 f4 f5⟩
  self := fun _ _ _ _ _ st h => wpAny_pyIter_listiter st h
theorem turn_range {P : Program} {w : World} {K : PySem.W.Frag} {tg : Expr} (it : Addr) (lo : Int) (n : Nat) : Turn P w K tg (Itr lo n) [it] it (fun i h => IsRangeIter h it (lo + (i : Nat) * 1) ((n : Int) - (i : Nat)) 1) where
  mem := by simp
  obj := fun i h st b hb => by
    have e : b = it := by simpa using hb
    subst e
    exact ⟨_, st, fun v z => by
      have z' : Data.fields _ = Data.cell v := z
      cases z'⟩
  keep := fun i h h' st k => k it (by simp) _ st
  item := by
    intro X hP hw hK hc i pins s σ H E I hf st hg
    subst hP hw hK
    obtain ⟨f0, f1, f2, f3, f4, f5⟩ := hf it (by simp)
    have W := Walks.range (prog := X.prog) (w := X.w) (I.ok.hd hc) it lo 1 n
    refine W.item i s _ _ hg st fun v h' tk hv st' kk => ?_
    obtain ⟨t, rfl⟩ := hv
    have I1 : Inv X pins σ H { s with heap := h', toks := tk } := I.turned (fun b o hb e => kk b o (by simpa using hb) e) f0 f1 f3 f4 f5
    refine ⟨_, rfl, go_of (s := { s with heap := h', toks := tk }) (n := "range_iterator") st' rfl rfl (by decide) ⟨.int (lo + i), H, I1, ⟨t, ?_⟩, ⟨rfl, rfl⟩, st', fun b hb => (hf b hb).1⟩⟩
    rw [Int.mul_one]
  done := by
    intro X hP hw hK hc i pins s σ H E I hf st hg
    subst hP hw hK
    obtain ⟨f0, f1, f2, f3, f4, f5⟩ := hf it (by simp)
    exact wpAny_pyNext_range_end (I.ok.hd hc) st (by have : n ≤ i := hg; omega) fun h' eb => ⟨rfl, I.turned (t' := s.toks) (fun b o hb e => eb b o hb e) f0 f1 f3 f4 f5⟩
  self := fun _ _ _ _ _ st h => wpAny_pyIter_rangeiter st h
end L2

namespace L2
open PySem PySem.Spec PyProof.Rows
section
variable {X : Cx} {tg : Expr}
def iList (K : PySem.W.Frag) (tl : TE) : TI := fun σ H R => tl σ H fun x H1 => ∃ a, x = .ref a ∧ (∃ xs, SqL K H1 a xs) ∧ R (Itl K a) H1
theorem pi_list {l : Expr} {tl : TE} (hl : PE X l tl) : PI X tg l (iList X.K tl) := by
  intro pins s σ H R I h
  refine thn (hl pins s σ H _ I h) fun v s1 ⟨x, H1, I1, r1, q1⟩ => ?_
  obtain ⟨a, e, ⟨xs, hq⟩, q⟩ := q1
  subst e
  cases r1
  obtain ⟨its, rv, p, hz⟩ := I1.list hq
  refine wpAny_pyIter_list p.isList ?_
  refine ⟨s1.heap.objs.size, [s1.heap.objs.size], _, _, H1, rfl, I1.kept (t' := s1.toks) fun b o e => Heap.get?_push_of_some _ e, turn_list a _, ⟨_, Heap.get?_push_size _ rfl, rfl, rfl⟩, fun b hb => ?_, q⟩
  have e : b = s1.heap.objs.size := by simpa using hb
  subst e
  exact I1.fpOk (Nat.le_refl _) (I1.hok.fresh (Nat.le_refl _))
/-- a range object just made, walked -/
theorem range_it {pins : List (Addr × Obj)} {σ : St} {H : Hp} {s : Shared} {R : It → Hp → Prop} {E : Value → Shared → Prop} {lo hi : Int} {t u v : Tok} {tk : Nat} (I : Inv X pins σ H s) (h1 : -(2 ^ 62) ≤ lo) (h2 : lo < 2 ^ 62) (h3 : -(2 ^ 62) ≤ hi) (h4 : hi < 2 ^ 62)
    (q : R (Itr lo (hi - lo).toNat) H) : wpAny (model X.prog X.w) X.A (pyIter (.ref s.heap.objs.size)) (PIE X pins σ tg R) E { s with heap := s.heap.push { cls := .type "range", data := .fields #[.int lo t, .int hi u, .int 1 v] }, toks := tk } := by
  refine wpAny_pyIter_range (IsRange.new ..) (small_one h1 h2 h3 h4) ?_
  have I1 : Inv X pins σ H { s with heap := s.heap.push { cls := .type "range", data := .fields #[.int lo t, .int hi u, .int 1 v] }, toks := tk } := I.kept fun b o e => Heap.get?_push_of_some _ e
  refine ⟨(s.heap.push { cls := .type "range", data := .fields #[.int lo t, .int hi u, .int 1 v] }).objs.size, [(s.heap.push { cls := .type "range", data := .fields #[.int lo t, .int hi u, .int 1 v] }).objs.size], _, _, H, rfl,
    I1.kept (t' := tk) fun b o e => Heap.get?_push_of_some _ e, turn_range _ lo (hi - lo).toNat, ?_, fun b hb => ?_, q⟩
  · have e1 : lo + ((0 : Nat) : Int) * 1 = lo := by simp
    have e2 : (((hi - lo).toNat : Nat) : Int) - ((0 : Nat) : Int) = Builtin.Range.rangeSize lo hi 1 := by rw [rangeSize_one]; split <;> omega
    show IsRangeIter _ _ (lo + ((0 : Nat) : Int) * 1) ((((hi - lo).toNat : Nat) : Int) - ((0 : Nat) : Int)) 1
    rw [e1, e2]
    exact Heap.get?_push_size _ rfl
  · have e : b = (s.heap.push { cls := .type "range", data := .fields #[.int lo t, .int hi u, .int 1 v] }).objs.size := by simpa using hb
    subst e
    exact I1.fpOk (Nat.le_refl _) (I1.hok.fresh (Nat.le_refl _))
def iRng1 (ta : TA) : TI := fun σ H R => ta σ H fun vs H1 => ∃ j : Int, vs = [.int j] ∧ -(2 ^ 62) ≤ j ∧ j < 2 ^ 62 ∧ R (Itr 0 j.toNat) H1
theorem pi_range1 {a : Expr} {ta : TA} {p pos : Pos} (hg : Gl X "range") (hm : X.mg "range" = none) (ha : PA X [a] ta) (hs : starEach [a] X.env = [(false, eval a X.env)] := by rfl) : PI X tg (.Call (.Name "range" p) [a] [] pos) (iRng1 ta) := by
  intro pins s σ H R I h
  refine Call_ (ld_blt I hg hm boot_range (PyProof.Rows.callWith_type1 (thn (ha pos pins s σ H _ I h) fun us s1 ⟨vs, H1, I1, r1, q1⟩ => ?_) hs rfl))
  obtain ⟨j, e, q1, q2, q⟩ := q1
  subst e
  cases r1 with
  | cons r rr =>
    cases rr
    obtain ⟨t, rfl⟩ := r
    exact call_range_1 (range_it I1 (by omega) (by omega) q1 q2 (by simpa using q))
/-! ### for -/
/-- W: the invariant by the turn and a measure; N: what the body is to reach -/
def tFor (wi : TI) (g : TG) (tb : TS) : TS := fun D σ H => wi σ H fun J H1 => ∃ W : Nat → Nat → St → Hp → Prop, (∃ m, W 0 m σ H1) ∧ ∀ i m σ H, W i m σ H →
  (J.stop i H ∧ D.nx σ H) ∨ (J.go i H ∧ ∃ N : St → Hp → Prop, (∀ σ' H', N σ' H' → ∃ m', m' < m ∧ W (i + 1) m' σ' H') ∧ ∀ x H', J.yld i H x H' → g x σ H' fun σ2 H2 => tb { D with nx := N, ct := N, bk := D.nx } σ2 H2)
/-- the records at fp as they stand -/
def pinsAt (fp : List Addr) (h : Heap) : List (Addr × Obj) := fp.filterMap fun b => (h.get? b).map fun o => (b, o)
theorem mem_pinsAt {fp : List Addr} {h : Heap} {b : Addr} {o : Obj} (hb : b ∈ fp) (e : h.get? b = some o) : (b, o) ∈ pinsAt fp h := List.mem_filterMap.mpr ⟨b, hb, by rw [e]; rfl⟩
theorem of_pinsAt {fp : List Addr} {h : Heap} {p : Addr × Obj} (hp : p ∈ pinsAt fp h) : p.1 ∈ fp ∧ h.get? p.1 = some p.2 := by
  obtain ⟨b, hb, e⟩ := List.mem_filterMap.mp hp
  cases q : h.get? b with
  | none => rw [q] at e; cases e
  | some o =>
    rw [q] at e
    have e' : (b, o) = p := Option.some.inj e
    subst e'
    exact ⟨hb, q⟩
theorem Inv.pinned {pins : List (Addr × Obj)} {σ : St} {H : Hp} {s : Shared} {fp : List Addr} (I : Inv X pins σ H s) (hf : ∀ b ∈ fp, FpOk X pins H b) (ho : ∀ b ∈ fp, ∃ o, s.heap.get? b = some o ∧ ∀ v, o.data ≠ .cell v) : Inv X (pins ++ pinsAt fp s.heap) σ H s :=
  I.pins_of fun p hp => (List.mem_append.mp hp).elim (fun z => I.pin p (List.mem_append_right _ z)) fun z => by
    obtain ⟨hb, e⟩ := of_pinsAt z
    obtain ⟨f0, f1, f2, _⟩ := hf p.1 hb
    obtain ⟨o, e', d⟩ := ho p.1 hb
    rw [e] at e'; cases e'
    exact ⟨e, f0, f1, f2, d⟩
theorem Inv.unpinned {pins pl : List (Addr × Obj)} {σ : St} {H : Hp} {s : Shared} (I : Inv X (pins ++ pl) σ H s) : Inv X pins σ H s := I.pins_of fun p hp => I.pin p (List.mem_append_right _ (List.mem_append_left _ hp))
theorem ps_for {iter : Expr} {body : List Stmt} {wi : TI} {g : TG} {tb : TS} {pos : Pos} (hp : PassesOwn (model X.prog X.w) X.A X.env X.xe) (hc : X.calm = true) (hi : PI X tg iter wi) (hg : PG X tg g) (hb : PSs X body tb)
    (hs : ∀ x, foldedSetIterable iter X.env x = pure x := by intro _; rfl) : PS X (.For tg iter body [] pos) (tFor wi g tb) := by
  intro pins s σ H D I h
  refine wpAny_For (thn (hi pins s σ H _ I h) fun v s1 h1 => thn h1 fun itv s2 h2 => ?_) hs
  obtain ⟨it, fp, tn, J, H2, e, I2, T, st2, f2, W, ⟨m0, w0⟩, turn⟩ := h2
  subst e
  -- what stays true of the iterator's objects through the loop
  have stat : ∀ {H' : Hp}, (∀ b ∈ fp, H' b = none) → ∀ b ∈ fp, FpOk X pins H' b := fun hn b hb => ⟨hn b hb, (f2 b hb).2⟩
  refine codeAny_forLoop_any (fun n s' => ∃ i σ' H', Inv X pins σ' H' s' ∧ tn i s'.heap ∧ (∀ b ∈ fp, H' b = none) ∧ W i n σ' H') ?_ m0 ⟨0, σ, H2, I2, st2, fun b hb => (f2 b hb).1, w0⟩
  rintro n s3 ⟨i, σ3, H3, I3, st3, fr3, w3⟩
  rcases turn i n σ3 H3 w3 with ⟨stop, qn⟩ | ⟨go, N, hN, step⟩
  · refine wpAny_passesOwn hp (thn (T.done X rfl rfl rfl hc i pins s3 σ3 H3 X.xe I3 (stat fr3) st3 stop) fun r s4 ⟨hr, I4⟩ => ?_)
    subst hr
    exact wpAny_execs_nil ⟨σ3, H3, I4, qn⟩
  · refine wpAny_passesOwn hp (thn (T.item X rfl rfl rfl hc i pins s3 σ3 H3 X.xe I3 (stat fr3) st3 go) fun r s4 ⟨u, hr, h4⟩ => ?_)
    subst hr
    refine wpAny_passesOwn hp (thn h4 fun _ s5 ⟨x, H5, I5, r5, y5, st5, fr5⟩ => ?_)
    have I5' := I5.pinned (stat fr5) (T.obj _ _ st5)
    refine wpAny_passesOwn hp (thn (hg _ s5 σ3 H5 x u _ I5' r5 (step x H5 y5)) fun _ s6 ⟨σ6, H6, I6, q6⟩ => ?_)
    refine wpAny_passesOwn hp (thn (hb _ s6 σ6 H6 _ I6 q6) fun f s7 q7 => ?_)
    have again : ∀ {σ7 : St} {H7 : Hp}, Inv X (pins ++ pinsAt fp s5.heap) σ7 H7 s7 → N σ7 H7 → ∃ m, m < n ∧ ∃ i σ' H', Inv X pins σ' H' s7 ∧ tn i s7.heap ∧ (∀ b ∈ fp, H' b = none) ∧ W i m σ' H' := fun {σ7 H7} I7 n7 => by
      obtain ⟨m', hm, w7⟩ := hN σ7 H7 n7
      refine ⟨m', hm, i + 1, σ7, H7, I7.unpinned, T.keep _ _ _ st5 fun b hb o e => (I7.pin (b, o) (List.mem_append_right _ (List.mem_append_right _ (mem_pinsAt hb e)))).1, fun b hb => ?_, w7⟩
      obtain ⟨o, e, d⟩ := T.obj _ _ st5 b hb
      exact (I7.pin (b, o) (List.mem_append_right _ (List.mem_append_right _ (mem_pinsAt hb e)))).2.1
    cases f with
    | next => obtain ⟨σ7, H7, I7, n7⟩ := q7; exact again I7 n7
    | cont => obtain ⟨σ7, H7, I7, n7⟩ := q7; exact again I7 n7
    | brk => obtain ⟨σ7, H7, I7, q7⟩ := q7; exact ⟨σ7, H7, I7.unpinned, q7⟩
    | ret v => obtain ⟨x7, σ7, H7, I7, r7, q7⟩ := q7; exact ⟨x7, σ7, H7, I7.unpinned, r7, q7⟩
end

/-! ### the forms one uses -/
end L2

namespace L2
open PySem PySem.Spec PyProof.Rows

abbrev R2 := V → V → Hp → VK → Prop
/-- a two-place operation on values: f is binaryOp op, inplaceOp op or compareOp op -/
def OpR (X : Cx) (f : Value → Value → Sem Value) (r : R2) : Prop :=
  ∀ (pins : List (Addr × Obj)) (s : Shared) (σ : St) (H : Hp) (x y : V) (v u : Value) (Q : VK), Inv X pins σ H s → RelV x v → RelV y u → r x y H Q →
    wpAny (model X.prog X.w) X.A (f v u) (EP X pins σ Q) X.xe s
/-- a one-place operation -/
def UnR (X : Cx) (f : Value → Sem Value) (r : V → Hp → VK → Prop) : Prop :=
  ∀ (pins : List (Addr × Obj)) (s : Shared) (σ : St) (H : Hp) (x : V) (v : Value) (Q : VK), Inv X pins σ H s → RelV x v → r x H Q →
    wpAny (model X.prog X.w) X.A (f v) (EP X pins σ Q) X.xe s
/-- a call of a value that is known (a builtin, a type) with values -/
def CallR (X : Cx) (f : Value) (r : List V → Hp → VK → Prop) : Prop :=
  ∀ (pins : List (Addr × Obj)) (s : Shared) (σ : St) (H : Hp) (xs : List V) (us : List Value) (Q : VK), Inv X pins σ H s → Vals xs us → r xs H Q →
    wpAny (model X.prog X.w) X.A (call f us) (EP X pins σ Q) X.xe s
def tOp (r : R2) (ta tb : TE) : TE := fun σ H Q => ta σ H fun x H1 => tb σ H1 fun y H2 => r x y H2 Q
def tUn (r : V → Hp → VK → Prop) (ta : TE) : TE := fun σ H Q => ta σ H fun x H1 => r x H1 Q
/-- ints in, under C, and a value out -/
def rI (C : Int → Int → Prop) (g : Int → Int → V) : R2 := fun x y H Q => ∃ i j, x = .int i ∧ y = .int j ∧ C i j ∧ Q (g i j) H
def rI0 (g : Int → Int → V) : R2 := fun x y H Q => ∃ i j, x = .int i ∧ y = .int j ∧ Q (g i j) H
def rU (g : Int → V) : V → Hp → VK → Prop := fun x H Q => ∃ i, x = .int i ∧ Q (g i) H

section
variable {X : Cx} {a b c : Expr} {ta tb tc : TE} {pos : Pos}

theorem binT (ha : PE X a ta) (hb : PE X b tb) {pins : List (Addr × Obj)} {s : Shared} {σ : St} {H : Hp} {R : V → V → Hp → Prop} (I : Inv X pins σ H s)
    (h : ta σ H fun x H1 => tb σ H1 fun y H2 => R x y H2) {Q : Value → Shared → Prop} {f : Value → Value → Sem Value}
    (hf : ∀ v u s2 x y H2, Inv X pins σ H2 s2 → RelV x v → RelV y u → R x y H2 → wpAny (model X.prog X.w) X.A (f v u) Q X.xe s2) :
    wpAny (model X.prog X.w) X.A (eval a X.env) (fun v s₁ => wpAny (model X.prog X.w) X.A (eval b X.env) (fun u s₂ => wpAny (model X.prog X.w) X.A (f v u) Q X.xe s₂) X.xe s₁) X.xe s := by
  refine thn (ha pins s σ H _ I h) fun v s1 ⟨x, H1, I1, r1, q1⟩ => ?_
  refine thn (hb pins s1 σ H1 _ I1 q1) fun u s2 ⟨y, H2, I2, r2, q2⟩ => ?_
  exact hf v u s2 x y H2 I2 r1 r2 q2

theorem pe_op {op : Operator} {r : R2} (ho : OpR X (binaryOp op) r) (ha : PE X a ta) (hb : PE X b tb) : PE X (.BinOp a op b pos) (tOp r ta tb) := by
  intro pins s σ H Q I h
  exact wpAny_BinOp (binT ha hb I h fun v u s2 x y H2 I2 rx ry q => ho pins s2 σ H2 x y v u Q I2 rx ry q)
theorem pe_un {op : UnaryOp} {r : V → Hp → VK → Prop} (ho : UnR X (unaryOp op) r) (ha : PE X a ta) : PE X (.UnaryOp op a pos) (tUn r ta) := by
  intro pins s σ H Q I h
  exact UnaryOp_ (thn (ha pins s σ H _ I h) fun v s1 ⟨x, H1, I1, r1, q1⟩ => ho pins s1 σ H1 x v Q I1 r1 q1)
/-! ### ints -/
theorem opI {f : Value → Value → Sem Value} {C : Int → Int → Prop} {g : Int → Int → Int}
    (rule : ∀ (i j : Int) (t u : Tok) (s : Shared) (Q : Value → Shared → Prop) (E : Value → Shared → Prop), C i j → Q (.int (g i j) s.toks) { s with toks := s.toks + 1 } → wpAny (model X.prog X.w) X.A (f (.int i t) (.int j u)) Q E s) :
    OpR X f (rI C fun i j => .int (g i j)) := by
  intro pins s σ H x y v u Q I rx ry h
  obtain ⟨i, j, rfl, rfl, hc, q⟩ := h
  obtain ⟨t, rfl⟩ := rx
  obtain ⟨t', rfl⟩ := ry
  exact rule i j t t' s _ _ hc ⟨.int (g i j), H, I.tok _, ⟨_, rfl⟩, q⟩
theorem opI0 {f : Value → Value → Sem Value} {g : Int → Int → Int}
    (rule : ∀ (i j : Int) (t u : Tok) (s : Shared) (Q : Value → Shared → Prop) (E : Value → Shared → Prop), Q (.int (g i j) s.toks) { s with toks := s.toks + 1 } → wpAny (model X.prog X.w) X.A (f (.int i t) (.int j u)) Q E s) :
    OpR X f (rI0 fun i j => .int (g i j)) := by
  intro pins s σ H x y v u Q I rx ry h
  obtain ⟨i, j, rfl, rfl, q⟩ := h
  obtain ⟨t, rfl⟩ := rx
  obtain ⟨t', rfl⟩ := ry
  exact rule i j t t' s _ _ ⟨.int (g i j), H, I.tok _, ⟨_, rfl⟩, q⟩
theorem opB0 {f : Value → Value → Sem Value} {g : Int → Int → Bool}
    (rule : ∀ (i j : Int) (t u : Tok) (s : Shared) (Q : Value → Shared → Prop) (E : Value → Shared → Prop), Q (.bool (g i j)) s → wpAny (model X.prog X.w) X.A (f (.int i t) (.int j u)) Q E s) :
    OpR X f (rI0 fun i j => .bl (g i j)) := by
  intro pins s σ H x y v u Q I rx ry h
  obtain ⟨i, j, rfl, rfl, q⟩ := h
  obtain ⟨t, rfl⟩ := rx
  obtain ⟨t', rfl⟩ := ry
  exact rule i j t t' s _ _ ⟨.bl (g i j), H, I, rfl, q⟩

def CDiv (i j : Int) : Prop := 0 < j ∧ j < 1073741824
def CPow (i j : Int) : Prop := 0 ≤ j ∧ j ≤ 1000000 ∧ i.natAbs < 2 ^ 64
def CMul (i j : Int) : Prop := (-(2 ^ 64) < i ∧ i < 2 ^ 64) ∨ (-(2 ^ 64) < j ∧ j < 2 ^ 64)
theorem CMul.ok {i j : Int} (h : CMul i j) : IntMulOk i j := by
  rcases h with ⟨h1, h2⟩ | ⟨h1, h2⟩
  · exact .of_left (intBits_le_64 h1 h2)
  · exact .of_right (intBits_le_64 h1 h2)
theorem op_add : OpR X (binaryOp .Add) (rI0 fun i j => .int (i + j)) := opI0 fun _ _ _ _ _ _ _ q => add_int q
/-- // by a positive divisor -/
theorem op_fdiv : OpR X (binaryOp .FloorDiv) (rI CDiv fun i j => .int (i / j)) := opI fun i j _ _ _ _ _ hc q => by
  have h1 : (0 : Int) < j := hc.1
  have h2 : j < 1073741824 := hc.2
  exact floordiv_int (by omega) (by rw [Int.fdiv_eq_ediv_of_nonneg i (by omega)]; exact q) (.inl (PyProof.noPylong_small (by omega)))
/-- % by a positive divisor of any size -/
theorem op_mod : OpR X (binaryOp .Mod) (rI (fun _ j => 0 < j) fun i j => .int (i % j)) := opI fun i j _ _ _ _ _ hc q => by
  have h1 : (0 : Int) < j := hc
  exact mod_int' (by omega) (by rw [Int.fmod_eq_emod_of_nonneg i (by omega)]; exact q)
theorem op_pow : OpR X (binaryOp .Pow) (rI CPow fun i j => .int (i ^ j.toNat)) := opI fun _ _ _ _ _ _ _ hc q => pow_int_small hc.1 hc.2.1 hc.2.2 q
theorem unI {f : Value → Sem Value} {g : Int → Int}
    (rule : ∀ (i : Int) (t : Tok) (s : Shared) (Q : Value → Shared → Prop) (E : Value → Shared → Prop), Q (.int (g i) s.toks) { s with toks := s.toks + 1 } → wpAny (model X.prog X.w) X.A (f (.int i t)) Q E s) :
    UnR X f (rU fun i => .int (g i)) := by
  intro pins s σ H x v Q I rx h
  obtain ⟨i, rfl, q⟩ := h
  obtain ⟨t, rfl⟩ := rx
  exact rule i t s _ _ ⟨.int (g i), H, I.tok _, ⟨_, rfl⟩, q⟩
theorem un_neg : UnR X (unaryOp .USub) (rU fun i => .int (-i)) := unI fun _ _ _ _ _ q => neg_int q
/-! ### bools among ints: n += (a < b) -/
end

/-! ### comparisons -/
/-- the scalars that == tells apart as data does -/
def scal : V → V → Bool
  | .non, .non => true | .non, .int _ => true | .int _, .non => true | .non, .bl _ => true | .bl _, .non => true | .non, .str _ => true | .str _, .non => true
  | .int _, .int _ => true | .bl _, .bl _ => true | .str _, .str _ => true | .byt _, .byt _ => true
  | .int _, .str _ => true | .str _, .int _ => true | .bl _, .str _ => true | .str _, .bl _ => true
  | _, _ => false
def rEq : R2 := fun x y H Q => scal x y = true ∧ Q (.bl (decide (x = y))) H
def rNe : R2 := fun x y H Q => scal x y = true ∧ Q (.bl (!decide (x = y))) H

theorem dec_int {i j : Int} : decide (V.int i = V.int j) = (i == j) := by
  rw [Bool.eq_iff_iff]
  simp
theorem dec_bl {i j : Bool} : decide (V.bl i = V.bl j) = (i == j) := by
  rw [Bool.eq_iff_iff]
  simp
theorem dec_str {i j : Str} : decide (V.str i = V.str j) = (i == j) := by
  rw [Bool.eq_iff_iff]
  simp
theorem dec_byt {i j : Array UInt8} : decide (V.byt i = V.byt j) = (i.toList == j.toList) := by
  rw [Bool.eq_iff_iff]
  cases i
  cases j
  simp

section
variable {X : Cx} {a b c : Expr} {ta tb tc : TE} {pos : Pos}
theorem fin_bl {pins : List (Addr × Obj)} {σ : St} {H : Hp} {s : Shared} {Q : VK} {k k' : Bool} (I : Inv X pins σ H s) (q : Q (.bl k) H) (e : k = k') : EP X pins σ Q (.bool k') s := by
  subst e
  exact ⟨.bl k, H, I, rfl, q⟩
theorem op_eq : OpR X (compareOp .Eq) rEq := by
  intro pins s σ H x y v u Q I rx ry h
  obtain ⟨hs, q⟩ := h
  cases x with
  | non =>
    cases rx
    cases y with
    | non => cases ry; exact PySem.EqNone.eq_none_none (fin_bl I q (by simp))
    | bl j => cases ry; exact PySem.EqNone.eq_none_bool (fin_bl I q (by simp))
    | int j => obtain ⟨t', rfl⟩ := ry; exact PySem.EqNone.eq_none_int (fin_bl I q (by simp))
    | str j => obtain ⟨t', rfl⟩ := ry; exact PySem.EqNone.eq_none_str (fin_bl I q (by simp))
    | _ => exact absurd (show false = true from hs) Bool.false_ne_true
  | bl i =>
    cases rx
    cases y with
    | non => cases ry; exact PySem.EqNone.eq_bool_none (fin_bl I q (by simp))
    | bl j => cases ry; exact eq_bool (fin_bl I q dec_bl)
    | str j => obtain ⟨t', rfl⟩ := ry; exact PySem.EqMixed.eq_bool_str (fin_bl I q (by simp))
    | _ => exact absurd (show false = true from hs) Bool.false_ne_true
  | int i =>
    obtain ⟨t, rfl⟩ := rx
    cases y with
    | non => cases ry; exact PySem.EqNone.eq_int_none (fin_bl I q (by simp))
    | int j => obtain ⟨t', rfl⟩ := ry; exact eq_int (fin_bl I q dec_int)
    | str j => obtain ⟨t', rfl⟩ := ry; exact PySem.EqMixed.eq_int_str (fin_bl I q (by simp))
    | _ => exact absurd (show false = true from hs) Bool.false_ne_true
  | str i =>
    obtain ⟨t, rfl⟩ := rx
    cases y with
    | non => cases ry; exact PySem.EqNone.eq_str_none (fin_bl I q (by simp))
    | bl j => cases ry; exact PySem.EqMixed.eq_str_bool (fin_bl I q (by simp))
    | int j => obtain ⟨t', rfl⟩ := ry; exact PySem.EqMixed.eq_str_int (fin_bl I q (by simp))
    | str j => obtain ⟨t', rfl⟩ := ry; exact eq_str (fin_bl I q dec_str)
    | _ => exact absurd (show false = true from hs) Bool.false_ne_true
  | byt i =>
    obtain ⟨t, rfl⟩ := rx
    cases y with
    | byt j => obtain ⟨t', rfl⟩ := ry; exact PySem.W.eq_bytes (fin_bl I q dec_byt)
    | _ => exact absurd (show false = true from hs) Bool.false_ne_true
  | _ => cases y <;> exact absurd (show false = true from hs) Bool.false_ne_true
theorem op_ne : OpR X (compareOp .NotEq) rNe := by
  intro pins s σ H x y v u Q I rx ry h
  obtain ⟨hs, q⟩ := h
  cases x with
  | non =>
    cases rx
    cases y with
    | non => cases ry; exact PySem.EqNone.ne_none_none (fin_bl I q (by simp))
    | bl j => cases ry; exact PySem.EqNone.ne_none_bool (fin_bl I q (by simp))
    | int j => obtain ⟨t', rfl⟩ := ry; exact PySem.EqNone.ne_none_int (fin_bl I q (by simp))
    | str j => obtain ⟨t', rfl⟩ := ry; exact PySem.EqNone.ne_none_str (fin_bl I q (by simp))
    | _ => exact absurd (show false = true from hs) Bool.false_ne_true
  | bl i =>
    cases rx
    cases y with
    | non => cases ry; exact PySem.EqNone.ne_bool_none (fin_bl I q (by simp))
    | bl j => cases ry; exact ne_bool (fin_bl I q (congrArg not dec_bl))
    | str j => obtain ⟨t', rfl⟩ := ry; exact PySem.EqMixed.ne_bool_str (fin_bl I q (by simp))
    | _ => exact absurd (show false = true from hs) Bool.false_ne_true
  | int i =>
    obtain ⟨t, rfl⟩ := rx
    cases y with
    | non => cases ry; exact PySem.EqNone.ne_int_none (fin_bl I q (by simp))
    | int j => obtain ⟨t', rfl⟩ := ry; exact ne_int (fin_bl I q (congrArg not dec_int))
    | str j => obtain ⟨t', rfl⟩ := ry; exact PySem.EqMixed.ne_int_str (fin_bl I q (by simp))
    | _ => exact absurd (show false = true from hs) Bool.false_ne_true
  | str i =>
    obtain ⟨t, rfl⟩ := rx
    cases y with
    | non => cases ry; exact PySem.EqNone.ne_str_none (fin_bl I q (by simp))
    | bl j => cases ry; exact PySem.EqMixed.ne_str_bool (fin_bl I q (by simp))
    | int j => obtain ⟨t', rfl⟩ := ry; exact PySem.EqMixed.ne_str_int (fin_bl I q (by simp))
    | str j => obtain ⟨t', rfl⟩ := ry; exact ne_str (fin_bl I q (congrArg not dec_str))
    | _ => exact absurd (show false = true from hs) Bool.false_ne_true
  | byt i =>
    obtain ⟨t, rfl⟩ := rx
    cases y with
    | byt j => obtain ⟨t', rfl⟩ := ry; exact PySem.W.ne_bytes (fin_bl I q (congrArg not dec_byt))
    | _ => exact absurd (show false = true from hs) Bool.false_ne_true
  | _ => cases y <;> exact absurd (show false = true from hs) Bool.false_ne_true

theorem op_lt : OpR X (compareOp .Lt) (rI0 fun i j => .bl (decide (i < j))) := opB0 fun _ _ _ _ _ _ _ q => lt_int q
theorem op_gt : OpR X (compareOp .Gt) (rI0 fun i j => .bl (decide (j < i))) := opB0 fun _ _ _ _ _ _ _ q => gt_int q
theorem op_notin_str : OpR X (compareOp .NotIn) (fun x y H Q => ∃ i j, x = .str i ∧ y = .str j ∧ Q (.bl (!(!(Builtin.Str.occurrences j i 0 j.length 1).isEmpty))) H) := by
  intro pins s σ H x y v u Q I rx ry h
  obtain ⟨i, j, rfl, rfl, q⟩ := h
  obtain ⟨t, rfl⟩ := rx
  obtain ⟨t', rfl⟩ := ry
  exact notIn_str (fin_bl I q rfl)
/-- two rules for one operation: by cases -/
theorem OpR.or {f : Value → Value → Sem Value} {r r' : R2} (h : OpR X f r) (h' : OpR X f r') : OpR X f (fun x y H Q => r x y H Q ∨ r' x y H Q) := by
  intro pins s σ H x y v u Q I rx ry q
  rcases q with q | q
  · exact h pins s σ H x y v u Q I rx ry q
  · exact h' pins s σ H x y v u Q I rx ry q

theorem nomark (b : Expr) {op : CmpOp} (h : op ≠ .In := by decide) (h2 : op ≠ .NotIn := by decide) : behindInMarks op b = false := by
  have e1 : (op == CmpOp.In) = false := by cases op <;> first | rfl | exact absurd rfl h
  have e2 : (op == CmpOp.NotIn) = false := by cases op <;> first | rfl | exact absurd rfl h2
  cases b <;> simp [behindInMarks, e1, e2]
/-- a comparison as a value; hm: nomark b, or (for in, not in) by with_unfolding_all rfl -/
theorem pe_cmpR {op : CmpOp} {r : R2} (ho : OpR X (compareOp op) r) (ha : PE X a ta) (hb : PE X b tb) (hm : behindInMarks op b = false) : PE X (.Compare a [op] [b] pos) (tOp r ta tb) := by
  intro pins s σ H Q I h
  exact wpAny_Compare1 (binT ha hb I h fun v u s2 x y H2 I2 rx ry q => ho pins s2 σ H2 x y v u Q I2 rx ry q) hm
/-- a reading of a value as a test -/
def tTest (t : TE) : TT := fun σ H Q => t σ H fun x H' => ∃ k, x = .bl k ∧ Q k H'
theorem pt_cmpR {op : CmpOp} {r : R2} (ho : OpR X (compareOp op) r) (ha : PE X a ta) (hb : PE X b tb) (hm : behindInMarks op b = false) : PT X (.Compare a [op] [b] pos) (tTest (tOp r ta tb)) := by
  intro pins s σ H Q I h
  refine wpAny_isTrue_Compare1 (thn (ha pins s σ H _ I h) fun v s1 ⟨x, H1, I1, r1, q1⟩ => thn (hb pins s1 σ H1 _ I1 q1) fun u s2 ⟨y, H2, I2, r2, q2⟩ =>
    thn (ho pins s2 σ H2 x y v u _ I2 r1 r2 q2) fun c s3 ⟨z, H3, I3, r3, k, e, q3⟩ => ?_) hm
  subst e
  cases r3
  exact wpAny_truthy_bool ⟨H3, I3, q3⟩
/-! ### truth -/
theorem line63 : (sizeLine : Nat) < 2 ^ 63 := by rw [sizeLine_eq]; decide
/-! ### strs and bytes -/
theorem op_add_str : OpR X (binaryOp .Add) (fun x y H Q => ∃ i j, x = .str i ∧ y = .str j ∧ i.length + j.length ≤ sizeLine ∧ Q (.str (i ++ j)) H) := by
  intro pins s σ H x y v u Q I rx ry h
  obtain ⟨i, j, rfl, rfl, hz, q⟩ := h
  obtain ⟨t, rfl⟩ := rx
  obtain ⟨t', rfl⟩ := ry
  exact add_str (fun t' tk => ⟨.str (i ++ j), H, I.tok _, ⟨_, rfl⟩, q⟩) hz
/-! ### scalar builtins, by CallR -/
theorem vals1 {x : V} {us : List Value} (r : Vals [x] us) : ∃ u, us = [u] ∧ RelV x u := by
  cases r with
  | cons r1 r2 => cases r2; exact ⟨_, rfl, r1⟩
end
end L2

namespace L2
open PySem PySem.Spec PyProof.Rows

/-! ### an instance, its attributes a map -/
structure ObjM (h : Heap) (x dx C : Addr) (mA : Str → Option Value) : Prop where
  obj : h.get? x = some (PySem.W.instObj C dx)
  ns : h.Ns1 dx mA
  ne : dx ≠ x

section
variable {prog : Program} {w : World} {A : Around} {E : Value → Shared → Prop} {s : Shared} {K : PySem.W.Frag} {x dx C f : Addr} {mA : Str → Option Value} {name : Str} {v : Value}

end

/-! ### the attributes as a list of pairs -/
def putF (f : Str) (v : V) : List (Str × V) → List (Str × V)
  | [] => [(f, v)]
  | (g, x) :: r => if g = f then (g, v) :: r else (g, x) :: putF f v r
section
variable {P : Program} {w : World} {H H' : Hp} {h h' : Heap} {a C dx : Addr} {fs fs' : List (Str × V)}
end

/-! ### what of the text a class must have -/
structure Cls (K : PySem.W.Frag) (C : Addr) : Prop where
  pg : PySem.W.plainGet K C Str.empty = true
  hd : PySem.W.hasDictIn K C = true
  po : PySem.W.plainOver K C = true
  sa : PySem.W.findIn K (.ref C) "__setattr__" = some (some (.builtin "object.__setattr__"))
theorem Cls.get {K : PySem.W.Frag} {C : Addr} (c : Cls K C) (f : Str) : PySem.W.plainGet K C f = true := c.pg
/-- a constant of the class -/
structure Con (K : PySem.W.Frag) (C : Addr) (f : Str) (v : V) (u : Value) : Prop where
  at_ : PySem.W.findIn K (.ref C) f = some (some u)
  rel : RelV v u
  get : PySem.W.specialIn K u "__get__" = some none
  cp : PySem.W.copiedNames.contains f = false
/-- a method: a plain def of the class or of one above it -/
structure Meth (K : PySem.W.Frag) (C : Addr) (m : Str) (f : Addr) : Prop where
  at_ : PySem.W.findIn K (.ref C) m = some (some (.ref f))
  fn : PySem.W.isFn K (.ref f) = true
  kp : PySem.W.keepIn K (.ref f) = true

section
variable {X : Cx} {pins : List (Addr × Obj)} {σ : St} {H : Hp} {s : Shared} {a C dx : Addr} {fs : List (Str × V)} {f : Str} {v : V} {A : Around} {E : Value → Shared → Prop}

/-- a new instance, tracked, without attributes -/
theorem Inv.made (I : Inv X pins σ H s) : Inv X pins σ (upd (upd H s.heap.objs.size (.own (s.heap.objs.size + 1))) (s.heap.objs.size + 1) (.ins C s.heap.objs.size []))
    { s with heap := (s.heap.push PySem.W.emptyDict).push (PySem.W.instObj C s.heap.objs.size) } := by
  have e1 : (s.heap.push PySem.W.emptyDict).get? s.heap.objs.size = some PySem.W.emptyDict := Heap.get?_push_size s.heap rfl
  have e2 : ((s.heap.push PySem.W.emptyDict).push (PySem.W.instObj C s.heap.objs.size)).get? (s.heap.objs.size + 1) = some (PySem.W.instObj C s.heap.objs.size) := by
    have := Heap.get?_push_size (s.heap.push PySem.W.emptyDict) (o := PySem.W.instObj C s.heap.objs.size) rfl
    rwa [Heap.size_push] at this
  have e3 : (s.heap.push PySem.W.emptyDict).Ns s.heap.objs.size (fun _ => none) := ⟨PySem.W.emptyDict, #[], _, e1, rfl, (fun e he => absurd he (by simp)), fun _ => rfl⟩
  have I1 := I.laid (a := s.heap.objs.size) (o := .own (s.heap.objs.size + 1)) (h' := s.heap.push PySem.W.emptyDict) (t' := s.toks) (fun b u q => Heap.get?_push_of_some _ q) (Nat.le_refl _) ⟨_, e1⟩
  refine I1.laid (a := s.heap.objs.size + 1) (o := .ins C s.heap.objs.size []) (t' := s.toks) (fun b u q => Heap.get?_push_of_some _ q) (Nat.le_of_eq (Heap.size_push _ _)) ?_
  have ne : s.heap.objs.size ≠ s.heap.objs.size + 1 := Nat.ne_of_lt (Nat.lt_succ_self _)
  refine ⟨by rw [upd_ne ne, upd_same], Nat.zero_le _, ne, e2, fun _ => none, (Heap.Ns1.of_empty e3).at fun o q => Heap.get?_push_of_some _ q, fun _ => True.intro, fun y hy => absurd rfl hy⟩

end

/-! ### readings and rules -/
section
variable {X : Cx} {o e value : Expr} {f : Str} {pos pos' tpos : Pos} {ta tv : TE}
end

/-! ### isinstance -/
section
variable {X : Cx} {pins : List (Addr × Obj)} {σ : St} {H : Hp} {s : Shared} {A : Around} {E : Value → Shared → Prop} {Q : Value → Shared → Prop} {c : Value} {b : Bool}
/-- the type of a value, as the fragment's deciders take it; for an instance its class -/
inductive TyOf (K : PySem.W.Frag) (H : Hp) : V → Value → Prop where
  | non : TyOf K H .non (.type "NoneType")
  | bl (x : Bool) : TyOf K H (.bl x) (.type "bool")
  | int (i : Int) : TyOf K H (.int i) (.type "int")
  | str (x : Str) : TyOf K H (.str x) (.type "str")
  | flt (x : UInt64) : TyOf K H (.flt x) (.type "float")
  | lst {a : Addr} {xs : List V} (e : H a = some (.lst xs)) : TyOf K H (.ref a) (.type "list")
  | frz {a : Addr} {o : Obj} {xs : List V} (e : H a = some (.frz o (.lst xs))) : TyOf K H (.ref a) (.type "list")
  | tup {a : Addr} {xs : List V} (e : H a = some (.tup xs)) : TyOf K H (.ref a) (.type "tuple")
  | dK {a : Addr} {kvs : List (Key × V)} (e : H a = some (.dK kvs)) : TyOf K H (.ref a) (.type "dict")
  | dT {a : Addr} {kvs : List (List Key × V)} (e : H a = some (.dT kvs)) : TyOf K H (.ref a) (.type "dict")
  | ins {a C dx : Addr} {fs : List (Str × V)} (e : H a = some (.ins C dx fs)) (cl : Cls K C) (ha : PySem.W.findIn K (.ref C) "__class__" = some (some (.builtin "object.__class__")))
      (hn : PySem.W.specialIn K (.builtin "object.__class__") "__get__" = some (some (.builtin "getset_descriptor.__get__"))) (htk : PySem.W.takesIn K (.builtin "object.__class__") = some true)
      (hm : PySem.W.mroIn K C (.type "object") = some true) : TyOf K H (.ref a) (.ref C)
end
end L2

namespace L2
open PySem PySem.Spec PyProof.Rows

/-! ### room -/
structure Room (k : Nat) (A : Around) : Prop where
  hd : A.handled = none
  dp : A.depth + 3 * k + 5 < recursionLimit
  un : A.units + 16 * k + 200 < cLine
theorem Room.mono {j k : Nat} {A : Around} (r : Room k A) (h : j ≤ k) : Room j A := ⟨r.hd, by have := r.dp; omega, by have := r.un; omega⟩
theorem Room.deeper {k : Nat} {A : Around} (r : Room (k + 1) A) (env : Env) : Room k (A.deeper env) :=
  ⟨r.hd, by have := r.dp; show A.depth + 1 + 3 * k + 5 < _; omega, by have := r.un; show A.units + 3 + 16 * k + 200 < _; omega⟩
theorem make_depth {A : Around} {C : Addr} {us : List Value} {kw : List (Str × Value)} : (A.under (.builtin "type.__call__" ⟨.ref C :: us, kw⟩)).depth = A.depth + 1 := by
  first | rfl | simp [Around.under, Code.weight, Code.isCreation, Code.isGuard, Code.isCaller, Code.frames, Code.isFrame, guardIds]
theorem make_units {A : Around} {C : Addr} {us : List Value} {kw : List (Str × Value)} : (A.under (.builtin "type.__call__" ⟨.ref C :: us, kw⟩)).units = A.units + 1 := by
  first | rfl | simp [Around.under, Code.cUnits, Code.frames, Code.isFrame]
theorem Room.make {k : Nat} {A : Around} (r : Room (k + 1) A) (C : Addr) (us : List Value) (kw : List (Str × Value)) : Room k (A.under (.builtin "type.__call__" ⟨.ref C :: us, kw⟩)) :=
  ⟨r.hd, by have := r.dp; rw [make_depth]; omega, by have := r.un; rw [make_units]; omega⟩
theorem Room.depth {k : Nat} {A : Around} (r : Room k A) : A.depth < recursionLimit := by have := r.dp; omega
theorem Room.units {k : Nat} {A : Around} (r : Room k A) : A.units + 64 < cLine := by have := r.un; omega
/-! ### argument lists and displays -/
def tNil : TA := fun _ H Q => Q [] H
def tCons (ta : TE) (tr : TA) : TA := fun σ H Q => ta σ H fun x H1 => tr σ H1 fun xs H2 => Q (x :: xs) H2
section
variable {X : Cx} {e : Expr} {es : List Expr} {te : TE} {t : TA} {pos : Pos}
theorem pa_nil : PA X [] tNil := fun _ _ _ _ H Q I h => Calls.spliced_nil ⟨[], H, I, .nil, h⟩
theorem pa_cons (ha : PE X e te) (hr : PA X es t) (hs : starEach (e :: es) X.env = (false, eval e X.env) :: starEach es X.env := by rfl) : PA X (e :: es) (tCons te t) := by
  intro pos pins s σ H Q I h
  rw [hs]
  show wpAny _ _ (spliced ((false, eval e X.env) :: backTo pos (starEach es X.env))) _ _ s
  refine Calls.spliced_cons (thn (ha pins s σ H _ I h) fun u s1 ⟨x, H1, I1, r1, q1⟩ => ?_)
  exact thn (hr pos pins s1 σ H1 _ I1 q1) fun us s2 ⟨xs, H2, I2, r2, q2⟩ => ⟨x :: xs, H2, I2, .cons r1 r2, q2⟩

def tLst (t : TA) : TE := fun σ H Q => t σ H fun xs H1 => xs.length ≤ sizeLine ∧ ∀ p, H1 p = none → Q (.ref p) (upd H1 p (.lst xs))
theorem pe_lst (h : PA X es t) : PE X (.List es pos) (tLst t) := by
  intro pins s σ H Q I hq
  refine wpAny_List_spliced (thn (h pos pins s σ H _ I hq) fun us s1 ⟨xs, H1, I1, r, z, q⟩ => ⟨by rw [← r.length]; exact z, ?_⟩)
  have hf : H1 s1.heap.objs.size = none := I1.hok.fresh (Nat.le_refl _)
  refine ⟨.ref s1.heap.objs.size, upd H1 s1.heap.objs.size (.lst xs), I1.laid (t' := s1.toks) (fun b u e => Heap.get?_push_of_some _ e) (Nat.le_refl _) ?_, rfl, q _ hf⟩
  exact ⟨z, us, 0, r, Heap.get?_push_size _ rfl⟩
end

/-! ### what a def promises -/
/-- a def's promise: the bound arguments in the parameters' order, the heap, the wanted end, the wanted exception -/
abbrev Sp := List V → Hp → VK → XK → Prop
/-- how an exception lies behind a call (file 08 gives it): the callers' frames, abstract heap and state ahead of the call, the wish, the exception, the state -/
abbrev CXT := List Env → Hp → Shared → XK → Value → Shared → Prop

/-- the state at a call -/
structure Env0 (P : Program) (w : World) (K : PySem.W.Frag) (mg : Str → Option Value) (base : Heap) (A : Around) (outer : List Env) (s : Shared) (H : Hp) : Prop where
  frames : A.frames = some outer
  mod : Mod K mg base
  bs : ∀ b o, base.get? b = some o → s.heap.get? b = some o ∧ H b = none
  bsz : base.objs.size ≤ s.heap.objs.size
  funs : s.heap.FunFrames base outer
  frf : ∀ b ∈ frs outer, H b = none
  hok : HOk P w H s.heap
  bare : AllBare s.gens
/-- a call's end -/
def CE (outer : List Env) (P : Program) (w : World) (H : Hp) (s : Shared) (Q : VK) (u : Value) (s' : Shared) : Prop :=
  ∃ v H', s'.os = s.os ∧ AllBare s'.gens ∧ Un (frs outer) [] H H' s.heap s'.heap ∧ HOk P w H' s'.heap ∧ RelV v u ∧ Q v H'
def CR (CX : CXT) (outer : List Env) (P : Program) (w : World) (H : Hp) (s : Shared) (Q : VK) (E : XK) (r : Result) (s' : Shared) : Prop :=
  match r with
  | .ok (.ret u) => CE outer P w H s Q u s'
  | .ok _ => False
  | .error e => CX outer H s E e s'
structure FnOk (P : Program) (w : World) (K : PySem.W.Frag) (mg : Str → Option Value) (base : Heap) (CX : CXT) (k : Nat) (f : Addr) (fd : FuncData) (ps : List Str) (sp : Sp) : Prop where
  len : ∀ vs H Q E, sp vs H Q E → vs.length = ps.length
  run : ∀ (A : Around) (outer : List Env) (s : Shared) (H : Hp) (args : Args) (us : List Value) (vs : List V) (Q : VK) (E : XK), Room k A → Env0 P w K mg base A outer s H → BindsTo s fd args (ps.zip us) → Vals vs us → sp vs H Q E →
    codeAny (model P w) A (.call (.ref f) args) (CR CX outer P w H s Q E) s
theorem FnOk.mono {P : Program} {w : World} {K : PySem.W.Frag} {mg : Str → Option Value} {base : Heap} {CX : CXT} {j k : Nat} {f : Addr} {fd : FuncData} {ps : List Str} {sp : Sp} (F : FnOk P w K mg base CX j f fd ps sp) (h : j ≤ k) :
    FnOk P w K mg base CX k f fd ps sp := ⟨F.len, fun A outer s H args us vs Q E hr => F.run A outer s H args us vs Q E (hr.mono h)⟩
/-- a weaker promise -/
theorem FnOk.imp {P : Program} {w : World} {K : PySem.W.Frag} {mg : Str → Option Value} {base : Heap} {CX : CXT} {k : Nat} {f : Addr} {fd : FuncData} {ps : List Str} {sp sp' : Sp} (F : FnOk P w K mg base CX k f fd ps sp)
    (h : ∀ vs H Q E, sp' vs H Q E → sp vs H Q E) : FnOk P w K mg base CX k f fd ps sp' :=
  ⟨fun vs H Q E q => F.len vs H Q E (h _ _ _ _ q), fun A outer s H args us vs Q E hr he hb hv hs => F.run A outer s H args us vs Q E hr he hb hv (h _ _ _ _ hs)⟩

theorem Env0.make {P : Program} {w : World} {K : PySem.W.Frag} {mg : Str → Option Value} {base : Heap} {A : Around} {outer : List Env} {s : Shared} {H : Hp} (e : Env0 P w K mg base A outer s H) (C : Addr) (us : List Value) (kw : List (Str × Value)) :
    Env0 P w K mg base (A.under (.builtin "type.__call__" ⟨.ref C :: us, kw⟩)) outer s H := ⟨by first | exact e.frames | (simpa [Around.under, Code.envs, Code.isFrame, pushEnvs] using e.frames), e.mod, e.bs, e.bsz, e.funs, e.frf, e.hok, e.bare⟩
section
variable {X : Cx} {pins : List (Addr × Obj)} {σ : St} {H : Hp} {s s' : Shared}
/-- from a body: what a callee wants -/
theorem Inv.env0 (I : Inv X pins σ H s) : Env0 X.prog X.w X.K X.mg X.base X.A X.stack s H :=
  ⟨I.ok.frames, I.ok.mod, I.bs, Nat.le_trans I.ok.bsz I.sz, I.stack, I.stkFree, I.hok, I.bare⟩
/-- behind a call -/
theorem Inv.after {Q : VK} {u : Value} (I : Inv X pins σ H s) (h : CE X.stack X.prog X.w H s Q u s') : EP X pins σ Q u s' := by
  obtain ⟨v, H', os, bare, un, hok, r, q⟩ := h
  obtain ⟨hh, g, d, t, os'⟩ := s'
  obtain rfl : os' = s.os := os
  exact ⟨v, H', I.call (h' := hh) (g' := g) (d' := d) (t' := t) (ch := []) un hok bare (fun b z => absurd z (by simp)), r, q⟩
end

/-! ### calls -/
/-- f(..): the written arguments, then the defaults dvs; E: what is wanted of an exception -/
def tCall (sp : Sp) (dvs : List V) (E : XK) (t : TA) : TE := fun σ H Q => t σ H fun vs H1 => sp (vs ++ dvs) H1 Q E
/-- how the parameters are bound: us the positional arguments, kw the keywords' values by name, ds the defaults that fill up -/
def Binds (K : PySem.W.Frag) (fd : FuncData) (ps : List Str) (ds : List Value) : Prop :=
  ∀ (s : Shared) (us : List Value), K.In s.heap → (us ++ ds).length = ps.length → BindsTo s fd ⟨us, []⟩ (ps.zip (us ++ ds))
/-- every parameter is given -/
theorem Binds.all {K : PySem.W.Frag} {fd : FuncData} {ps : List Str} (h : ∀ us : List Value, us.length = ps.length → bindArgs fd ⟨us, []⟩ = pure (ps.zip us)) : Binds K fd ps [] := fun s us _ hl => by
  rw [List.append_nil] at hl ⊢
  exact .of_eq (h us hl)

/-- an exception of a callee reaches what this body wants of exceptions -/
def Passes (CX : CXT) (X : Cx) (E : XK) : Prop := ∀ (pins : List (Addr × Obj)) (σ : St) (H : Hp) (s : Shared) (e : Value) (s' : Shared), Inv X pins σ H s → CX X.stack H s E e s' → X.xe e s'

section
variable {X : Cx} {CX : CXT} {k : Nat} {f C : Addr} {fd : FuncData} {ps : List Str} {sp : Sp} {dvs : List V} {ds : List Value} {E : XK} {x m : Str} {p pos apos : Pos} {e o : Expr} {es : List Expr} {ta : TE} {t : TA}

/-- the callee runs -/
theorem run_fn {pins : List (Addr × Obj)} {σ : St} {H : Hp} {s : Shared} {Q : VK} {us : List Value} {vs : List V} (F : FnOk X.prog X.w X.K X.mg X.base CX k f fd ps sp) (hr : Room k X.A) (hb : Binds X.K fd ps ds) (hd : Vals dvs ds) (hx : Passes CX X E)
    (I : Inv X pins σ H s) (r : Vals vs us) (h : sp (vs ++ dvs) H Q E) : wpAny (model X.prog X.w) X.A (call (.ref f) us) (EP X pins σ Q) X.xe s := by
  have r2 : Vals (vs ++ dvs) (us ++ ds) := r.append hd
  have hl : (us ++ ds).length = ps.length := by rw [← r2.length]; exact F.len _ _ _ _ h
  refine wpAny_call (codeAny_mono (F.run X.A X.stack s H ⟨us, []⟩ (us ++ ds) (vs ++ dvs) Q E hr I.env0 (hb s us I.kIn hl) r2 h) fun r s' hq => ?_)
  cases r with
  | error e => exact hx pins σ H s e s' I hq
  | ok fl =>
    cases fl with
    | ret u => exact I.after hq
    | next => exact False.elim hq
    | brk => exact False.elim hq
    | cont => exact False.elim hq

theorem pe_call (F : FnOk X.prog X.w X.K X.mg X.base CX k f fd ps sp) (hr : Room k X.A) (hg : Gl X x) (hm : X.mg x = some (.ref f)) (hk : PySem.W.keepIn X.K (.ref f) = true) (hb : Binds X.K fd ps ds) (hd : Vals dvs ds) (hx : Passes CX X E)
    (ha : PA X (e :: es) t) (hdb : (x == ("__debug__" : Str)) = false := by decide) (he : starEach (e :: es) X.env = (false, eval e X.env) :: starEach es X.env := by rfl) (hpl : (backTo pos (starEach es X.env)).any (·.1) = false := by rfl) :
    PE X (.Call (.Name x p) (e :: es) [] pos) (tCall sp dvs E t) := by
  intro pins s σ H Q I h
  refine wpAny_Call_Name_kw (ld_glob I hg hm ?_ hdb)
  refine PySem.W.callWith_K (h₀ := X.base) I.ok.mod.kin hk (thn (ha pos pins s σ H _ I h) fun us s1 ⟨vs, H1, I1, r, q⟩ => ⟨I1.kIn, ?_⟩) he hpl
  exact run_fn F hr hb hd hx I1 r q
theorem pe_call0 (F : FnOk X.prog X.w X.K X.mg X.base CX k f fd ps sp) (hr : Room k X.A) (hg : Gl X x) (hm : X.mg x = some (.ref f)) (hk : PySem.W.keepIn X.K (.ref f) = true) (hb : Binds X.K fd ps ds) (hd : Vals dvs ds) (hx : Passes CX X E)
    (hdb : (x == ("__debug__" : Str)) = false := by decide) : PE X (.Call (.Name x p) [] [] pos) (tCall sp dvs E tNil) := by
  intro pins s σ H Q I h
  refine wpAny_Call_Name_kw (ld_glob I hg hm ?_ hdb)
  exact PySem.W.callWith_K0 I.kIn hk (run_fn (us := []) F hr hb hd hx I .nil h)

/-- what a class must have to be made -/
structure Mk (K : PySem.W.Frag) (C f : Addr) : Prop where
  makes : PySem.W.makesIn K C = true
  init : PySem.W.findIn K (.ref C) "__init__" = some (some (.ref f))
  fn : PySem.W.isFn K (.ref f) = true
  kp : PySem.W.keepIn K (.ref C) = true

end

/-! ### keywords -/
section
variable {X : Cx} {CX : CXT} {k : Nat} {f C : Addr} {fd : FuncData} {ps ks : List Str} {sp : Sp} {E : XK} {x m : Str} {p pos apos kpos : Pos} {e o : Expr} {es : List Expr} {kws : List Keyword} {te ta : TE} {t tk : TA} {nm : Option Str}
/-- how a call with keywords binds: g puts the positional values us and the keywords' values ws (names ks) in the parameters' order, defaults among them -/
structure KBinds (K : PySem.W.Frag) (fd : FuncData) (ps ks : List Str) (g : List Value → List Value → List Value) (gV : List V → List V → List V) : Prop where
  to : ∀ (s : Shared) (us ws : List Value), K.In s.heap → (g us ws).length = ps.length → BindsTo s fd ⟨us, ks.zip ws⟩ (ps.zip (g us ws))
  rel : ∀ {vs : List V} {us : List Value} {zs : List V} {ws : List Value}, Vals vs us → Vals zs ws → Vals (gV vs zs) (g us ws)
variable {g : List Value → List Value → List Value} {gV : List V → List V → List V}
end

/-! ### a def's body keeps its promise -/
/-- names: the parameters first -/
structure FnScope (N P : List Str) (sc : Scope) : Prop where
  kind : sc.kind = .function
  co : sc.isCoroutine = false
  gen : sc.isGenerator = false
  nd : N.Nodup
  pre : N.take P.length = P
  par : ∀ x ∈ P, sc.names.lookup x = some .local ∨ sc.names.lookup x = some .cell
  nofree : ∀ y ∈ sc.names, y.2 ≠ .free

theorem bindL_out {kindOf : Str → Option NameKind} {x : Str} : ∀ {binds : List (Str × Value)} {m : Str → Option Value}, (∀ v, (x, v) ∉ binds) → bindL kindOf binds m x = m x
  | [], _, _ => rfl
  | (n, v) :: r, m, h => by
    unfold bindL
    rw [bindL_out fun w hw => h w (List.mem_cons_of_mem _ hw)]
    split
    · have : x ≠ n := by rintro rfl; exact h v List.mem_cons_self
      simp [this]
    · rfl
theorem bindC_out {kindOf : Str → Option NameKind} {x : Str} : ∀ {binds : List (Str × Value)} {m : Str → Option Value}, (∀ v, (x, v) ∉ binds) → bindC kindOf binds m x = m x
  | [], _, _ => rfl
  | (n, v) :: r, m, h => by
    unfold bindC
    rw [bindC_out fun w hw => h w (List.mem_cons_of_mem _ hw)]
    split
    · rfl
    · have : x ≠ n := by rintro rfl; exact h v List.mem_cons_self
      simp [this]
theorem bindL_get {kindOf : Str → Option NameKind} {x : Str} {v : Value} : ∀ {P : List Str} {vs : List Value} {i : Nat} {m : Str → Option Value}, P.Nodup → P[i]? = some x → vs[i]? = some v → kindOf x = some .local →
    bindL kindOf (P.zip vs) m x = some v
  | [], _, _, _, _, h, _, _ => by simp at h
  | _ :: _, [], _, _, _, _, h, _ => by simp at h
  | p :: P, w :: vs, 0, m, nd, h1, h2, hk => by
    simp at h1 h2; subst h1; subst h2
    show bindL kindOf ((p, w) :: P.zip vs) m p = _
    unfold bindL
    rw [bindL_out fun v hv => (List.nodup_cons.mp nd).1 (List.of_mem_zip hv).1, if_pos hk]
    simp
  | p :: P, w :: vs, i + 1, m, nd, h1, h2, hk => by
    show bindL kindOf ((p, w) :: P.zip vs) m x = _
    unfold bindL
    exact bindL_get (i := i) (List.nodup_cons.mp nd).2 (by simpa using h1) (by simpa using h2) hk
theorem bindC_get {kindOf : Str → Option NameKind} {x : Str} {v : Value} : ∀ {P : List Str} {vs : List Value} {i : Nat} {m : Str → Option Value}, P.Nodup → P[i]? = some x → vs[i]? = some v → kindOf x ≠ some .local →
    bindC kindOf (P.zip vs) m x = some v
  | [], _, _, _, _, h, _, _ => by simp at h
  | _ :: _, [], _, _, _, _, h, _ => by simp at h
  | p :: P, w :: vs, 0, m, nd, h1, h2, hk => by
    simp at h1 h2; subst h1; subst h2
    show bindC kindOf ((p, w) :: P.zip vs) m p = _
    unfold bindC
    rw [bindC_out fun v hv => (List.nodup_cons.mp nd).1 (List.of_mem_zip hv).1, if_neg hk]
    simp
  | p :: P, w :: vs, i + 1, m, nd, h1, h2, hk => by
    show bindC kindOf ((p, w) :: P.zip vs) m x = _
    unfold bindC
    exact bindC_get (i := i) (List.nodup_cons.mp nd).2 (by simpa using h1) (by simpa using h2) hk

/-- the names' values at the entry -/
def start (N : List Str) (vs : List V) : St := vs.map some ++ List.replicate (N.length - vs.length) none

/-- the context of a def's body, at its entry; an exception leaves the frame, then lies as CX says -/
def cxOf (CX : CXT) (P : Program) (w : World) (K : PySem.W.Frag) (mg : Str → Option Value) (base : Heap) (N : List Str) (qual : Str) (scope : Scope) (f : Addr) (cd : Value) (A : Around) (outer : List Env) (s : Shared) (H : Hp) (E : XK) : Cx where
  prog := P
  w := w
  K := K
  mg := mg
  base := base
  A := A.deeper (envOfC qual scope s.heap.objs.size f cd)
  N := N
  s₀ := s
  H₀ := H
  env := envOfC qual scope s.heap.objs.size f cd
  outer := outer
  stack := envOfC qual scope s.heap.objs.size f cd :: outer
  ex := []
  calm := true
  fn := fun _ => true
  pn := []
  xe := fun e s' => wpAny (model P w) (A.deeper (envOfC qual scope s.heap.objs.size f cd)) (leaving (envOfC qual scope s.heap.objs.size f cd) e) (fun _ s'' => CX outer H s E e s'') (fun e' s'' => CX outer H s E e' s'') s'

theorem cell_has {sc : Scope} {n : Nat} {x : Str} (h : sc.names.lookup x = some .cell) : ∃ c, (cellsFrom n sc.names []).lookup x = some c := by
  have q := PySem.W.cellsFrom_some sc.names n [] (.inl h)
  exact Option.isSome_iff_exists.mp q

theorem inv_start {CX : CXT} {P : Program} {w : World} {K : PySem.W.Frag} {mg : Str → Option Value} {base : Heap} {N ps : List Str} {qual : Str} {scope : Scope} {f : Addr} {cd : Value} {A : Around} {outer : List Env} {s s1 : Shared} {H : Hp} {E : XK} {us : List Value} {vs : List V}
    (S : FnScope N ps scope) (hd : A.handled = none) (e0 : Env0 P w K mg base A outer s H) (hl : vs.length = ps.length) (r : Vals vs us)
    (x : InCallC s s.heap.objs.size (bindL (envOfC qual scope s.heap.objs.size f cd).kindOf (ps.zip us) fun _ => none) (cellsFrom (s.heap.objs.size + 1) scope.names []) (bindC (envOfC qual scope s.heap.objs.size f cd).kindOf (ps.zip us) fun _ => none) s1) :
    Inv (cxOf CX P w K mg base N qual scope f cd A outer s H E) [] (start N vs) H s1 := by
  have hpl : ps.length ≤ N.length := by have := congrArg List.length S.pre; rw [List.length_take] at this; omega
  obtain ⟨h1, tk, rfl, hk⟩ := x.done
  have noA : ∀ b : Addr, b ∉ (cxOf CX P w K mg base N qual scope f cd A outer s H E).ex := fun b z => absurd (show b ∈ ([] : List Addr) from z) (by simp)
  refine ⟨⟨e0.mod, S.kind, rfl, rfl, Nat.le_refl _, fun y z c h1 h2 => ?_, fun y hy => ?_, fun y c _ h => ?_, fun _ => hd, Around.frames_deeper e0.frames, .inr ⟨rfl, rfl⟩, fun b z => absurd z (noA b), e0.bs, e0.bsz, fun b _ _ => noA b, fun b z => absurd z (noA b), e0.funs, e0.frf⟩,
    rfl, e0.bare, Un.kept hk, ⟨_, x.toInCall.ns, fun i y v h1 h2 h3 => ?_⟩, fun y c h => ⟨_, x.cell y c h⟩, e0.hok.fresh (Nat.le_refl _), fun y c h => ?_, fun p hp => absurd (show p ∈ ([] : List (Addr × Obj)) from hp) (by simp), e0.hok.kept hk, ?_⟩
  · exact name_of_addr x.apart (PySem.mem_of_lookup h1) (PySem.mem_of_lookup h2)
  · have hy : scope.names.lookup y = some .cell ∨ scope.names.lookup y = some .free := hy
    rcases hy with hy | hy
    · exact cell_has hy
    · exact absurd rfl (S.nofree _ (PySem.mem_of_lookup hy))
  · exact Nat.le_of_lt (x.above y c (PySem.mem_of_lookup h))
  · have hi : i < vs.length := by
      unfold start at h2
      by_cases hi : i < vs.length
      · exact hi
      · rw [List.getElem?_append_right (by simpa using hi)] at h2
        rw [List.getElem?_replicate] at h2
        split at h2 <;> cases h2
    have ha : vs[i]? = some v := by
      unfold start at h2
      rw [List.getElem?_append_left (by simpa using hi), List.getElem?_map] at h2
      cases e : vs[i]? with
      | none => rw [e] at h2; cases h2
      | some a => rw [e] at h2; cases h2; rfl
    obtain ⟨u, hu, rv⟩ := r.get ha
    have hp : ps[i]? = some y := by
      rw [← S.pre, List.getElem?_take_of_lt (by omega)]; exact h1
    have ndP : ps.Nodup := by rw [← S.pre]; exact S.nd.sublist (List.take_sublist _ _)
    refine ⟨u, rv, ?_⟩
    rcases S.par y (List.mem_of_getElem? hp) with k | k
    · exact .inl ⟨k, bindL_get ndP hp hu k⟩
    · obtain ⟨c, e⟩ := cell_has (n := s.heap.objs.size + 1) k
      refine .inr ⟨.inl k, c, e, ?_⟩
      have q := x.cell y c e
      rw [bindC_get ndP hp hu (by show scope.names.lookup y ≠ _; rw [k]; decide)] at q
      exact q
  · exact e0.hok.fresh (Nat.le_of_lt (x.above y c (PySem.mem_of_lookup h)))
  · unfold start
    show _ = N.length
    rw [List.length_append, List.length_map, List.length_replicate]
    omega

/-- THE RULE: a def (or a method) of the text, by its body. The body's reading t is chosen for each entry; it is run at the parameters' values -/
theorem fn_of {CX : CXT} {P : Program} {w : World} {K : PySem.W.Frag} {mg : Str → Option Value} {base : Heap} {k : Nat} {f : Addr} {name qual : Str} {params : Arguments} {body : List Stmt} {scope : Scope} {dV kV doc pm cdv ct oc : Value} {an od : Option Addr}
    {osl : Array (Option Value)} {N ps : List Str} {sp : Sp} (lk : K.lookup f = some ⟨oc, od, .func (PySem.W.fnOf name qual params body scope dV kV doc pm an cdv ct), osl⟩) (hcd : PySem.W.codeIn K cdv qual = true) (S : FnScope N ps scope)
    (len : ∀ vs H Q E, sp vs H Q E → vs.length = ps.length)
    (hbody : ∀ (A : Around) (outer : List Env) (s : Shared) (H : Hp) (vs : List V) (Q : VK) (E : XK), Room k (A.deeper (envOfC qual scope s.heap.objs.size f cdv)) → sp vs H Q E →
      ∃ t, PSs (cxOf CX P w K mg base N qual scope f cdv A outer s H E) body t ∧ t { nx := fun _ H' => Q .non H', rt := Q } (start N vs) H) :
    FnOk P w K mg base CX (k + 1) f (PySem.W.fnOf name qual params body scope dV kV doc pm an cdv ct) ps sp := by
  refine ⟨len, fun A outer s H args us vs Q E hr e0 hb r hsp => ?_⟩
  have hl := len _ _ _ _ hsp
  have KX : K.In s.heap := e0.mod.kin.keeps fun b o e => (e0.bs b o e).1
  have lim : s.heap.NoLimit := e0.mod.nolimit.keeps fun b o e => (e0.bs b o e).1
  have hkind : ∀ y ∈ ps.zip us, scope.names.lookup y.1 = some .local ∨ (scope.names.lookup y.1 = some .cell ∧ ((cellsFrom (s.heap.objs.size + 1) scope.names []).lookup y.1).isSome = true) := fun ⟨n, v⟩ hy => by
    rcases S.par n (List.of_mem_zip hy).1 with q | q
    · exact .inl q
    · exact .inr ⟨q, PySem.W.cellsFrom_some _ _ _ (.inl q)⟩
  refine codeAny_call_function hr.depth (KX _ _ lk) rfl S.co S.gen rfl (PySem.W.codeRec_of KX hcd) (hb _ _ _ _ ?_)
  refine wpAny_newFunctionEnv_cells S.kind hkind fun env he s1 x => ?_
  subst he
  refine ⟨lim.keeps x.toInCall.keep, codeAny_func ?_⟩
  obtain ⟨t, ht, hq⟩ := hbody A outer s H vs Q E (hr.deeper _) hsp
  have I : Inv (cxOf CX P w K mg base N qual scope f cdv A outer s H E) [] (start N vs) H s1 := inv_start S hr.hd e0 hl r x
  refine wpAny_mono (ht [] s1 (start N vs) H _ I hq) (fun fl s' hs => ?_) fun e s' hs => hs
  have fin : ∀ {σ' : St} {H' : Hp} {v : V} {u : Value}, Inv (cxOf CX P w K mg base N qual scope f cdv A outer s H E) [] σ' H' s' → RelV v u → Q v H' → CE outer P w H s Q u s' :=
    fun {σ' H' v u} J rv q => ⟨v, H', J.os, J.bare, J.base, J.hok, rv, q⟩
  cases fl with
  | ret u =>
    obtain ⟨v, σ', H', J, rv, q⟩ := hs
    exact fin J rv q
  | next =>
    obtain ⟨σ', H', J, q⟩ := hs
    exact fin (v := V.non) (u := Value.none) J rfl q
  | brk =>
    obtain ⟨_, _, _, q⟩ := hs
    exact False.elim q
  | cont =>
    obtain ⟨_, _, _, q⟩ := hs
    exact False.elim q
end L2

namespace L2
open PySem PySem.Spec PyProof.Rows
section
variable {X : Cx} {x : Str} {p pos : Pos} {e : Expr} {es : List Expr} {t : TA} {id T : String} {r : List V → Hp → VK → Prop}

def tCB (r : List V → Hp → VK → Prop) (t : TA) : TE := fun σ H Q => t σ H fun vs H1 => r vs H1 Q
/-- f(e, ..), f a built-in function -/
theorem pe_callB (hc : CallR X (.builtin id) r) (hg : Gl X x) (hm : X.mg x = none) (hv : bootBuiltins x = some (.builtin id)) (ha : PA X (e :: es) t) (hn : x ≠ "__name__" := by decide) (hdb : (x == ("__debug__" : Str)) = false := by decide)
    (he : starEach (e :: es) X.env = (false, eval e X.env) :: starEach es X.env := by rfl) (hpl : (backTo pos (starEach es X.env)).any (·.1) = false := by rfl) : PE X (.Call (.Name x p) (e :: es) [] pos) (tCB r t) := by
  intro pins s σ H Q I h
  refine wpAny_Call_Name_kw (ld_blt I hg hm hv ?_ hn hdb)
  exact PyProof.Rows.callWith_builtin1 (thn (ha pos pins s σ H _ I h) fun us s1 ⟨vs, H1, I1, r1, q1⟩ => hc pins s1 σ H1 vs us Q I1 r1 q1) he hpl
end
end L2

namespace HT
open PySem PyProof.Rows

section
open PySem.SeqAt
open PySem.AutoSeq1 (wpAny_loadPart')
open PySem.MeetsSeq PySem.MeetsSeq2 PySem.MeetsSeq3

end

section
variable {prog : Program} {w : World} {A : Around} {E : Value → Shared → Prop} {s : Shared}

/-! ### t[a:b], not the whole -/
end
end HT

namespace L2
open PySem PySem.Spec PyProof.Rows

/-! ### the parts of a slice -/
abbrev TO := St → Hp → (Option Int → Hp → Prop) → Prop
/-- a slice's part (left out, or an int) -/
def PO (X : Cx) (e : Option Expr) (t : TO) : Prop :=
  ∀ (pins : List (Addr × Obj)) (s : Shared) (σ : St) (H : Hp) (Q : Option Int → Hp → Prop), Inv X pins σ H s → t σ H Q →
    wpAny (model X.prog X.w) X.A (evalPart e X.env) (fun u s' => ∃ o H', Inv X pins σ H' s' ∧ IsPart u o ∧ Q o H') X.xe s
def tNoPart : TO := fun _ H Q => Q none H
def tPart (t : TE) : TO := fun σ H Q => t σ H fun x H1 => ∃ i, x = .int i ∧ Q (some i) H1

section
variable {X : Cx} {e : Expr} {te : TE} {lo hi : Option Expr} {tl th : TO} {pos p2 : Pos}

theorem po_none : PO X none tNoPart := by
  intro pins s σ H Q I h
  rw [evalPart_none]
  exact wpAny_pure ⟨none, H, I, .none, h⟩
theorem po_some (h : PE X e te) : PO X (some e) (tPart te) := by
  intro pins s σ H Q I hw
  rw [evalPart_some]
  refine thn (h pins s σ H _ I hw) fun u s1 ⟨x, H1, I1, r1, q1⟩ => ?_
  obtain ⟨i, rfl, q⟩ := q1
  obtain ⟨t, rfl⟩ := r1
  exact ⟨some i, H1, I1, .int i t, q⟩

/-- what a slice of a value is, by values: the slice object stands at sl -/
def SlR (X : Cx) (r : V → Option Int → Option Int → Hp → VK → Prop) : Prop :=
  ∀ (pins : List (Addr × Obj)) (s : Shared) (σ : St) (H : Hp) (x : V) (v vl vu : Value) (lo hi : Option Int) (sl : Addr) (Q : VK), Inv X pins σ H s → RelV x v → s.heap.IsSliceOf sl vl vu .none → IsPart vl lo → IsPart vu hi → r x lo hi H Q →
    ∃ T id, typeLookup (.type T) "__getitem__" = pure (some (.builtin id)) ∧ s.TypeIs v T ∧ wpAny (model X.prog X.w) X.A (getItem v (.ref sl)) (EP X pins σ Q) X.xe s
theorem SlR.or {r r' : V → Option Int → Option Int → Hp → VK → Prop} (h : SlR X r) (h' : SlR X r') : SlR X (fun x lo hi H Q => r x lo hi H Q ∨ r' x lo hi H Q) := by
  intro pins s σ H x v vl vu lo hi sl Q I rx hs pl pu q
  rcases q with q | q
  · exact h pins s σ H x v vl vu lo hi sl Q I rx hs pl pu q
  · exact h' pins s σ H x v vl vu lo hi sl Q I rx hs pl pu q
def tSl (r : V → Option Int → Option Int → Hp → VK → Prop) (te : TE) (tl th : TO) : TE := fun σ H Q => te σ H fun x H1 => tl σ H1 fun l H2 => th σ H2 fun u H3 => r x l u H3 Q
/-- a[lo:hi], any a -/
theorem pe_slice {r : V → Option Int → Option Int → Hp → VK → Prop} (hr : SlR X r) (he : PE X e te) (hl : PO X lo tl) (hu : PO X hi th) : PE X (.Subscript e (.Slice lo hi none p2) pos) (tSl r te tl th) := by
  intro pins s σ H Q I h
  refine Subscript_ (thn (he pins s σ H _ I h) fun v s1 ⟨x, H1, I1, r1, q1⟩ => ?_)
  refine wpAny_Slice (thn (hl pins s1 σ H1 _ I1 q1) fun vl s2 ⟨l, H2, I2, pl, q2⟩ => thn (hu pins s2 σ H2 _ I2 q2) fun vu s3 ⟨u, H3, I3, pu, q3⟩ => ?_)
  rw [evalPart_none]
  refine wpAny_pure ?_
  have I4 : Inv X pins σ H3 { s3 with heap := s3.heap.push { cls := .type "slice", data := .fields #[vl, vu, .none] } } := I3.kept (t' := s3.toks) fun b ob q => Heap.get?_push_of_some _ q
  obtain ⟨T, id, hT, ht, hg⟩ := hr pins { s3 with heap := s3.heap.push { cls := .type "slice", data := .fields #[vl, vu, .none] } } σ H3 x v vl vu l u s3.heap.objs.size Q I4 r1 (Heap.IsSliceOf.new ..) pl pu q3
  show wpAny (model X.prog X.w) X.A (subscriptTail e (.Slice lo hi none p2) v (.ref s3.heap.objs.size)) (EP X pins σ Q) X.xe { s3 with heap := s3.heap.push { cls := .type "slice", data := .fields #[vl, vu, .none] } }
  exact tail_any (ops := [.ref s3.heap.objs.size, v]) ht hT hg (by with_unfolding_all rfl)

/-! ### t < u, t + u -/
end
end L2

namespace L2
open PySem PySem.Spec PyProof.Rows

/-! ### places -/
/-- the place that an index of any sign means -/
def ixN (n : Nat) (i : Int) : Option Nat := if 0 ≤ i then (if i < n then some i.toNat else none) else if -(n : Int) ≤ i then some (i + n).toNat else none
def atI {α : Type} (xs : List α) (i : Int) : Option α := (ixN xs.length i).bind fun j => xs[j]?
theorem ixN_seq {n : Nat} {i : Int} {j : Nat} (h : ixN n i = some j) : seqIndex? i n = some j ∧ j < n ∧ -(n : Int) ≤ i ∧ i < n := by
  unfold ixN at h
  by_cases h0 : 0 ≤ i
  · rw [if_pos h0] at h
    by_cases h1 : i < n
    · rw [if_pos h1] at h
      have e : i.toNat = j := Option.some.inj h
      exact ⟨by rw [seqIndex_of h0 h1, e], by omega, by omega, h1⟩
    · rw [if_neg h1] at h; cases h
  · rw [if_neg h0] at h
    by_cases h1 : -(n : Int) ≤ i
    · rw [if_pos h1] at h
      have e : (i + n).toNat = j := Option.some.inj h
      exact ⟨by rw [seqIndex_neg (by omega) h1, e], by omega, h1, by omega⟩
    · rw [if_neg h1] at h; cases h
theorem atI_get {α : Type} {xs : List α} {i : Int} {v : α} (h : atI xs i = some v) : ∃ j, seqIndex? i xs.length = some j ∧ xs[j]? = some v ∧ j < xs.length ∧ -(xs.length : Int) ≤ i ∧ i < xs.length := by
  unfold atI at h
  cases e : ixN xs.length i with
  | none => rw [e] at h; cases h
  | some j =>
    rw [e] at h
    obtain ⟨h1, h2, h3, h4⟩ := ixN_seq e
    exact ⟨j, h1, h, h2, h3, h4⟩
theorem atI_nat {α : Type} {xs : List α} {j : Nat} {v : α} (h : xs[j]? = some v) : atI xs (j : Int) = some v := by
  have hj : j < xs.length := (List.getElem?_eq_some_iff.mp h).1
  have e : ixN xs.length (j : Int) = some j := by
    unfold ixN
    rw [if_pos (by omega), if_pos (by omega)]; simp
  unfold atI; rw [e]; exact h
/-! ### what may be subscripted -/
/-- what stands as an index of a plain subscript -/
def PlainIx (b : Expr) : Prop := ∀ o i, subscripted b false o i = operate [o, i] (getItem o i)
/-- a subscript by values -/
def IxR (X : Cx) (r : R2) : Prop :=
  ∀ (value slice : Expr) (pins : List (Addr × Obj)) (s : Shared) (σ : St) (H : Hp) (x y : V) (v u : Value) (Q : VK), Inv X pins σ H s → RelV x v → RelV y u → r x y H Q →
    subscripted slice false v u = operate [v, u] (getItem v u) → wpAny (model X.prog X.w) X.A (subscriptTail value slice v u) (EP X pins σ Q) X.xe s
/-- a call of a builtin's method by values: the receiver, the arguments -/
def MtR (X : Cx) (id : String) (r : V → List V → Hp → VK → Prop) : Prop :=
  ∀ (pins : List (Addr × Obj)) (s : Shared) (σ : St) (H : Hp) (x : V) (xs : List V) (v : Value) (us : List Value) (Q : VK), Inv X pins σ H s → RelV x v → Vals xs us → r x xs H Q →
    wpAny (model X.prog X.w) X.A (call (.builtin id) (v :: us)) (EP X pins σ Q) X.xe s
section
variable {X : Cx} {a b : Expr} {ta tb : TE} {pos : Pos}
theorem IxR.or {r r' : R2} (h : IxR X r) (h' : IxR X r') : IxR X (fun x y H Q => r x y H Q ∨ r' x y H Q) := by
  intro value slice pins s σ H x y v u Q I rx ry q hs
  rcases q with q | q
  · exact h value slice pins s σ H x y v u Q I rx ry q hs
  · exact h' value slice pins s σ H x y v u Q I rx ry q hs
theorem MtR.or {id : String} {r r' : V → List V → Hp → VK → Prop} (h : MtR X id r) (h' : MtR X id r') : MtR X id (fun x xs H Q => r x xs H Q ∨ r' x xs H Q) := by
  intro pins s σ H x xs v us Q I rx rs q
  rcases q with q | q
  · exact h pins s σ H x xs v us Q I rx rs q
  · exact h' pins s σ H x xs v us Q I rx rs q
/-- a[b] -/
theorem pe_ix {r : R2} (hr : IxR X r) (ha : PE X a ta) (hb : PE X b tb) (hs : PlainIx b) : PE X (.Subscript a b pos) (tOp r ta tb) := by
  intro pins s σ H Q I h
  exact Subscript_ (binT ha hb I h fun v u s2 x y H2 I2 rx ry q => hr a b pins s2 σ H2 x y v u Q I2 rx ry q (hs _ _))

def rIxL (K : PySem.W.Frag) : R2 := fun x y H Q => ∃ p xs i v, x = .ref p ∧ y = .int i ∧ SqL K H p xs ∧ atI xs i = some v ∧ Q v H
def rIxS : R2 := fun x y H Q => ∃ z i c, x = .str z ∧ y = .int i ∧ z.length ≤ sizeLine ∧ atI z.cps.toList i = some c ∧ Q (.str ⟨#[c]⟩) H
theorem ix_list : IxR X (rIxL X.K) := by
  intro value slice pins s σ H x y v u Q I rx ry h hs
  obtain ⟨p, xs, i, z, rfl, rfl, hq, he, q⟩ := h
  cases rx
  obtain ⟨t, rfl⟩ := ry
  obtain ⟨its, r, pl, hz⟩ := I.list hq
  obtain ⟨j, h1, h2, h3, h4, h5⟩ := atI_get he
  obtain ⟨w, ew, rw'⟩ := r.get h2
  have hl := r.length
  have hn := line63
  have fin : EP X pins σ Q w s := ⟨z, H, I, rw', q⟩
  by_cases h0 : 0 ≤ i
  · have hj : i.toNat = j := by
      rw [seqIndex_of h0 h5] at h1
      exact Option.some.inj h1
    exact item_listR pl.isList h0 (by omega) (by rw [hj]; simpa using ew) fin hs
  · have hj : (i + (its.toArray.size : Int)).toNat = j := by
      rw [seqIndex_neg (by omega) h4] at h1
      rw [List.size_toArray, ← hl]
      exact Option.some.inj h1
    exact subscriptTail_builtinR (x := w) pl.isList.typeIs slot_list_getitem.lookup
      (wpAny_getItem_list_neg (Q := fun r s' => r = w ∧ EP X pins σ Q r s') pl.isList (by omega) (by rw [List.size_toArray] <;> omega) (by omega) (by rw [hj]; simpa using ew) ⟨rfl, fin⟩) hs
theorem ix_str : IxR X rIxS := by
  intro value slice pins s σ H x y v u Q I rx ry h hs
  obtain ⟨z, i, c, rfl, rfl, hz, he, q⟩ := h
  obtain ⟨t, rfl⟩ := rx
  obtain ⟨t', rfl⟩ := ry
  obtain ⟨j, h1, h2, h3, h4, h5⟩ := atI_get he
  have hl : z.cps.toList.length = z.length := by simp [Str.length]
  rw [hl] at h1 h4 h5
  have hn := line63
  exact tail_any (typeIs_str s z t) slot_str_getitem.lookup (getItem_str (c := c) (by
    have e1 : decide (i < -(2 ^ 63 : Int)) = false := decide_eq_false (by omega)
    have e2 : decide (i ≥ 2 ^ 63) = false := decide_eq_false (by omega)
    rw [e1, e2, Bool.or_false]) (by rw [h1]; simpa using h2) ⟨.str ⟨#[c]⟩, H, I.tok _, ⟨_, rfl⟩, q⟩) hs
/-! ### xs[i] = v, any sign -/
theorem Inv.lst {pins : List (Addr × Obj)} {σ : St} {H : Hp} {s : Shared} {p : Addr} {xs : List V} (I : Inv X pins σ H s) (h : H p = some (.lst xs)) :
    ∃ (its : List Value) (n : Nat), Vals xs its ∧ s.heap.get? p = some { cls := .type "list", data := .seq its.toArray n } ∧ xs.length ≤ sizeLine := by
  obtain ⟨z, its, n, r, e⟩ := I.hok p _ h
  exact ⟨its, n, r, e, z⟩
/-! ### slices -/
/-! ### in, not in: flat items -/
def flatV : V → Bool
  | .non => true
  | .bl _ => true
  | .int _ => true
  | .str _ => true
  | _ => false
/-- == of flat values -/
def eqV : V → V → Bool
  | .non, .non => true
  | .bl a, .bl b => a == b
  | .bl a, .int b => (if a then 1 else 0) == b
  | .int a, .bl b => a == (if b then 1 else 0)
  | .int a, .int b => a == b
  | .str a, .str b => a == b
  | _, _ => false
theorem eqAt_V {A : Around} {s : Shared} {y x : V} {u v : Value} (ry : RelV y u) (rx : RelV x v) (fy : flatV y = true) (fx : flatV x = true) : SeqAt.EqAt A s u v (eqV y x) := by
  cases y with
  | non =>
    cases ry
    cases x with
    | non => cases rx; exact SeqAt.EqAt.same _
    | bl b => cases rx; exact SeqAt.EqAt.none_bool b
    | int b => obtain ⟨t, rfl⟩ := rx; exact SeqAt.EqAt.none_int b t
    | str b => obtain ⟨t, rfl⟩ := rx; exact SeqAt.EqAt.none_str b t
    | _ => exact absurd (show false = true from fx) Bool.false_ne_true
  | bl a =>
    cases ry
    cases x with
    | non => cases rx; exact SeqAt.EqAt.bool_none a
    | bl b => cases rx; exact SeqAt.EqAt.bool_bool a b
    | int b => obtain ⟨t, rfl⟩ := rx; exact SeqAt.EqAt.bool_int a b t
    | str b => obtain ⟨t, rfl⟩ := rx; exact SeqAt.EqAt.bool_str a b t
    | _ => exact absurd (show false = true from fx) Bool.false_ne_true
  | int a =>
    obtain ⟨t', rfl⟩ := ry
    cases x with
    | non => cases rx; exact SeqAt.EqAt.int_none a t'
    | bl b => cases rx; exact SeqAt.EqAt.int_bool a t' b
    | int b => obtain ⟨t, rfl⟩ := rx; exact SeqAt.EqAt.int_int a t' b t
    | str b => obtain ⟨t, rfl⟩ := rx; exact SeqAt.EqAt.int_str a t' b t
    | _ => exact absurd (show false = true from fx) Bool.false_ne_true
  | str a =>
    obtain ⟨t', rfl⟩ := ry
    cases x with
    | non => cases rx; exact SeqAt.EqAt.str_none a t'
    | bl b => cases rx; exact SeqAt.EqAt.str_bool a t' b
    | int b => obtain ⟨t, rfl⟩ := rx; exact SeqAt.EqAt.str_int a t' b t
    | str b => obtain ⟨t, rfl⟩ := rx; exact SeqAt.EqAt.str_str a t' b t
    | _ => exact absurd (show false = true from fx) Bool.false_ne_true
  | _ => exact absurd (show false = true from fy) Bool.false_ne_true
/-- the items' answers, read off the values (a value's own answer does not lean on its token) -/
def eqU (x : V) (u : Value) : Bool := match u with
  | .none => eqV .non x
  | .bool b => eqV (.bl b) x
  | .int i _ => eqV (.int i) x
  | .str z _ => eqV (.str z) x
  | _ => false
theorem eqU_of {x y : V} {u : Value} (r : RelV y u) (f : flatV y = true) : eqU x u = eqV y x := by
  cases y with
  | non => cases r; rfl
  | bl b => cases r; rfl
  | int i => obtain ⟨t, rfl⟩ := r; rfl
  | str z => obtain ⟨t, rfl⟩ := r; rfl
  | _ => exact absurd (show false = true from f) Bool.false_ne_true
theorem any_eqU {x : V} : ∀ {xs : List V} {us : List Value}, Vals xs us → xs.all flatV = true → us.any (eqU x) = xs.any fun y => eqV y x
  | _, _, .nil, _ => rfl
  | y :: xs, u :: us, .cons r t, f => by
    rw [List.all_cons, Bool.and_eq_true] at f
    rw [List.any_cons, List.any_cons, eqU_of r f.1, any_eqU t f.2]
theorem mem_eqAt {A : Around} {s : Shared} {x : V} {v : Value} (rx : RelV x v) (fx : flatV x = true) : ∀ {xs : List V} {us : List Value}, Vals xs us → xs.all flatV = true → ∀ u ∈ us, SeqAt.EqAt A s u v (eqU x u)
  | _, _, .nil, _ => fun u hu => by cases hu
  | y :: xs, u :: us, .cons r t, f => fun u' hu => by
    rw [List.all_cons, Bool.and_eq_true] at f
    rcases List.mem_cons.mp hu with rfl | hu
    · rw [eqU_of r f.1]; exact eqAt_V r rx f.1 fx
    · exact mem_eqAt rx fx t f.2 u' hu
def inV (x : V) (xs : List V) : Bool := xs.any fun y => eqV y x
/-- x in a list or tuple of flat items -/
def rIn (K : PySem.W.Frag) (neg : Bool) : R2 := fun x y H Q => ∃ p xs, y = .ref p ∧ (SqL K H p xs ∨ SqT K H p xs) ∧ flatV x = true ∧ xs.all flatV = true ∧ Q (.bl (if neg then !inV x xs else inV x xs)) H
theorem op_in_seq : OpR X (compareOp .In) (rIn X.K false) := by
  intro pins s σ H x y v u Q I rx ry h
  obtain ⟨p, xs, rfl, hq, fx, fs, q⟩ := h
  cases ry
  rcases hq with hq | hq
  · obtain ⟨its, r, pl, hz⟩ := I.list hq
    refine SeqAt.in_listAt (eqU x) pl.isList (fun w hw => mem_eqAt rx fx r fs w (by simpa using hw)) ⟨.bl _, H, I, rfl, ?_⟩
    rw [show its.toArray.any (eqU x) = its.any (eqU x) by simp, any_eqU r fs]
    exact q
  · obtain ⟨its, r, pl, hz⟩ := I.tuple hq
    refine SeqAt.in_tupleAt (eqU x) pl (fun w hw => mem_eqAt rx fx r fs w (by simpa using hw)) ⟨.bl _, H, I, rfl, ?_⟩
    rw [show its.toArray.any (eqU x) = its.any (eqU x) by simp, any_eqU r fs]
    exact q
theorem op_notIn_seq : OpR X (compareOp .NotIn) (rIn X.K true) := by
  intro pins s σ H x y v u Q I rx ry h
  obtain ⟨p, xs, rfl, hq, fx, fs, q⟩ := h
  cases ry
  rcases hq with hq | hq
  · obtain ⟨its, r, pl, hz⟩ := I.list hq
    refine SeqAt.notIn_listAt (eqU x) pl.isList (fun w hw => mem_eqAt rx fx r fs w (by simpa using hw)) ⟨.bl _, H, I, rfl, ?_⟩
    rw [show its.toArray.any (eqU x) = its.any (eqU x) by simp, any_eqU r fs]
    exact q
  · obtain ⟨its, r, pl, hz⟩ := I.tuple hq
    refine SeqAt.notIn_tupleAt (eqU x) pl (fun w hw => mem_eqAt rx fx r fs w (by simpa using hw)) ⟨.bl _, H, I, rfl, ?_⟩
    rw [show its.toArray.any (eqU x) = its.any (eqU x) by simp, any_eqU r fs]
    exact q
/-! ### len, list(x), tuple(x) of any list or tuple that is read -/
theorem call_len_str : CallR X (.builtin "len") (fun xs H Q => ∃ z, xs = [.str z] ∧ z.length ≤ sizeLine ∧ Q (.int z.length) H) := by
  intro pins s σ H xs us Q I r h
  obtain ⟨z, rfl, hz, q⟩ := h
  obtain ⟨u, rfl, t, rfl⟩ := vals1 r
  have hn := line63
  exact len_str (by omega) ⟨.int z.length, H, I.tok _, ⟨_, rfl⟩, q⟩
theorem CallR.or {f : Value} {r r' : List V → Hp → VK → Prop} (h : CallR X f r) (h' : CallR X f r') : CallR X f (fun xs H Q => r xs H Q ∨ r' xs H Q) := by
  intro pins s σ H xs us Q I rs q
  rcases q with q | q
  · exact h pins s σ H xs us Q I rs q
  · exact h' pins s σ H xs us Q I rs q
/-! ### the call of a builtin's method: o.m(..) -/
/-- the value is of that builtin type -/
def tyV (K : PySem.W.Frag) (T : String) (x : V) (H : Hp) : Prop := match x with
  | .str _ => T = "str"
  | .int _ => T = "int"
  | .ref p => (T = "list" ∧ ∃ xs, SqL K H p xs) ∨ (T = "tuple" ∧ ∃ o, K.lookup p = some o ∧ o.cls = .type "tuple" ∧ o.dict = none) ∨
      (T = "dict" ∧ ((∃ kvs, H p = some (.dK kvs)) ∨ ∃ kvs, H p = some (.dT kvs))) ∨ (T = "set" ∧ ∃ S n, H p = some (.set S n))
  | _ => False
theorem tyV_is {pins : List (Addr × Obj)} {σ : St} {H : Hp} {s : Shared} {T : String} {x : V} {v : Value} (I : Inv X pins σ H s) (r : RelV x v) (ty : tyV X.K T x H) :
    s.TypeIs v T ∧ ∀ a, v = .ref a → ∃ ob, s.heap.get? a = some ob ∧ ob.dict = none := by
  cases x with
  | str z =>
    obtain ⟨t, rfl⟩ := r
    cases (show T = "str" from ty)
    exact ⟨typeIs_str s z t, fun _ e => nomatch e⟩
  | int i =>
    obtain ⟨t, rfl⟩ := r
    cases (show T = "int" from ty)
    exact ⟨typeIs_int s i t, fun _ e => nomatch e⟩
  | ref p =>
    cases r
    rcases ty with ⟨rfl, xs, hq⟩ | ⟨rfl, o, hk, hc, hd⟩ | ⟨rfl, hk⟩ | ⟨rfl, S, n, hk⟩
    · obtain ⟨its, _, pl, _⟩ := I.list hq
      refine ⟨pl.isList.typeIs, fun a e => ?_⟩
      cases e
      obtain ⟨o, n, e, c, hd, _⟩ := pl
      exact ⟨o, e, hd⟩
    · refine ⟨⟨o, I.kIn p o hk, hc⟩, fun a e => ?_⟩
      cases e
      exact ⟨o, I.kIn _ o hk, hd⟩
    · have z : ∃ o, s.heap.get? p = some o ∧ o.ExactDict := by
        rcases hk with ⟨kvs, hk⟩ | ⟨kvs, hk⟩
        · obtain ⟨_, _, _, _, o, _, _, e, ex, _⟩ := I.hok p _ hk
          exact ⟨o, e, ex⟩
        · obtain ⟨_, _, _, _, o, _, _, e, ex, _⟩ := I.hok p _ hk
          exact ⟨o, e, ex⟩
      obtain ⟨o, e, ex⟩ := z
      refine ⟨⟨o, e, ex.1⟩, fun a e2 => ?_⟩
      cases e2
      exact ⟨o, e, ex.2.1⟩
    · obtain ⟨o, _, _, _, e, ex, _⟩ := I.hok p _ hk
      refine ⟨⟨o, e, ex.1⟩, fun a e2 => ?_⟩
      cases e2
      exact ⟨o, e, ex.2.1⟩
  | _ => exact False.elim ty
def tBM (K : PySem.W.Frag) (T : String) (r : V → List V → Hp → VK → Prop) (to : TE) (t : TA) : TE := fun σ H Q => to σ H fun x H1 => tyV K T x H1 ∧ t σ H1 fun xs H2 => r x xs H2 Q
variable {o e : Expr} {es : List Expr} {to : TE} {t : TA} {name : Str} {apos cpos : Pos} {T id : String} {r : V → List V → Hp → VK → Prop}
theorem pe_bm (pa : PlainAttrs T) (slot : Slot T name id) (hty : typeOf (.builtin id) = pure (.type "method_descriptor")) (hm : MtR X id r) (ho : PE X o to) (ha : PA X (e :: es) t)
    (hbase : attributeBase o name X.env (eval o X.env) = eval o X.env := by rfl)
    (hfew : ((backTo cpos (starEach (e :: es) X.env)).all (fun x => !x.1) && (backToKw cpos (keywordEach [] X.env)).all (fun x => x.1.isSome)
      && decide ((e :: es).length + ([] : List Keyword).length + (if ([] : List Keyword).isEmpty then 0 else 1) < 30)) = true := by rfl)
    (hline : (apos.endLine == cpos.line) = true := by rfl) (hs : starEach (e :: es) X.env = (false, eval e X.env) :: starEach es X.env := by rfl) (hplain : (backTo cpos (starEach es X.env)).any (·.1) = false := by rfl) :
    PE X (.Call (.Attribute o name apos) (e :: es) [] cpos) (tBM X.K T r to t) := by
  intro pins s σ H Q I h
  refine wpAny_Call_method_late hbase hfew hline rfl (thn (ho pins s σ H _ I h) fun v s1 ⟨x, H1, I1, r1, ty, q1⟩ => ?_)
  obtain ⟨h1, h2⟩ := tyV_is I1 r1 ty
  refine ⟨T, id, pa, slot, hty, h1, h2, ?_⟩
  have hA := ha cpos pins s1 σ H1 _ I1 q1
  rw [hs] at hA ⊢
  refine Calls.callWith_builtin (by show (false || (backTo cpos (starEach es X.env)).any (·.1)) = false; rw [hplain] <;> rfl) (Calls.evalArgs_plain ?_)
  exact thn hA fun us s2 ⟨vs, H2, I2, r2, q2⟩ => hm pins s2 σ H2 x vs v us Q I2 r1 r2 q2
/- xs.append(e), list.index on a module's tuple .. are MtR facts of 06m -/
end
end L2

namespace L2
open PySem PySem.Spec PyProof.Rows

/-! ### lists of values -/
theorem Vals.one : ∀ {x : V} {us : List Value}, Vals [x] us → ∃ u, us = [u] ∧ RelV x u
  | _, _, .cons r .nil => ⟨_, rfl, r⟩
theorem Vals.two : ∀ {x y : V} {us : List Value}, Vals [x, y] us → ∃ u v, us = [u, v] ∧ RelV x u ∧ RelV y v
  | _, _, _, .cons r (.cons q .nil) => ⟨_, _, rfl, r, q⟩
theorem Vals.zero : ∀ {us : List Value}, Vals [] us → us = []
  | _, .nil => rfl
theorem Vals.reverse {xs : List V} {us : List Value} (h : Vals xs us) : Vals xs.reverse us.reverse := by
  induction h with
  | nil => exact .nil
  | cons r t ih => rw [List.reverse_cons, List.reverse_cons]; exact Vals.append ih (.cons r .nil)
theorem Vals.rep {xs : List V} {us : List Value} (h : Vals xs us) : ∀ k : Nat, Vals (List.replicate k xs).flatten (List.replicate k us).flatten
  | 0 => .nil
  | k + 1 => by
    rw [List.replicate_succ, List.replicate_succ, List.flatten_cons, List.flatten_cons]
    exact Vals.append h (Vals.rep h k)
section
variable {X : Cx} {pins : List (Addr × Obj)} {σ : St} {H : Hp} {s : Shared} {l b : Addr} {xs ys zs : List V}

/-! ### the two steps: a tracked list is rewritten, a new list is laid -/
theorem Inv.lnew {its : List Value} {t' : Nat} (I : Inv X pins σ H s) (hv : Vals ys its) (hz : ys.length ≤ sizeLine) :
    Inv X pins σ (upd H s.heap.objs.size (.lst ys)) { s with heap := s.heap.push { cls := .type "list", data := .seq its.toArray }, toks := t' } :=
  I.laid (fun _ _ q => Heap.get?_push_of_some _ q) (Nat.le_refl _) ⟨hz, its, 0, hv, Heap.get?_push_size _ rfl⟩
theorem Inv.fresh (I : Inv X pins σ H s) : H s.heap.objs.size = none := I.hok.fresh (Nat.le_refl _)
end

section
variable {X : Cx}

/-! ### methods -/
/-! ### list + list, list += list, list * int -/
/-! ### del xs[i] -/
end

/-! ### xs[a:b] = ys -/
section
variable {prog : Program} {w : World} {A : Around} {E : Value → Shared → Prop} {s : Shared}
set_option maxRecDepth 100000 in
end

section
variable {X : Cx}
end
end L2

namespace Att
open PySem PySem.W PySem.Calls PyProof.Rows

/-! ### the script -/
theorem ints_of_wellAll {P : Params} {h : Heap} : ∀ (ns : List Int) (vs : List Value), WellAll P h vs (ns.map WData.int) → IntsAre vs ns := by
  intro ns
  induction ns with
  | nil =>
    intro vs w
    rw [List.map_nil] at w
    cases w
    exact .nil
  | cons n ns ih =>
    intro vs w
    rw [List.map_cons] at w
    cases w with
    | cons a b =>
      cases a
      exact .cons _ _ (ih _ b)

theorem script_of {l : OpenLaw} {n : Nat} (hn : l.most = some n) {P : Params} {h : Heap} {args : List WData} {vals : List Value}
    (hpre : l.row.toRowW.claim.pre args = true) (hwl : WellAll P h vals args) :
    ∃ a vs ns, vals = [Value.ref a] ∧ args = [WData.list (ns.map WData.int)] ∧ h.get? a = some { cls := .type "list", data := .seq vs.toArray } ∧ IntsAre vs ns ∧ ns.length ≤ n := by
  have hsh : WShape.hasAll [] args [.list .int] = true := (pre_splitW hpre).1
  have hc : l.pre.holds [] { args := args } = true := (pre_splitW hpre).2
  obtain ⟨d, r, rfl, h1, h2⟩ := hasAllW_cons hsh
  obtain rfl := hasAllW_nil h2
  obtain ⟨xs, rfl, h3⟩ := hasW_list h1
  obtain ⟨ns, rfl⟩ := items_int h3
  have hlen : ns.length ≤ n := by
    unfold OpenLaw.pre at hc
    have h4 : (WTm.not (.lt (.lit (.int (n : Int))) (.len (.arg 0)))).holds [] { args := [.list (ns.map .int)] } = true := by
      have h4 := (holds_andW hc).1
      rw [hn] at h4
      exact h4
    have h5 := condW_of h4 (w_not (w_lt w_lit (w_len_list (w_arg rfl))))
    rw [List.length_map] at h5
    refine Nat.le_of_not_lt fun q => ?_
    have q' : (n : Int) < ((ns.length : Nat) : Int) := by omega
    first
      | (rw [decide_eq_true q'] at h5; exact absurd h5 (by decide))
      | (simp at h5; omega)
  cases hwl with
  | cons w1 w2 =>
    cases w2
    cases w1 with
    | list ho hall => exact ⟨_, _, ns, rfl, rfl, ho, ints_of_wellAll ns _ hall, hlen⟩

theorem post_true (l : OpenLaw) (args : List WData) : l.row.toRowW.claim.post args (.bool true) args = true :=
  postW_of (r := l.row.toRowW) (X := (true == true))
    (show WShape.has [] (.bool true) .bool = true by first | rfl | decide | simp [WShape.has, WShape.arms, WShape.armsAll])
    (show (WTm.eq .res (.lit (.bool true))).value [] { args := args, res := some (.bool true), after := args } = some (.bool (true == true)) from w_eq_bool (w_res rfl) w_lit) rfl

/-! ### the attachment: holds_open's last premise (the goal 'hc' behind k_head) from a wpAny of the law's body -/
/-- the same from a codeAny of the CALL (for a layer whose function contracts speak of calls) -/
theorem attach_call {l : OpenLaw} {n : Nat} {q : Program} {loose : List Str} {XP : (Str → Option Value) → Heap → Prop} {YP : World → Heap → Prop} {d : DefRec}
    (hn : l.most = some n) (hdf : d.params.defaults = [])
    (call : ∀ (w : World) (s₀ s₁ : Shared) (mg mb : Str → Option Value) (fa : Addr) (o : Obj) (pm cd doc : Value) (a : Addr) (vs : List Value) (ns : List Int),
      Ground q loose [] XP w s₀ mg mb s₁.heap → YP w s₁.heap →
      s₁.heap.get? fa = some o → o.data = .func (docDef d.name d.params d.body d.scope pm cd doc) → s₁.heap.CodeRec cd d.name → mg d.name = some (.ref fa) →
      s₁.heap.get? a = some { cls := .type "list", data := .seq vs.toArray } → IntsAre vs ns → ns.length ≤ n → s₁.gens = #[] →
      codeAny (model l.prog w) callerA (.call (.ref fa) ⟨[.ref a], []⟩) (fun r s' => r = .ok (.ret (.bool true)) ∧ OldK s₁.heap s'.heap ∧ s'.os = s₁.os ∧ AllBare s'.gens) s₁) :
    WalkO q loose XP YP l.row.toRowW d [] (fun f vs => PySem.call f vs) := by
  intro w s₀ s₁ mg mb G Y fa o pm cd doc dV kV ho hd hcd hD hmg hg args vals as hpre hlay hrd hwl hlo
  obtain rfl : dV = .none := Dflts.none hD hdf
  obtain rfl : kV = .none := Dflts.noKw hD
  obtain ⟨a, vs, ns, rfl, rfl, hobj, hints, hlen⟩ := script_of hn hpre hwl
  refine enter_call (codeAny_mono (call w s₀ s₁ mg mb fa o pm cd doc a vs ns G Y ho (fd_plain hd) hcd hmg hobj hints hlen hg) fun r s' hq => ?_)
  obtain ⟨rfl, h2, h3, h4⟩ := hq
  exact ⟨.inl ⟨.bool true, .bool true, [], rfl, fun _ => rfl, .bool true, post_true l _, fun _ => ⟨List.Pairwise.nil, fun _ hm => (nomatch hm)⟩⟩, h2, h3, h4⟩

/-! ### rules over ANY heap (no ledger) from facts about the written part K: the library's own take a ledger (News) for what they write -/
section
variable {prog : Program} {w : World} {A : Around} {E : Value → Shared → Prop} {s : Shared} {K : Frag}

/-! the whole heap as the ledger: makes every rule that writes through a ledger a rule over any heap -/
def ledger (h : Heap) (L d : Addr) : List (Addr × Obj) := (List.range h.objs.size).filterMap fun a => if a = L ∨ a = d then none else (h.get? a).map fun o => (a, o)
end
end Att

namespace L2
open PySem PySem.Spec PyProof.Rows

theorem vals_ints : ∀ {vs : List Value} {ns : List Int}, IntsAre vs ns → Vals (ns.map V.int) vs
  | _, _, .nil => .nil
  | _, _, .cons n t h => .cons ⟨t, rfl⟩ (vals_ints h)

/-- nothing is tracked but the script, known to the object (or it is an object of the module) -/
def Only (H : Hp) : Prop := ∀ b, H b = none ∨ ∃ o xs, H b = some (.frz o (.lst xs))

/-- THE HEAD: the law's promise, at the heap behind the top. F, the promise of the law's def, may use that base is part of the heap (so K.In base, base.Ns mainGlobals mg stand in Mod) -/
theorem law_call {P : Program} {w : World} {K : PySem.W.Frag} {mg mb : Str → Option Value} {CX : CXT} {k : Nat} {fa a : Addr} {fd : FuncData} {x : Str} {sp : Sp} {s₁ : Shared} {vs : List Value} {ns : List Int}
    (KX : K.In s₁.heap) (hns : s₁.heap.Ns mainGlobals mg) (hb : s₁.heap.Ns builtinsNs mb) (hbb : ∀ x : Str, x ≠ "__name__" → mb x = bootBuiltins x) (hlim : s₁.heap.NoLimit) (hg : s₁.gens = #[])
    (ha : s₁.heap.get? a = some { cls := .type "list", data := .seq vs.toArray }) (hi : IntsAre vs ns) (hl : ns.length ≤ sizeLine) (hr : Room k callerA)
    (F : ∀ base : Heap, K.In base → base.Ns mainGlobals mg → FnOk P w K mg base CX k fa fd [x] sp) (hbind : ∀ (s : Shared) (u : Value), BindsTo s fd ⟨[u], []⟩ [(x, u)])
    (hsp : ∀ H : Hp, Only H → SqL K H a (ns.map V.int) → sp [.ref a] H (fun v _ => v = .bl true) fun _ _ _ => False)
    (hCX : ∀ H e s', CX [] H s₁ (fun _ _ _ => False) e s' → False) :
    codeAny (model P w) callerA (.call (.ref fa) ⟨[.ref a], []⟩) (fun r s' => r = .ok (.ret (.bool true)) ∧ OldK s₁.heap s'.heap ∧ s'.os = s₁.os ∧ AllBare s'.gens) s₁ := by
  have rv := vals_ints hi
  have lenV := hi.length
  -- from an abstract heap in which nothing but the script may be tracked
  have core : ∀ H : Hp, Only H → SqL K H a (ns.map V.int) → HOk P w H s₁.heap → (∀ b, H b ≠ none → b = a) → (H a ≠ none → K.lookup a = none) →
      codeAny (model P w) callerA (.call (.ref fa) ⟨[.ref a], []⟩) (fun r s' => r = .ok (.ret (.bool true)) ∧ OldK s₁.heap s'.heap ∧ s'.os = s₁.os ∧ AllBare s'.gens) s₁ := by
    intro H hO hS hok hA hK
    have base_of : ∀ {b : Addr} {o : Obj}, s₁.heap.get? b = some o → H b = none → (hidT s₁.heap H).get? b = some o := fun e n => hidT_get e n
    have noA : ∀ {b : Addr} {o : Obj} {es : Array DictEntry} {ep : Nat}, s₁.heap.get? b = some o → o.data = .dict es ep → H b = none := fun {b o es ep} e d => by
      cases q : H b with
      | none => rfl
      | some u =>
        have e' : b = a := hA b (by rw [q]; simp)
        subst e'
        rw [ha] at e; cases e
        have d' : Data.seq vs.toArray _ = Data.dict es ep := d
        cases d'
    have nsK : ∀ {b : Addr} {m : Str → Option Value}, s₁.heap.Ns b m → (hidT s₁.heap H).Ns b m := fun {b m} ⟨o, es, ep, e, d, r⟩ => ⟨o, es, ep, base_of e (noA e d), d, r⟩
    have hKb : K.In (hidT s₁.heap H) := fun b o e => base_of (KX b o e) (by
      cases q : H b with
      | none => rfl
      | some u =>
        have e' : b = a := hA b (by rw [q]; simp)
        subst e'
        rw [hK (by rw [q]; simp)] at e; cases e)
    have hM : Mod K mg (hidT s₁.heap H) := ⟨hKb, nsK hns, ⟨mb, nsK hb, hbb⟩, let ⟨mc, h1, h2⟩ := hlim; ⟨mc, nsK h1, h2⟩⟩
    have e0 : Env0 P w K mg (hidT s₁.heap H) callerA [] s₁ H := ⟨rfl, hM, fun b o e => of_hidT e, Nat.le_of_eq (hidT_size _ _), trivial, fun b hb => absurd (show b ∈ ([] : List Addr) from hb) (by simp), hok, .of_eq hg⟩
    refine codeAny_mono ((F _ hKb (nsK hns)).run callerA [] s₁ H ⟨[.ref a], []⟩ [.ref a] [.ref a] _ _ hr e0 (hbind s₁ (.ref a)) (.cons rfl .nil) (hsp H hO hS)) fun r s' h => ?_
    cases r with
    | error e => exact (hCX H e s' h).elim
    | ok fl =>
      cases fl with
      | next => exact False.elim h
      | brk => exact False.elim h
      | cont => exact False.elim h
      | ret u =>
        obtain ⟨v, H', os, bare, un, hok', r', q⟩ := h
        have q' : v = .bl true := q
        subst q'
        obtain rfl : u = Value.bool true := r'
        refine ⟨rfl, OldK.of_keep fun b o e => ?_, os, bare⟩
        cases q : H b with
        | none => exact un.keep b o e q (by intro z; exact absurd (show b ∈ ([] : List Addr) from z) (by simp)) (by simp)
        | some u =>
          rcases hO b with z | ⟨ob, xs, z⟩
          · rw [q] at z; cases z
          · have z2 := un.frzs b ob _ z
            obtain ⟨e1, _⟩ := hok b _ z
            obtain ⟨e2, _⟩ := hok' b _ z2
            rw [e] at e1; cases e1
            exact e2
  cases hk : K.lookup a with
  | some o =>
    -- the script is one of the module's own objects
    have e := KX a o hk
    rw [ha] at e
    cases e
    refine core (fun _ => none) (fun _ => .inl rfl) (.inr ⟨_, vs.toArray, _, hk, rfl, rfl, rfl, by rw [List.size_toArray, lenV]; exact hl, by simpa using rv⟩) (fun b u z => by have z' : (none : Option HO) = some u := z; cases z') (fun b z => absurd rfl z) fun z => absurd rfl z
  | none =>
    refine core (fun b => if b = a then some (.frz { cls := .type "list", data := .seq vs.toArray } (.lst (ns.map V.int))) else none) (fun b => ?_) (.inl (.inr ⟨{ cls := .type "list", data := .seq vs.toArray }, if_pos rfl⟩)) (fun b u z => ?_) (fun b z => ?_) fun _ => hk
    · by_cases hb : b = a
      · exact .inr ⟨_, _, if_pos hb⟩
      · exact .inl (if_neg hb)
    · by_cases hb : b = a
      · have z' := (if_pos hb).symm.trans z
        cases z'
        subst hb
        exact ⟨ha, by rw [List.length_map]; exact hl, vs, _, rv, ha⟩
      · have z' := (if_neg hb).symm.trans z
        cases z'
    · by_cases hb : b = a
      · exact hb
      · exact absurd (if_neg hb) z
end L2

namespace L2
open PySem PySem.Spec PyProof.Rows

/-- the goal that k_head leaves (case hc), from the law's promise. F gives the function object fd (K's own) once, then the promise over every base -/
theorem walk_of {l : PySem.W.OpenLaw} {n k : Nat} {q : Program} {loose : List Str} {XP : (Str → Option Value) → Heap → Prop} {YP : World → Heap → Prop} {d : DefRec} {K : Params → PySem.W.Frag} {CX : World → CXT} {sp : World → Sp} {x : Str}
    (hn : l.most = some n) (hn2 : n ≤ sizeLine) (hdf : d.params.defaults = []) (hr : Room k callerA)
    (hY : ∀ (w : World) (h : Heap), YP w h → (K w.params).In h)
    (F : ∀ (w : World) (mg : Str → Option Value) (fa : Addr) (h : Heap), (K w.params).In h → h.Ns mainGlobals mg → mg d.name = some (.ref fa) →
      ∃ fd : FuncData, (∀ (s : Shared) (u : Value), BindsTo s fd ⟨[u], []⟩ [(x, u)]) ∧
        ∀ base : Heap, (K w.params).In base → base.Ns mainGlobals mg → FnOk l.prog w (K w.params) mg base (CX w) k fa fd [x] (sp w))
    (hsp : ∀ (w : World) (H : Hp) (a : Addr) (ns : List Int), ns.length ≤ n → Only H → SqL (K w.params) H a (ns.map V.int) → sp w [.ref a] H (fun v _ => v = .bl true) fun _ _ _ => False)
    (hCX : ∀ (w : World) (H : Hp) (s : Shared) (e : Value) (s' : Shared), CX w [] H s (fun _ _ _ => False) e s' → False) :
    PySem.W.WalkO q loose XP YP l.row.toRowW d [] (fun f vs => PySem.call f vs) := by
  refine Att.attach_call hn hdf fun w s₀ s₁ mg mb fa o pm cd doc a vs ns G Y ho hd hcd hmg hobj hints hlen hg => ?_
  have KX := hY w _ Y
  obtain ⟨fd, hb, hF⟩ := F w mg fa _ KX G.T.g hmg
  exact law_call KX G.T.g G.T.b G.T.builtins G.T.nolimit hg hobj hints (Nat.le_trans hlen hn2) hr hF hb (fun H hO hS => hsp w H a ns hlen hO hS) fun H e s' => hCX w H s₁ e s'
end L2

/-! SHORT WORDS over the layer: a def of the text, its body, what a loop and a test want. -/
namespace L2
open PySem PySem.Spec PyProof.Rows

/-! ### the text by places -/
def defArgs (s : Stmt) : Arguments := match s with
  | .FunctionDef _ a _ _ _ _ _ _ _ _ => a
  | _ => { posonlyargs := [], args := [], vararg := none, kwonlyargs := [], kw_defaults := [], kwarg := none, defaults := [] }
def defBody (s : Stmt) : List Stmt := match s with
  | .FunctionDef _ _ b _ _ _ _ _ _ _ => b
  | _ => []
def defScope (s : Stmt) : Scope := match s with
  | .FunctionDef _ _ _ _ _ _ sc _ _ _ => sc
  | _ => { kind := .function, names := [], isGenerator := false, isCoroutine := false }

/-! ### no exception leaves a def -/
abbrev CX0 : CXT := fun _ _ _ _ _ _ => False
abbrev E0 : XK := fun _ _ _ => False
theorem pass0 {X : Cx} : Passes CX0 X E0 := fun _ _ _ _ _ _ _ h => h.elim

/-! ### a def (or method) of the text as it stands behind the top -/
structure Fun (K : PySem.W.Frag) (x qual : Str) (st : Stmt) (f : Addr) (fd : FuncData) : Prop where
  ex : ∃ (oc : Value) (od : Option Addr) (kV doc pm : Value) (an : Option Addr) (cdv ct : Value) (osl : Array (Option Value)),
    fd = PySem.W.fnOf x qual (defArgs st) (defBody st) (defScope st) .none kV doc pm an cdv ct ∧ K.lookup f = some ⟨oc, od, .func fd, osl⟩ ∧ PySem.W.codeIn K cdv qual = true
  kp : PySem.W.keepIn K (.ref f) = true
section
variable {P : Program} {w : World} {K : PySem.W.Frag} {mg : Str → Option Value} {base : Heap}
/-- THE RULE for a def: its body as a term of rules, and the reading of that term -/
theorem Fun.ok {x qual : Str} {st : Stmt} {f : Addr} {fd : FuncData} {N ps : List Str} {k : Nat} {sp : Sp} (F : Fun K x qual st f fd) (S : FnScope N ps (defScope st)) (len : ∀ vs H Q E, sp vs H Q E → vs.length = ps.length)
    (hbody : ∀ (cdv : Value) (A : Around) (outer : List Env) (s : Shared) (H : Hp) (vs : List V) (Q : VK) (E : XK), Room k (A.deeper (envOfC qual (defScope st) s.heap.objs.size f cdv)) → sp vs H Q E →
      ∃ t, PSs (cxOf CX0 P w K mg base N qual (defScope st) f cdv A outer s H E).nox (defBody st) t ∧ t { nx := fun _ H' => Q .non H', rt := Q } (start N vs) H) : FnOk P w K mg base CX0 (k + 1) f fd ps sp := by
  obtain ⟨oc, od, kV, doc, pm, an, cdv, ct, osl, rfl, lk, hcd⟩ := F.ex
  refine fn_of lk hcd S len fun A outer s H vs Q E hr hsp => ?_
  obtain ⟨t, h, q⟩ := hbody cdv A outer s H vs Q E hr hsp
  exact ⟨t, h.nox, q⟩
/-- how its arguments bind (no defaults): h is «fun _ _ _ _ _ _ us hl => match us, hl with | [_, _], _ => rfl», one _ a parameter -/
theorem Fun.binds {x qual : Str} {st : Stmt} {f : Addr} {fd : FuncData} {ps : List Str} (F : Fun K x qual st f fd)
    (h : ∀ (kV doc pm : Value) (an : Option Addr) (cdv ct : Value) (us : List Value), us.length = ps.length → bindArgs (PySem.W.fnOf x qual (defArgs st) (defBody st) (defScope st) .none kV doc pm an cdv ct) ⟨us, []⟩ = pure (ps.zip us)) : Binds K fd ps [] := by
  obtain ⟨oc, od, kV, doc, pm, an, cdv, ct, osl, rfl, lk, hcd⟩ := F.ex
  exact .all (h kV doc pm an cdv ct)
theorem fun_mk {x qual : Str} {st : Stmt} {f : Addr} {oc : Value} {od an : Option Addr} {osl : Array (Option Value)} {kV doc pm cdv ct : Value} (l : K.lookup f = some ⟨oc, od, .func (PySem.W.fnOf x qual (defArgs st) (defBody st) (defScope st) .none kV doc pm an cdv ct), osl⟩)
    (c : PySem.W.codeIn K cdv qual = true) (k : PySem.W.keepIn K (.ref f) = true) : Fun K x qual st f (PySem.W.fnOf x qual (defArgs st) (defBody st) (defScope st) .none kV doc pm an cdv ct) := ⟨⟨oc, od, kV, doc, pm, an, cdv, ct, osl, rfl, l, c⟩, k⟩
end
theorem small1000 {n : Nat} (h : n ≤ 1000) : n < sizeLine := Nat.lt_of_le_of_lt h (by decide)

/-! ### expressions in short: the name that stands in the i-th slot -/
section
variable {X : Cx}
end

/-! ### tests -/
theorem iteF {A B : Prop} (h : B) : if false = true then A else B := by
  rw [if_neg Bool.false_ne_true]
  exact h
theorem iteT {A B : Prop} (h : A) : if true = true then A else B := by
  rw [if_pos rfl]
  exact h
/-! ### heaps -/
/-- all that was tracked is as it was -/
def Same (H H' : Hp) : Prop := ∀ b o, H b = some o → H' b = some o
theorem Same.refl (H : Hp) : Same H H := fun _ _ h => h
theorem Same.trans {H H1 H2 : Hp} (a : Same H H1) (b : Same H1 H2) : Same H H2 := fun c o h => b c o (a c o h)
theorem Same.free {H H' : Hp} (e : Same H H') {l : Addr} (h : H' l = Option.none) : H l = Option.none := by
  cases q : H l with
  | none => rfl
  | some o =>
    rw [e l o q] at h
    cases h
theorem Same.seq {K : PySem.W.Frag} {H H' : Hp} {a : Addr} {xs : List V} (e : Same H H') (h : SqL K H a xs) : SqL K H' a xs := by
  rcases h with (h | ⟨o, h⟩) | h
  · exact .inl (.inl (e _ _ h))
  · exact .inl (.inr ⟨o, e _ _ h⟩)
  · exact .inr h

end L2

namespace L3
open PySem PySem.Spec PyProof.Rows L2

/-- data -/
inductive D where
  | non | bl (b : Bool) | int (i : Int) | str (x : Str)
  | tup (ds : List D) | lst (ds : List D) | ins (c : Str) (fs : List (Str × D))
  /-- a thing of which nothing is known -/
  | any
/-- data of which some lists (and instances) are one's own -/
inductive T where
  | sh (d : D) | tup (ts : List T) | lst (ts : List T) | ins (c : Str) (fs : List (Str × T))
  /-- known to stand at x -/
  | pin (x : Addr) (t : T)

mutual
def T.frz : T → D
  | .sh d => d
  | .tup ts => .tup (frzs ts)
  | .lst ts => .lst (frzs ts)
  | .ins c fs => .ins c (frzf fs)
  | .pin _ t => t.frz
def T.frzs : List T → List D
  | [] => []
  | t :: ts => t.frz :: T.frzs ts
def T.frzf : List (Str × T) → List (Str × D)
  | [] => []
  | (x, t) :: fs => (x, t.frz) :: T.frzf fs
end

variable (K : PySem.W.Frag) (CL : Str → Addr)

mutual
/-- d stands at v, in the frozen heap Z -/
inductive RepF (Z : Hp) : D → V → Prop where
  | non : RepF Z .non .non
  | bl (b : Bool) : RepF Z (.bl b) (.bl b)
  | int (i : Int) : RepF Z (.int i) (.int i)
  | str (x : Str) : RepF Z (.str x) (.str x)
  | any (v : V) : RepF Z .any v
  | tup {a : Addr} {vs : List V} {ds : List D} : SqT K Z a vs → RepFs Z ds vs → RepF Z (.tup ds) (.ref a)
  | lst {a : Addr} {vs : List V} {ds : List D} : SqL K Z a vs → RepFs Z ds vs → RepF Z (.lst ds) (.ref a)
  | ins {a dx : Addr} {c : Str} {gs : List (Str × V)} {fs : List (Str × D)} : Z a = some (.ins (CL c) dx gs) → RepFf Z fs gs → RepF Z (.ins c fs) (.ref a)
inductive RepFs (Z : Hp) : List D → List V → Prop where
  | nil : RepFs Z [] []
  | cons {d : D} {v : V} {ds : List D} {vs : List V} : RepF Z d v → RepFs Z ds vs → RepFs Z (d :: ds) (v :: vs)
inductive RepFf (Z : Hp) : List (Str × D) → List (Str × V) → Prop where
  | nil : RepFf Z [] []
  | cons {x : Str} {d : D} {v : V} {ds : List (Str × D)} {vs : List (Str × V)} : RepF Z d v → RepFf Z ds vs → RepFf Z ((x, d) :: ds) ((x, v) :: vs)
end
mutual
/-- t stands at v: frozen parts in Z, own parts in H at the addresses of the third -/
inductive RepT (H Z : Hp) : T → V → List Addr → Prop where
  | sh {d : D} {v : V} : RepF K CL Z d v → RepT H Z (.sh d) v []
  | tup {a : Addr} {vs : List V} {ts : List T} {fp : List Addr} : Z a = some (.tup vs) → RepTs H Z ts vs fp → RepT H Z (.tup ts) (.ref a) fp
  | lst {a : Addr} {vs : List V} {ts : List T} {fp : List Addr} : H a = some (.lst vs) → RepTs H Z ts vs fp → RepT H Z (.lst ts) (.ref a) (a :: fp)
  | ins {a dx : Addr} {c : Str} {gs : List (Str × V)} {fs : List (Str × T)} {fp : List Addr} : H a = some (.ins (CL c) dx gs) → RepTf H Z fs gs fp → RepT H Z (.ins c fs) (.ref a) (a :: fp)
  | pin {x : Addr} {t : T} {fp : List Addr} : RepT H Z t (.ref x) fp → RepT H Z (.pin x t) (.ref x) fp
inductive RepTs (H Z : Hp) : List T → List V → List Addr → Prop where
  | nil : RepTs H Z [] [] []
  | cons {t : T} {v : V} {ts : List T} {vs : List V} {fp gp : List Addr} : RepT H Z t v fp → RepTs H Z ts vs gp → RepTs H Z (t :: ts) (v :: vs) (fp ++ gp)
inductive RepTf (H Z : Hp) : List (Str × T) → List (Str × V) → List Addr → Prop where
  | nil : RepTf H Z [] [] []
  | cons {x : Str} {t : T} {v : V} {ts : List (Str × T)} {vs : List (Str × V)} {fp gp : List Addr} : RepT H Z t v fp → RepTf H Z ts vs gp → RepTf H Z ((x, t) :: ts) ((x, v) :: vs) (fp ++ gp)
end
/-- the frame's names -/
inductive RepE (H Z : Hp) : List (Option T) → L2.St → List Addr → Prop where
  | nil : RepE H Z [] [] []
  | skip {o : Option V} {δ : List (Option T)} {σ : L2.St} {fp : List Addr} : RepE H Z δ σ fp → RepE H Z (none :: δ) (o :: σ) fp
  | cons {t : T} {v : V} {δ : List (Option T)} {σ : L2.St} {fp gp : List Addr} : RepT K CL H Z t v fp → RepE H Z δ σ gp → RepE H Z (some t :: δ) (some v :: σ) (fp ++ gp)

section
variable {K : PySem.W.Frag} {CL : Str → Addr}

theorem Same.sqT {H H' : Hp} {a : Addr} {xs : List V} (e : Same H H') (h : SqT K H a xs) : SqT K H' a xs := by
  rcases h with (h | ⟨o, h⟩) | h
  · exact .inl (.inl (e _ _ h))
  · exact .inl (.inr ⟨o, e _ _ h⟩)
  · exact .inr h

mutual
theorem RepF.mono {Z Z' : Hp} (e : Same Z Z') : ∀ {d : D} {v : V}, RepF K CL Z d v → RepF K CL Z' d v
  | _, _, .non => .non
  | _, _, .bl b => .bl b
  | _, _, .int b => .int b
  | _, _, .str b => .str b
  | _, _, .any b => .any b
  | _, _, .tup h r => .tup (Same.sqT e h) (RepFs.mono e r)
  | _, _, .lst h r => .lst (e.seq h) (RepFs.mono e r)
  | _, _, .ins h r => .ins (e _ _ h) (RepFf.mono e r)
theorem RepFs.mono {Z Z' : Hp} (e : Same Z Z') : ∀ {d : List D} {v : List V}, RepFs K CL Z d v → RepFs K CL Z' d v
  | _, _, .nil => .nil
  | _, _, .cons h r => .cons (RepF.mono e h) (RepFs.mono e r)
theorem RepFf.mono {Z Z' : Hp} (e : Same Z Z') : ∀ {d : List (Str × D)} {v : List (Str × V)}, RepFf K CL Z d v → RepFf K CL Z' d v
  | _, _, .nil => .nil
  | _, _, .cons h r => .cons (RepF.mono e h) (RepFf.mono e r)
end
mutual
/-- H may change but at the own parts -/
theorem RepT.mono {H H' Z Z' : Hp} (e : Same Z Z') : ∀ {t : T} {v : V} {fp : List Addr}, (∀ a ∈ fp, H' a = H a) → RepT K CL H Z t v fp → RepT K CL H' Z' t v fp
  | _, _, _, _, .sh h => .sh (h.mono e)
  | _, _, _, k, .tup h r => .tup (e _ _ h) (RepTs.mono e k r)
  | _, _, _, k, .lst h r => .lst (by rw [k _ List.mem_cons_self]; exact h) (RepTs.mono e (fun a ha => k a (List.mem_cons_of_mem _ ha)) r)
  | _, _, _, k, .ins h r => .ins (by rw [k _ List.mem_cons_self]; exact h) (RepTf.mono e (fun a ha => k a (List.mem_cons_of_mem _ ha)) r)
  | _, _, _, k, .pin r => .pin (RepT.mono e k r)
theorem RepTs.mono {H H' Z Z' : Hp} (e : Same Z Z') : ∀ {t : List T} {v : List V} {fp : List Addr}, (∀ a ∈ fp, H' a = H a) → RepTs K CL H Z t v fp → RepTs K CL H' Z' t v fp
  | _, _, _, _, .nil => .nil
  | _, _, _, k, .cons h r => .cons (RepT.mono e (fun a ha => k a (List.mem_append_left _ ha)) h) (RepTs.mono e (fun a ha => k a (List.mem_append_right _ ha)) r)
theorem RepTf.mono {H H' Z Z' : Hp} (e : Same Z Z') : ∀ {t : List (Str × T)} {v : List (Str × V)} {fp : List Addr}, (∀ a ∈ fp, H' a = H a) → RepTf K CL H Z t v fp → RepTf K CL H' Z' t v fp
  | _, _, _, _, .nil => .nil
  | _, _, _, k, .cons h r => .cons (RepT.mono e (fun a ha => k a (List.mem_append_left _ ha)) h) (RepTf.mono e (fun a ha => k a (List.mem_append_right _ ha)) r)
end
mutual
/-- own parts stand in H -/
theorem RepT.there {H Z : Hp} : ∀ {t : T} {v : V} {fp : List Addr}, RepT K CL H Z t v fp → ∀ a ∈ fp, ∃ o, H a = some o
  | _, _, _, .sh h => fun a ha => by cases ha
  | _, _, _, .tup h r => RepTs.there r
  | _, _, _, .lst h r => fun a ha => by
    rcases List.mem_cons.mp ha with rfl | ha
    · exact ⟨_, h⟩
    · exact RepTs.there r a ha
  | _, _, _, .ins h r => fun a ha => by
    rcases List.mem_cons.mp ha with rfl | ha
    · exact ⟨_, h⟩
    · exact RepTf.there r a ha
  | _, _, _, .pin r => RepT.there r
theorem RepTs.there {H Z : Hp} : ∀ {t : List T} {v : List V} {fp : List Addr}, RepTs K CL H Z t v fp → ∀ a ∈ fp, ∃ o, H a = some o
  | _, _, _, .nil => fun a ha => by cases ha
  | _, _, _, .cons h r => fun a ha => (List.mem_append.mp ha).elim (RepT.there h a) (RepTs.there r a)
theorem RepTf.there {H Z : Hp} : ∀ {t : List (Str × T)} {v : List (Str × V)} {fp : List Addr}, RepTf K CL H Z t v fp → ∀ a ∈ fp, ∃ o, H a = some o
  | _, _, _, .nil => fun a ha => by cases ha
  | _, _, _, .cons h r => fun a ha => (List.mem_append.mp ha).elim (RepT.there h a) (RepTf.there r a)
end
mutual
/-- frozen: Z' has Z and the own parts -/
theorem RepT.frz {H Z Z' : Hp} (e : Same Z Z') : ∀ {t : T} {v : V} {fp : List Addr}, (∀ a ∈ fp, Z' a = H a) → RepT K CL H Z t v fp → RepF K CL Z' t.frz v
  | _, _, _, _, .sh h => by rw [T.frz]; exact h.mono e
  | _, _, _, k, .tup h r => by rw [T.frz]; exact .tup (SqT.of (e _ _ h)) (RepTs.frz e k r)
  | _, _, _, k, .lst h r => by rw [T.frz]; exact .lst (SqL.of (by rw [k _ List.mem_cons_self]; exact h)) (RepTs.frz e (fun a ha => k a (List.mem_cons_of_mem _ ha)) r)
  | _, _, _, k, .ins h r => by rw [T.frz]; exact .ins (by rw [k _ List.mem_cons_self]; exact h) (RepTf.frz e (fun a ha => k a (List.mem_cons_of_mem _ ha)) r)
  | _, _, _, k, .pin r => by rw [T.frz]; exact RepT.frz e k r
theorem RepTs.frz {H Z Z' : Hp} (e : Same Z Z') : ∀ {t : List T} {v : List V} {fp : List Addr}, (∀ a ∈ fp, Z' a = H a) → RepTs K CL H Z t v fp → RepFs K CL Z' (T.frzs t) v
  | _, _, _, _, .nil => by rw [T.frzs]; exact .nil
  | _, _, _, k, .cons h r => by rw [T.frzs]; exact .cons (RepT.frz e (fun a ha => k a (List.mem_append_left _ ha)) h) (RepTs.frz e (fun a ha => k a (List.mem_append_right _ ha)) r)
theorem RepTf.frz {H Z Z' : Hp} (e : Same Z Z') : ∀ {t : List (Str × T)} {v : List (Str × V)} {fp : List Addr}, (∀ a ∈ fp, Z' a = H a) → RepTf K CL H Z t v fp → RepFf K CL Z' (T.frzf t) v
  | _, _, _, _, .nil => by rw [T.frzf]; exact .nil
  | _, _, _, k, .cons h r => by rw [T.frzf]; exact .cons (RepT.frz e (fun a ha => k a (List.mem_append_left _ ha)) h) (RepTf.frz e (fun a ha => k a (List.mem_append_right _ ha)) r)
end
theorem RepFs.length {Z : Hp} : ∀ {d : List D} {v : List V}, RepFs K CL Z d v → d.length = v.length
  | _, _, .nil => rfl
  | _, _, .cons _ r => by rw [List.length_cons, List.length_cons, RepFs.length r]
theorem RepTs.length {H Z : Hp} : ∀ {d : List T} {v : List V} {fp : List Addr}, RepTs K CL H Z d v fp → d.length = v.length
  | _, _, _, .nil => rfl
  | _, _, _, .cons _ r => by rw [List.length_cons, List.length_cons, RepTs.length r]
theorem RepE.length {H Z : Hp} : ∀ {d : List (Option T)} {v : L2.St} {fp : List Addr}, RepE K CL H Z d v fp → d.length = v.length
  | _, _, _, .nil => rfl
  | _, _, _, .skip r => by rw [List.length_cons, List.length_cons, RepE.length r]
  | _, _, _, .cons _ r => by rw [List.length_cons, List.length_cons, RepE.length r]
theorem RepFs.get {Z : Hp} : ∀ {ds : List D} {vs : List V} {i : Nat} {d : D}, RepFs K CL Z ds vs → ds[i]? = some d → ∃ v, vs[i]? = some v ∧ RepF K CL Z d v
  | _, _, _, _, .nil, e => by simp at e
  | _, _, 0, _, .cons r _, e => by simp at e; subst e; exact ⟨_, rfl, r⟩
  | _, _, i + 1, d, .cons _ t, e => by
    obtain ⟨u, h1, h2⟩ := RepFs.get (i := i) (d := d) t (by simpa using e)
    exact ⟨u, by simpa using h1, h2⟩
theorem RepFs.geti {Z : Hp} : ∀ {ds : List D} {vs : List V} {i : Nat} {v : V}, RepFs K CL Z ds vs → vs[i]? = some v → ∃ d, ds[i]? = some d ∧ RepF K CL Z d v
  | _, _, _, _, .nil, e => by simp at e
  | _, _, 0, _, .cons r _, e => by simp at e; subst e; exact ⟨_, rfl, r⟩
  | _, _, i + 1, d, .cons _ t, e => by
    obtain ⟨u, h1, h2⟩ := RepFs.geti (i := i) (v := d) t (by simpa using e)
    exact ⟨u, by simpa using h1, h2⟩
theorem RepTs.get {H Z : Hp} : ∀ {ds : List T} {vs : List V} {fp : List Addr} {i : Nat} {d : T}, RepTs K CL H Z ds vs fp → ds[i]? = some d → ∃ v gp, vs[i]? = some v ∧ RepT K CL H Z d v gp ∧ gp.Sublist fp
  | _, _, _, _, _, .nil, e => by simp at e
  | _, _, _, 0, _, .cons r _, e => by simp at e; subst e; exact ⟨_, _, rfl, r, List.sublist_append_left _ _⟩
  | _, _, _, i + 1, d, .cons _ t, e => by
    obtain ⟨u, gp, h1, h2, h3⟩ := RepTs.get (i := i) (d := d) t (by simpa using e)
    exact ⟨u, gp, by simpa using h1, h2, h3.trans (List.sublist_append_right _ _)⟩
/-- the tree at a name, and all else -/
theorem RepE.get {H Z : Hp} : ∀ {δ : List (Option T)} {σ : L2.St} {fp : List Addr} {i : Nat} {t : T}, RepE K CL H Z δ σ fp → δ[i]? = some (some t) →
    ∃ v f1 f2 f3, σ[i]? = some (some v) ∧ fp = f1 ++ (f2 ++ f3) ∧ RepT K CL H Z t v f2 ∧
      (∀ {H' Z' : Hp} {t' : T} {v' : V} {g : List Addr}, Same Z Z' → (∀ a ∈ f1 ++ f3, H' a = H a) → RepT K CL H' Z' t' v' g → RepE K CL H' Z' (δ.set i (some t')) (σ.set i (some v')) (f1 ++ (g ++ f3))) ∧
      (∀ {o : Option V}, RepE K CL H Z (δ.set i none) (σ.set i o) (f1 ++ f3)) := by
  intro δ σ fp i t h
  have mono : ∀ {H H' Z Z' : Hp} {δ : List (Option T)} {σ : L2.St} {fp : List Addr}, Same Z Z' → (∀ a ∈ fp, H' a = H a) → RepE K CL H Z δ σ fp → RepE K CL H' Z' δ σ fp := by
    intro H H' Z Z' δ σ fp e k r
    induction r with
    | nil => exact .nil
    | skip _ ih => exact .skip (ih k)
    | cons r _ ih => exact .cons (r.mono e fun a ha => k a (List.mem_append_left _ ha)) (ih fun a ha => k a (List.mem_append_right _ ha))
  induction h generalizing i with
  | nil => intro e; simp at e
  | @skip o δ σ fp r ih =>
    cases i with
    | zero => intro e; simp at e
    | succ i =>
      intro e
      obtain ⟨v, f1, f2, f3, h1, h2, h3, h4, h5⟩ := ih (i := i) (by simpa using e)
      exact ⟨v, f1, f2, f3, by simpa using h1, h2, h3, fun e k q => .skip (h4 e k q), .skip h5⟩
  | @cons t0 v0 δ σ fp gp r0 r ih =>
    cases i with
    | zero =>
      intro e
      simp at e
      subst e
      refine ⟨v0, [], fp, gp, rfl, rfl, r0, fun {H' Z' t' v' g} e k q => RepE.cons (fp := g) (gp := gp) q (mono (fp := gp) e (fun a ha => k a (by simpa using ha)) r), .skip (by simpa using r)⟩
    | succ i =>
      intro e
      obtain ⟨v, f1, f2, f3, h1, h2, h3, h4, h5⟩ := ih (i := i) (by simpa using e)
      refine ⟨v, fp ++ f1, f2, f3, by simpa using h1, by rw [h2, List.append_assoc], h3, fun {H' Z' t' v' g} e k q => ?_, fun {o} => ?_⟩
      · rw [List.append_assoc]
        exact .cons (r0.mono e fun a ha => k a (by simp [ha])) (h4 e (fun a ha => k a (by rw [List.append_assoc]; exact List.mem_append_right _ ha)) q)
      · rw [List.append_assoc]
        exact .cons r0 h5
theorem RepE.mono {H H' Z Z' : Hp} {δ : List (Option T)} {σ : L2.St} {fp : List Addr} (e : Same Z Z') (k : ∀ a ∈ fp, H' a = H a) (r : RepE K CL H Z δ σ fp) : RepE K CL H' Z' δ σ fp := by
  induction r with
  | nil => exact .nil
  | skip _ ih => exact .skip (ih k)
  | cons r _ ih => exact .cons (r.mono e fun a ha => k a (List.mem_append_left _ ha)) (ih fun a ha => k a (List.mem_append_right _ ha))
theorem RepE.there {H Z : Hp} {δ : List (Option T)} {σ : L2.St} {fp : List Addr} (r : RepE K CL H Z δ σ fp) : ∀ a ∈ fp, ∃ o, H a = some o := by
  induction r with
  | nil => intro a ha; cases ha
  | skip _ ih => exact ih
  | cons r _ ih => exact fun a ha => (List.mem_append.mp ha).elim (r.there a) (ih a)
/-- a name stored -/
theorem RepE.put {H Z : Hp} {δ : List (Option T)} {σ : L2.St} {fp : List Addr} (r : RepE K CL H Z δ σ fp) {t : T} {v : V} {g : List Addr} (q : RepT K CL H Z t v g) :
    ∀ {i : Nat}, i < δ.length → ∃ f, RepE K CL H Z (δ.set i (some t)) (σ.set i (some v)) f ∧ ∃ f', f'.Sublist fp ∧ f.Perm (g ++ f') := by
  induction r with
  | nil => intro i hi; simp at hi
  | @skip o δ σ fp r ih =>
    intro i hi
    cases i with
    | zero => exact ⟨g ++ fp, .cons q r, fp, List.Sublist.refl _, List.Perm.refl _⟩
    | succ i =>
      obtain ⟨f, h1, f', h2, h3⟩ := ih (i := i) (by simpa using hi)
      exact ⟨f, .skip h1, f', h2, h3⟩
  | @cons t0 v0 δ σ fp gp r0 r ih =>
    intro i hi
    cases i with
    | zero => exact ⟨g ++ gp, .cons q r, gp, List.sublist_append_right _ _, List.Perm.refl _⟩
    | succ i =>
      obtain ⟨f, h1, f', h2, h3⟩ := ih (i := i) (by simpa using hi)
      refine ⟨fp ++ f, .cons r0 h1, fp ++ f', List.Sublist.append (List.Sublist.refl _) h2, ?_⟩
      refine (List.Perm.append_left fp h3).trans ?_
      rw [← List.append_assoc, ← List.append_assoc]
      exact List.Perm.append_right f' List.perm_append_comm
end
end L3

namespace L3
open PySem PySem.Spec PyProof.Rows L2

/-! ### semantic readings -/
def semE (X : Cx) (e : Expr) : TE := fun σ H Q => ∀ (pins : List (Addr × Obj)) (s : Shared), Inv X pins σ H s → wpAny (model X.prog X.w) X.A (eval e X.env) (EP X pins σ Q) X.xe s
def semT (X : Cx) (e : Expr) : TT := fun σ H Q => ∀ (pins : List (Addr × Obj)) (s : Shared), Inv X pins σ H s → wpAny (model X.prog X.w) X.A (isTrue e X.env (eval e X.env)) (TP X pins σ Q) X.xe s
def semA (X : Cx) (es : List Expr) : TA := fun σ H Q => ∀ (pos : Pos) (pins : List (Addr × Obj)) (s : Shared), Inv X pins σ H s → wpAny (model X.prog X.w) X.A (spliced (backTo pos (starEach es X.env))) (AP X pins σ Q) X.xe s
def semS (X : Cx) (st : Stmt) : TS := fun D σ H => ∀ (pins : List (Addr × Obj)) (s : Shared), Inv X pins σ H s → wpAny (model X.prog X.w) X.A (exec st X.env) (SP X pins D) X.xe s
def semB (X : Cx) (st : List Stmt) : TS := fun D σ H => ∀ (pins : List (Addr × Obj)) (s : Shared), Inv X pins σ H s → wpAny (model X.prog X.w) X.A (execs st X.env) (SP X pins D) X.xe s
section
variable {X : Cx}
theorem peS {e : Expr} : PE X e (semE X e) := fun pins s _ _ _ I h => h pins s I
theorem ptS {e : Expr} : PT X e (semT X e) := fun pins s _ _ _ I h => h pins s I
theorem paS {e : List Expr} : PA X e (semA X e) := fun pos pins s _ _ _ I h => h pos pins s I
theorem psS {e : Stmt} : PS X e (semS X e) := fun pins s _ _ _ I h => h pins s I
theorem pbS {e : List Stmt} : PSs X e (semB X e) := fun pins s _ _ _ I h => h pins s I
theorem ofPE {e : Expr} {t : TE} (h : PE X e t) {σ : L2.St} {H : Hp} {Q : VK} (q : t σ H Q) : semE X e σ H Q := fun pins s I => h pins s σ H Q I q
theorem ofPT {e : Expr} {t : TT} (h : PT X e t) {σ : L2.St} {H : Hp} {Q : Bool → Hp → Prop} (q : t σ H Q) : semT X e σ H Q := fun pins s I => h pins s σ H Q I q
theorem ofPA {e : List Expr} {t : TA} (h : PA X e t) {σ : L2.St} {H : Hp} {Q : List V → Hp → Prop} (q : t σ H Q) : semA X e σ H Q := fun pos pins s I => h pos pins s σ H Q I q
theorem ofPS {e : Stmt} {t : TS} (h : PS X e t) {σ : L2.St} {H : Hp} {D : Ends} (q : t D σ H) : semS X e D σ H := fun pins s I => h pins s σ H D I q
theorem ofPB {e : List Stmt} {t : TS} (h : PSs X e t) {σ : L2.St} {H : Hp} {D : Ends} (q : t D σ H) : semB X e D σ H := fun pins s I => h pins s σ H D I q
end

def notStar : Expr → Bool
  | .Starred _ _ => false
  | _ => true
theorem starOk {e : Expr} {es : List Expr} {env : Env} (h : notStar e = true) : starEach (e :: es) env = (false, eval e env) :: starEach es env := by
  cases e <;> first | rfl | (cases h)
/-! ### the state of a body -/
/-- the heap, and the frozen heap, at the body's entry -/
structure Bx where
  B : Hp
  Z : Hp
def immO : HO → Bool
  | .tup _ => true
  | .frz _ _ => true
  | _ => false
structure Stt (K : PySem.W.Frag) (CL : Str → Addr) (b : Bx) (H Z : Hp) (δ : List (Option T)) (σ : L2.St) (ts : List T) (vs : List V) : Prop where
  rep : ∃ fp gp, RepE K CL H Z δ σ fp ∧ RepTs K CL H Z ts vs gp ∧ (fp ++ gp).Nodup ∧ ∀ a ∈ fp ++ gp, Z a = none ∧ b.B a = none
  bh : Same b.B H
  zz : Same b.Z Z
  zh : Same Z H
  new : ∀ a o, Z a = some o → b.Z a = none → b.B a = none
  tp : ∀ a o, H a = some o → immO o = true → Z a = some o

section
variable {K : PySem.W.Frag} {CL : Str → Addr} {b : Bx} {H H' Z Z' : Hp} {δ δ' : List (Option T)} {σ σ' : L2.St} {ts ts' : List T} {vs vs' : List V} {t : T} {v : V}

theorem Same.upd {H : Hp} {p : Addr} {o : HO} (h : H p = none) : Same H (upd H p o) := fun b u e => by rw [upd_ne (ne_of_none e h)]; exact e
/-- the whole as it is seen: d stands at v in the heap at hand -/
theorem Stt.view (S : Stt K CL b H Z δ σ (t :: ts) (v :: vs)) : RepF K CL H t.frz v := by
  obtain ⟨fp, gp, _, r, _, _⟩ := S.rep
  cases r with
  | cons r _ => exact r.frz S.zh fun _ _ => rfl
theorem Stt.pop (S : Stt K CL b H Z δ σ (t :: ts) (v :: vs)) : Stt K CL b H Z δ σ ts vs := by
  obtain ⟨fp, gp, e, r, nd, k⟩ := S.rep
  cases r with
  | @cons _ _ _ _ f1 f2 r1 r2 =>
    refine ⟨⟨fp, f2, e, r2, nd.sublist (List.Sublist.append (List.Sublist.refl _) (List.sublist_append_right _ _)), fun a ha => k a ?_⟩, S.bh, S.zz, S.zh, S.new, S.tp⟩
    rcases List.mem_append.mp ha with h | h
    · exact List.mem_append_left _ h
    · exact List.mem_append_right _ (List.mem_append_right _ h)
/-- data that no one may change is pushed -/
theorem Stt.push {d : D} (S : Stt K CL b H Z δ σ ts vs) (r : RepF K CL Z d v) : Stt K CL b H Z δ σ (.sh d :: ts) (v :: vs) := by
  obtain ⟨fp, gp, e, r2, nd, k⟩ := S.rep
  exact ⟨⟨fp, [] ++ gp, e, .cons (.sh r) r2, nd, k⟩, S.bh, S.zz, S.zh, S.new, S.tp⟩
/-- the top of the stack is frozen -/
theorem Stt.frzTop (S : Stt K CL b H Z δ σ (t :: ts) (v :: vs)) : ∃ Z', Same Z Z' ∧ Stt K CL b H Z' δ σ (.sh t.frz :: ts) (v :: vs) := by
  classical
  obtain ⟨fp, gp, e, r, nd, k⟩ := S.rep
  cases r with
  | @cons _ _ _ _ f1 f2 r1 r2 =>
    have nZ : ∀ a ∈ f1, Z a = none ∧ b.B a = none := fun a ha => k a (List.mem_append_right _ (List.mem_append_left _ ha))
    have sz : Same Z (fun a => if a ∈ f1 then H a else Z a) := fun a o q => by
      by_cases ha : a ∈ f1
      · rw [(nZ a ha).1] at q; cases q
      · show (if a ∈ f1 then H a else Z a) = some o
        rw [if_neg ha]; exact q
    have nd1 := List.nodup_append.mp nd
    have dj : ∀ a ∈ fp ++ f2, a ∉ f1 := fun a ha h1 => by
      rcases List.mem_append.mp ha with h | h
      · exact nd1.2.2 a h a (List.mem_append_left _ h1) rfl
      · exact (List.nodup_append.mp nd1.2.1).2.2 a h1 a h rfl
    refine ⟨fun a => if a ∈ f1 then H a else Z a, sz, ⟨⟨fp, [] ++ f2, e.mono sz (fun _ _ => rfl), .cons (.sh (r1.frz sz fun a ha => if_pos ha)) (r2.mono sz fun _ _ => rfl), ?_, fun a ha => ?_⟩, S.bh, S.zz.trans sz, fun a o q => ?_, fun a o q z => ?_, fun a o q i => ?_⟩⟩
    · exact nd.sublist (List.Sublist.append (List.Sublist.refl _) (List.sublist_append_right _ _))
    · have ha' : a ∈ fp ++ f2 := ha
      refine ⟨?_, (k a ?_).2⟩
      · show (if a ∈ f1 then H a else Z a) = none
        rw [if_neg (dj a ha')]
        refine (k a ?_).1
        rcases List.mem_append.mp ha' with h | h
        · exact List.mem_append_left _ h
        · exact List.mem_append_right _ (List.mem_append_right _ h)
      · rcases List.mem_append.mp ha' with h | h
        · exact List.mem_append_left _ h
        · exact List.mem_append_right _ (List.mem_append_right _ h)
    · have q' : (if a ∈ f1 then H a else Z a) = some o := q
      by_cases ha : a ∈ f1
      · rw [if_pos ha] at q'; exact q'
      · rw [if_neg ha] at q'; exact S.zh a o q'
    · have q' : (if a ∈ f1 then H a else Z a) = some o := q
      by_cases ha : a ∈ f1
      · exact (nZ a ha).2
      · rw [if_neg ha] at q'; exact S.new a o q' z
    · exact sz a o (S.tp a o q i)
theorem Stt.lookF {i : Nat} {d : D} (S : Stt K CL b H Z δ σ ts vs) (hi : δ[i]? = some (some (.sh d))) : ∃ v, σ[i]? = some (some v) ∧ RepF K CL Z d v := by
  obtain ⟨fp, gp, e, r, nd, k⟩ := S.rep
  obtain ⟨v, f1, f2, f3, hv, hfp, rt, _, _⟩ := e.get hi
  cases rt with
  | sh h => exact ⟨v, hv, h⟩
/-- the top of the stack is stored into a name -/
theorem Stt.set {i : Nat} (S : Stt K CL b H Z δ σ (t :: ts) (v :: vs)) (hi : i < δ.length) : Stt K CL b H Z (δ.set i (some t)) (σ.set i (some v)) ts vs := by
  obtain ⟨fp, gp, e, r, nd, k⟩ := S.rep
  cases r with
  | @cons _ _ _ _ f1 f2 r1 r2 =>
    obtain ⟨f, h1, f', h2, h3⟩ := e.put r1 hi
    have hp : (f ++ f2).Perm (f' ++ (f1 ++ f2)) := by
      refine (h3.append_right f2).trans ?_
      rw [← List.append_assoc]
      exact List.perm_append_comm.append_right f2
    have hsub : (f' ++ (f1 ++ f2)).Sublist (fp ++ (f1 ++ f2)) := List.Sublist.append h2 (List.Sublist.refl _)
    exact ⟨⟨f, f2, h1, r2, hp.nodup_iff.mpr (nd.sublist hsub), fun a ha => k a (hsub.subset (hp.mem_iff.mp ha))⟩, S.bh, S.zz, S.zh, S.new, S.tp⟩
end
end L3

namespace L3
open PySem PySem.Spec PyProof.Rows L2

mutual
/-- data without lists and instances: no one may change it -/
def D.imm : D → Bool
  | .tup ds => D.imms ds
  | .lst _ => false
  | .ins _ _ => false
  | .any => false
  | _ => true
def D.imms : List D → Bool
  | [] => true
  | d :: ds => d.imm && D.imms ds
end
mutual
/-- of what is frozen in it nothing could be changed by others -/
def T.clean : T → Bool
  | .sh d => d.imm
  | .tup ts => T.cleans ts
  | .lst ts => T.cleans ts
  | .ins _ fs => T.cleanf fs
  | .pin _ t => t.clean
def T.cleans : List T → Bool
  | [] => true
  | t :: ts => t.clean && T.cleans ts
def T.cleanf : List (Str × T) → Bool
  | [] => true
  | (_, t) :: ts => t.clean && T.cleanf ts
end

/-! ### the judgements -/
def TEv (X : Cx) (CL : Str → Addr) (b : Bx) (e : Expr) (δ : List (Option T)) (t : T) (δ' : List (Option T)) : Prop :=
  ∀ (H Z : Hp) (σ : L2.St) (ts : List T) (vs : List V) (Q : VK), Stt X.K CL b H Z δ σ ts vs → (∀ v H' Z', Same Z Z' → Same H H' → Stt X.K CL b H' Z' δ' σ (t :: ts) (v :: vs) → Q v H') → semE X e σ H Q
/-- a view: right until something is changed -/
def TBv (X : Cx) (CL : Str → Addr) (b : Bx) (e : Expr) (δ : List (Option T)) (d : D) (δ' : List (Option T)) : Prop :=
  ∀ (H Z : Hp) (σ : L2.St) (ts : List T) (vs : List V) (Q : VK), Stt X.K CL b H Z δ σ ts vs → (∀ v H' Z', Same Z Z' → Same H H' → Stt X.K CL b H' Z' δ' σ ts vs → RepF X.K CL H' d v → Q v H') → semE X e σ H Q
def TTv (X : Cx) (CL : Str → Addr) (b : Bx) (e : Expr) (δ : List (Option T)) (p : Bool) (δ' : List (Option T)) : Prop :=
  ∀ (H Z : Hp) (σ : L2.St) (ts : List T) (vs : List V) (Q : Bool → Hp → Prop), Stt X.K CL b H Z δ σ ts vs → (∀ H' Z', Same Z Z' → Same H H' → Stt X.K CL b H' Z' δ' σ ts vs → Q p H') → semT X e σ H Q
def TAv (X : Cx) (CL : Str → Addr) (b : Bx) (es : List Expr) (δ : List (Option T)) (tl : List T) (δ' : List (Option T)) : Prop :=
  ∀ (H Z : Hp) (σ : L2.St) (ts : List T) (vs : List V) (Q : List V → Hp → Prop), Stt X.K CL b H Z δ σ ts vs →
    (∀ us H' Z', us.length = tl.length → Same Z Z' → Same H H' → Stt X.K CL b H' Z' δ' σ (tl.reverse ++ ts) (us.reverse ++ vs) → Q us H') → semA X es σ H Q
def BAv (X : Cx) (CL : Str → Addr) (b : Bx) (es : List Expr) (δ : List (Option T)) (ds : List D) (δ' : List (Option T)) : Prop :=
  ∀ (H Z : Hp) (σ : L2.St) (ts : List T) (vs : List V) (Q : List V → Hp → Prop), Stt X.K CL b H Z δ σ ts vs →
    (∀ us H' Z', Same Z Z' → Same H H' → Stt X.K CL b H' Z' δ' σ ts vs → RepFs X.K CL H' ds us → Q us H') → semA X es σ H Q
structure TEnds where
  nx : List (Option T) → Prop
  rt : T → Prop
  bk : List (Option T) → Prop := fun _ => False
  ct : List (Option T) → Prop := fun _ => False
structure Meets (K : PySem.W.Frag) (CL : Str → Addr) (b : Bx) (Z : Hp) (ts : List T) (vs : List V) (D : TEnds) (E : Ends) : Prop where
  nx : ∀ δ' σ' H' Z', Same Z Z' → Stt K CL b H' Z' δ' σ' ts vs → D.nx δ' → E.nx σ' H'
  rt : ∀ t v H' Z' δ' σ', Same Z Z' → Stt K CL b H' Z' δ' σ' (t :: ts) (v :: vs) → D.rt t → E.rt v H'
  bk : ∀ δ' σ' H' Z', Same Z Z' → Stt K CL b H' Z' δ' σ' ts vs → D.bk δ' → E.bk σ' H'
  ct : ∀ δ' σ' H' Z', Same Z Z' → Stt K CL b H' Z' δ' σ' ts vs → D.ct δ' → E.ct σ' H'
def TSv (X : Cx) (CL : Str → Addr) (b : Bx) (st : Stmt) (δ : List (Option T)) (D : TEnds) : Prop :=
  ∀ (H Z : Hp) (σ : L2.St) (ts : List T) (vs : List V) (E : Ends), Stt X.K CL b H Z δ σ ts vs → Meets X.K CL b Z ts vs D E → semS X st E σ H
def TBs (X : Cx) (CL : Str → Addr) (b : Bx) (st : List Stmt) (δ : List (Option T)) (D : TEnds) : Prop :=
  ∀ (H Z : Hp) (σ : L2.St) (ts : List T) (vs : List V) (E : Ends), Stt X.K CL b H Z δ σ ts vs → Meets X.K CL b Z ts vs D E → semB X st E σ H

section
variable {K : PySem.W.Frag} {CL : Str → Addr} {b : Bx} {H H' Z Z' : Hp} {δ δ' : List (Option T)} {σ σ' : L2.St} {ts ts' : List T} {vs vs' : List V} {t : T} {v : V}
theorem Meets.mono {D : TEnds} {E : Ends} (M : Meets K CL b Z ts vs D E) (e : Same Z Z') : Meets K CL b Z' ts vs D E :=
  ⟨fun _ _ _ _ s => M.nx _ _ _ _ (e.trans s), fun _ _ _ _ _ _ s => M.rt _ _ _ _ _ _ (e.trans s), fun _ _ _ _ s => M.bk _ _ _ _ (e.trans s), fun _ _ _ _ s => M.ct _ _ _ _ (e.trans s)⟩
/-- what no one may change stands in the frozen heap -/
theorem sqT_imm {a : Addr} {xs : List V} (zh : ∀ a o, H a = some o → immO o = true → Z a = some o) (h : SqT K H a xs) : SqT K Z a xs := by
  rcases h with (h | ⟨o, h⟩) | h
  · exact .inl (.inl (zh _ _ h rfl))
  · exact .inl (.inr ⟨o, zh _ _ h rfl⟩)
  · exact .inr h
mutual
theorem RepF.imm (zh : ∀ a o, H a = some o → immO o = true → Z a = some o) : ∀ {d : D} {v : V}, d.imm = true → RepF K CL H d v → RepF K CL Z d v
  | _, _, _, .non => .non
  | _, _, _, .bl b => .bl b
  | _, _, _, .int b => .int b
  | _, _, _, .str b => .str b
  | _, _, k, .any b => by rw [D.imm] at k; cases k
  | _, _, k, .tup h r => .tup (sqT_imm zh h) (RepFs.imm zh (by rw [D.imm] at k; exact k) r)
  | _, _, k, .lst h r => by rw [D.imm] at k; cases k
  | _, _, k, .ins h r => by rw [D.imm] at k; cases k
theorem RepFs.imm (zh : ∀ a o, H a = some o → immO o = true → Z a = some o) : ∀ {d : List D} {v : List V}, D.imms d = true → RepFs K CL H d v → RepFs K CL Z d v
  | _, _, _, .nil => .nil
  | _, _, k, .cons h r => by
    rw [D.imms, Bool.and_eq_true] at k
    exact .cons (RepF.imm zh k.1 h) (RepFs.imm zh k.2 r)
end
mutual
theorem RepT.clean {Z1 : Hp} (zh : ∀ a xs, Z1 a = some (.tup xs) → Z a = some (.tup xs)) (zi : ∀ {d : D} {v : V}, d.imm = true → RepF K CL Z1 d v → RepF K CL Z d v) : ∀ {t : T} {v : V} {fp : List Addr}, t.clean = true → RepT K CL H Z1 t v fp → RepT K CL H Z t v fp
  | _, _, _, k, .sh h => .sh (zi (by rw [T.clean] at k; exact k) h)
  | _, _, _, k, .tup h r => .tup (zh _ _ h) (RepTs.clean zh zi (by rw [T.clean] at k; exact k) r)
  | _, _, _, k, .lst h r => .lst h (RepTs.clean zh zi (by rw [T.clean] at k; exact k) r)
  | _, _, _, k, .ins h r => .ins h (RepTf.clean zh zi (by rw [T.clean] at k; exact k) r)
  | _, _, _, k, .pin r => .pin (RepT.clean zh zi (by rw [T.clean] at k; exact k) r)
theorem RepTs.clean {Z1 : Hp} (zh : ∀ a xs, Z1 a = some (.tup xs) → Z a = some (.tup xs)) (zi : ∀ {d : D} {v : V}, d.imm = true → RepF K CL Z1 d v → RepF K CL Z d v) : ∀ {t : List T} {v : List V} {fp : List Addr}, T.cleans t = true → RepTs K CL H Z1 t v fp → RepTs K CL H Z t v fp
  | _, _, _, _, .nil => .nil
  | _, _, _, k, .cons h r => by
    rw [T.cleans, Bool.and_eq_true] at k
    exact .cons (RepT.clean zh zi k.1 h) (RepTs.clean zh zi k.2 r)
theorem RepTf.clean {Z1 : Hp} (zh : ∀ a xs, Z1 a = some (.tup xs) → Z a = some (.tup xs)) (zi : ∀ {d : D} {v : V}, d.imm = true → RepF K CL Z1 d v → RepF K CL Z d v) : ∀ {t : List (Str × T)} {v : List (Str × V)} {fp : List Addr}, T.cleanf t = true → RepTf K CL H Z1 t v fp → RepTf K CL H Z t v fp
  | _, _, _, _, .nil => .nil
  | _, _, _, k, .cons h r => by
    rw [T.cleanf, Bool.and_eq_true] at k
    exact .cons (RepT.clean zh zi k.1 h) (RepTf.clean zh zi k.2 r)
end
/-- THE WAY BACK: a call (or a comprehension's block) that went with the frozen heap W (Z itself, or all of H) has ended -/
theorem Stt.back {W W' : Hp} {fp : List Addr} (S : Stt K CL b H Z δ σ ts vs) (hh : Same H H') (zw : Same Z W) (ww : Same W W') (wh : Same W' H') (new : ∀ a o, W' a = some o → W a = none → H a = none)
    (tp : ∀ a o, H' a = some o → immO o = true → W' a = some o) (r : RepT K CL H' W' t v fp) (nd : fp.Nodup) (own : ∀ a ∈ fp, W' a = none ∧ H a = none) (c : W = Z ∨ t.clean = true) :
    ∃ Z', Same Z Z' ∧ Stt K CL b H' Z' δ σ (t :: ts) (v :: vs) := by
  classical
  let Z' : Hp := fun a => if (H a).isSome = true then Z a else W' a
  have zs : ∀ {a : Addr} {o : HO}, H a = some o → Z' a = Z a := fun {a o} e => by
    show (if (H a).isSome = true then Z a else W' a) = Z a
    rw [if_pos (by rw [e]; rfl)]
  have zn : ∀ {a : Addr}, H a = none → Z' a = W' a := fun {a} e => by
    show (if (H a).isSome = true then Z a else W' a) = W' a
    rw [if_neg (by rw [e]; simp)]
  have sz : Same Z Z' := fun a o q => by rw [zs (S.zh a o q)]; exact q
  have zw' : ∀ a o, Z' a = some o → W' a = some o := fun a o q => by
    cases e : H a with
    | none => rw [zn e] at q; exact q
    | some u => rw [zs e] at q; exact ww a o (zw a o q)
  have ztp : ∀ a o, H' a = some o → immO o = true → Z' a = some o := fun a o q i => by
    cases e : H a with
    | none => rw [zn e]; exact tp a o q i
    | some u =>
      rw [zs e]
      have := hh a u e
      rw [q] at this; cases this
      exact S.tp a o e i
  have r' : RepT K CL H' Z' t v fp := by
    rcases c with c | c
    · have : Z' = W' := by
        funext a
        cases e : H a with
        | none => exact zn e
        | some u =>
          rw [zs e]
          cases q : W' a with
          | none =>
            cases q2 : Z a with
            | none => rfl
            | some o => rw [ww a o (zw a o q2)] at q; cases q
          | some o =>
            cases q2 : W a with
            | none => rw [new a o q q2] at e; cases e
            | some o2 =>
              have := ww a o2 q2
              rw [q] at this; cases this
              rw [← c]; exact q2
      rw [this]; exact r
    · refine RepT.clean (fun a xs h => ?_) (fun {d v} k h => ?_) c r
      · exact ztp a _ (wh a _ h) rfl
      · exact RepF.imm (H := H') ztp k (h.mono wh)
  obtain ⟨f0, g0, e0, r0, nd0, k0⟩ := S.rep
  have old : ∀ a ∈ f0 ++ g0, ∃ o, H a = some o := fun a ha => (List.mem_append.mp ha).elim (e0.there a) (r0.there a)
  have keep : ∀ a ∈ f0 ++ g0, H' a = H a := fun a ha => by
    obtain ⟨o, e⟩ := old a ha
    rw [e]; exact hh a o e
  refine ⟨Z', sz, ⟨⟨f0, fp ++ g0, e0.mono sz (fun a ha => keep a (List.mem_append_left _ ha)), .cons r' (r0.mono sz fun a ha => keep a (List.mem_append_right _ ha)), ?_, fun a ha => ?_⟩, S.bh.trans hh, S.zz.trans sz, fun a o q => wh a o (zw' a o q), fun a o q z => ?_, ztp⟩⟩
  · have hp : (f0 ++ (fp ++ g0)).Perm (fp ++ (f0 ++ g0)) := by
      rw [← List.append_assoc, ← List.append_assoc]
      exact List.perm_append_comm.append_right g0
    refine hp.nodup_iff.mpr (List.nodup_append.mpr ⟨nd, nd0, fun a ha c hc e => ?_⟩)
    subst e
    obtain ⟨o, q⟩ := old a hc
    rw [(own a ha).2] at q; cases q
  · have : a ∈ f0 ++ g0 ∨ a ∈ fp := by
      simp only [List.mem_append] at ha ⊢
      rcases ha with h | h | h
      · exact .inl (.inl h)
      · exact .inr h
      · exact .inl (.inr h)
    rcases this with h | h
    · obtain ⟨o, q⟩ := old a h
      exact ⟨by rw [zs q]; exact (k0 a h).1, (k0 a h).2⟩
    · exact ⟨by rw [zn (own a h).2]; exact (own a h).1, S.bh.free (own a h).2⟩
  · cases e : H a with
    | none => exact S.bh.free e
    | some u => rw [zs e] at q; exact S.new a o q z
end
section
variable {X : Cx} {CL : Str → Addr} {b : Bx} {δ δ1 δ2 δ3 : List (Option T)} {e e1 e2 : Expr} {t t1 t2 : T} {d d1 d2 : D} {pos : Pos}

/-! ### from one to the other -/
theorem tb_of (h : TEv X CL b e δ t δ1) : TBv X CL b e δ t.frz δ1 := fun H Z σ ts vs Q S k => h H Z σ ts vs Q S fun v H' Z' z s S' => k v H' Z' z s S'.pop S'.view
theorem tb_sh (h : TEv X CL b e δ (.sh d) δ1) : TBv X CL b e δ d δ1 := by have := tb_of h; rwa [T.frz] at this
theorem te_imm (h : TBv X CL b e δ d δ1) (i : d.imm = true) : TEv X CL b e δ (.sh d) δ1 := fun H Z σ ts vs Q S k => h H Z σ ts vs Q S fun v H' Z' z s S' r => k v H' Z' z s (S'.push (RepF.imm S'.tp i r))
theorem te_frz (h : TEv X CL b e δ t δ1) : TEv X CL b e δ (.sh t.frz) δ1 := fun H Z σ ts vs Q S k => h H Z σ ts vs Q S fun v H' Z' z s S' => by
  obtain ⟨Z2, z2, S2⟩ := S'.frzTop
  exact k v H' Z2 (z.trans z2) s S2

/-! ### names, constants -/
theorem te_int {i : Int} {j : Nat} : TEv X CL b (.Constant (.int i) j pos) δ (.sh (.int i)) δ := fun H Z σ ts vs Q S k => ofPE pe_int (k _ _ Z (.refl _) (.refl _) (S.push (.int i)))
theorem te_bl {i : Bool} {j : Nat} : TEv X CL b (.Constant (.bool i) j pos) δ (.sh (.bl i)) δ := fun H Z σ ts vs Q S k => ofPE pe_bl (k _ _ Z (.refl _) (.refl _) (S.push (.bl i)))
theorem te_str {x : Str} {j : Nat} : TEv X CL b (.Constant (.str x) j pos) δ (.sh (.str x)) δ := fun H Z σ ts vs Q S k => ofPE pe_str (k _ _ Z (.refl _) (.refl _) (S.push (.str x)))
section
variable (i : Nat) {x : Str} (hi : X.N[i]? = some x := by rfl) (hv : Vis X.env.scope x := by first | exact Or.inl rfl | exact Or.inr (Or.inl rfl) | exact Or.inr (Or.inr rfl)) (hd : (x == ("__debug__" : Str)) = false := by decide) (hcd : (x == ("__classdict__" : Str)) = false := by decide)
include hi hv hd hcd
/-- a name whose data are frozen -/
theorem te_var (h : δ[i]? = some (some (.sh d)) := by rfl) : TEv X CL b (.Name x pos) δ (.sh d) δ := fun H Z σ ts vs Q S k => by
  obtain ⟨v, e, r⟩ := S.lookF h
  exact ofPE (pe_var hi hv hd hcd) ⟨v, e, k v H Z (.refl _) (.refl _) (S.push r)⟩
end

/-! ### operations upon scalars -/
/-- what a scalar is -/
def scV : D → Option V
  | .non => some .non
  | .bl b => some (.bl b)
  | .int i => some (.int i)
  | .str x => some (.str x)
  | _ => none
theorem RepF.sc {K : PySem.W.Frag} {Z : Hp} {d : D} {v w : V} (r : RepF K CL Z d v) (h : scV d = some w) : v = w := by
  cases r <;> first | (exact Option.some.inj h) | (cases h)
theorem scV_rep {K : PySem.W.Frag} {Z : Hp} {d : D} {w : V} (h : scV d = some w) : RepF K CL Z d w := by
  cases d <;> first | (cases h; constructor) | (cases h)
theorem te_op2 {op : Operator} {r : R2} {w1 w2 w : V} (ho : OpR X (binaryOp op) r) (h1 : TBv X CL b e1 δ d1 δ1) (h2 : TBv X CL b e2 δ1 d2 δ2) (s1 : scV d1 = some w1) (s2 : scV d2 = some w2) (s3 : scV d = some w)
    (hr : ∀ (H : Hp) (Q : VK), Q w H → r w1 w2 H Q) : TEv X CL b (.BinOp e1 op e2 pos) δ (.sh d) δ2 := fun H Z σ ts vs Q S k => by
  refine ofPE (pe_op ho peS peS) (h1 H Z σ ts vs _ S fun v1 H1 Z1 z1 k1 S1 r1 => h2 H1 Z1 σ ts vs _ S1 fun v2 H2 Z2 z2 k2 S2 r2 => ?_)
  rw [r1.sc s1, r2.sc s2]
  exact hr H2 Q (k w H2 Z2 (z1.trans z2) (k1.trans k2) (S2.push (scV_rep s3)))
theorem te_add {i j : Int} (h1 : TBv X CL b e1 δ (.int i) δ1) (h2 : TBv X CL b e2 δ1 (.int j) δ2) : TEv X CL b (.BinOp e1 .Add e2 pos) δ (.sh (.int (i + j))) δ2 := te_op2 op_add h1 h2 rfl rfl rfl fun _ _ q => ⟨i, j, rfl, rfl, q⟩
theorem te_mod {i j : Int} (h1 : TBv X CL b e1 δ (.int i) δ1) (h2 : TBv X CL b e2 δ1 (.int j) δ2) (c : 0 < j) : TEv X CL b (.BinOp e1 .Mod e2 pos) δ (.sh (.int (i % j))) δ2 := te_op2 op_mod h1 h2 rfl rfl rfl fun _ _ q => ⟨i, j, rfl, rfl, c, q⟩
theorem te_fdiv {i j : Int} (h1 : TBv X CL b e1 δ (.int i) δ1) (h2 : TBv X CL b e2 δ1 (.int j) δ2) (c : CDiv i j) : TEv X CL b (.BinOp e1 .FloorDiv e2 pos) δ (.sh (.int (i / j))) δ2 := te_op2 op_fdiv h1 h2 rfl rfl rfl fun _ _ q => ⟨i, j, rfl, rfl, c, q⟩
theorem te_pow {i j : Int} (h1 : TBv X CL b e1 δ (.int i) δ1) (h2 : TBv X CL b e2 δ1 (.int j) δ2) (c : CPow i j) : TEv X CL b (.BinOp e1 .Pow e2 pos) δ (.sh (.int (i ^ j.toNat))) δ2 := te_op2 op_pow h1 h2 rfl rfl rfl fun _ _ q => ⟨i, j, rfl, rfl, c, q⟩
theorem te_cat {x y : Str} (h1 : TBv X CL b e1 δ (.str x) δ1) (h2 : TBv X CL b e2 δ1 (.str y) δ2) (c : x.length + y.length ≤ sizeLine) : TEv X CL b (.BinOp e1 .Add e2 pos) δ (.sh (.str (x ++ y))) δ2 := te_op2 op_add_str h1 h2 rfl rfl rfl fun _ _ q => ⟨x, y, rfl, rfl, c, q⟩

/-! ### comparisons -/
theorem tc_op {op : CmpOp} {r : R2} {p : Bool} {w1 w2 : V} (ho : OpR X (compareOp op) r) (h1 : TBv X CL b e1 δ d1 δ1) (h2 : TBv X CL b e2 δ1 d2 δ2) (s1 : scV d1 = some w1) (s2 : scV d2 = some w2)
    (hr : ∀ (H : Hp) (Q : VK), Q (.bl p) H → r w1 w2 H Q) (hm : behindInMarks op e2 = false) : TTv X CL b (.Compare e1 [op] [e2] pos) δ p δ2 ∧ TEv X CL b (.Compare e1 [op] [e2] pos) δ (.sh (.bl p)) δ2 := by
  constructor
  · intro H Z σ ts vs Q S k
    refine ofPT (pt_cmpR ho peS peS hm) (h1 H Z σ ts vs _ S fun v1 H1 Z1 z1 k1 S1 r1 => h2 H1 Z1 σ ts vs _ S1 fun v2 H2 Z2 z2 k2 S2 r2 => ?_)
    rw [r1.sc s1, r2.sc s2]
    exact hr H2 _ ⟨p, rfl, k H2 Z2 (z1.trans z2) (k1.trans k2) S2⟩
  · intro H Z σ ts vs Q S k
    refine ofPE (pe_cmpR ho peS peS hm) (h1 H Z σ ts vs _ S fun v1 H1 Z1 z1 k1 S1 r1 => h2 H1 Z1 σ ts vs _ S1 fun v2 H2 Z2 z2 k2 S2 r2 => ?_)
    rw [r1.sc s1, r2.sc s2]
    exact hr H2 _ (k _ H2 Z2 (z1.trans z2) (k1.trans k2) (S2.push (.bl p)))
theorem tc_eqI {i j : Int} (h1 : TBv X CL b e1 δ (.int i) δ1) (h2 : TBv X CL b e2 δ1 (.int j) δ2) : TTv X CL b (.Compare e1 [.Eq] [e2] pos) δ (decide (i = j)) δ2 ∧ TEv X CL b (.Compare e1 [.Eq] [e2] pos) δ (.sh (.bl (decide (i = j)))) δ2 :=
  tc_op op_eq h1 h2 rfl rfl (fun _ _ q => ⟨rfl, by rw [show decide (V.int i = V.int j) = decide (i = j) by simp]; exact q⟩) (nomark _)
theorem tc_eqS {i j : Str} (h1 : TBv X CL b e1 δ (.str i) δ1) (h2 : TBv X CL b e2 δ1 (.str j) δ2) : TTv X CL b (.Compare e1 [.Eq] [e2] pos) δ (decide (i = j)) δ2 ∧ TEv X CL b (.Compare e1 [.Eq] [e2] pos) δ (.sh (.bl (decide (i = j)))) δ2 :=
  tc_op op_eq h1 h2 rfl rfl (fun _ _ q => ⟨rfl, by rw [show decide (V.str i = V.str j) = decide (i = j) by simp]; exact q⟩) (nomark _)
theorem tc_neS {i j : Str} (h1 : TBv X CL b e1 δ (.str i) δ1) (h2 : TBv X CL b e2 δ1 (.str j) δ2) : TTv X CL b (.Compare e1 [.NotEq] [e2] pos) δ (!decide (i = j)) δ2 ∧ TEv X CL b (.Compare e1 [.NotEq] [e2] pos) δ (.sh (.bl (!decide (i = j)))) δ2 :=
  tc_op op_ne h1 h2 rfl rfl (fun _ _ q => ⟨rfl, by rw [show decide (V.str i = V.str j) = decide (i = j) by simp]; exact q⟩) (nomark _)
theorem tc_lt {i j : Int} (h1 : TBv X CL b e1 δ (.int i) δ1) (h2 : TBv X CL b e2 δ1 (.int j) δ2) : TTv X CL b (.Compare e1 [.Lt] [e2] pos) δ (decide (i < j)) δ2 ∧ TEv X CL b (.Compare e1 [.Lt] [e2] pos) δ (.sh (.bl (decide (i < j)))) δ2 := tc_op op_lt h1 h2 rfl rfl (fun _ _ q => ⟨i, j, rfl, rfl, q⟩) (nomark _)
theorem tc_gt {i j : Int} (h1 : TBv X CL b e1 δ (.int i) δ1) (h2 : TBv X CL b e2 δ1 (.int j) δ2) : TTv X CL b (.Compare e1 [.Gt] [e2] pos) δ (decide (j < i)) δ2 ∧ TEv X CL b (.Compare e1 [.Gt] [e2] pos) δ (.sh (.bl (decide (j < i)))) δ2 := tc_op op_gt h1 h2 rfl rfl (fun _ _ q => ⟨i, j, rfl, rfl, q⟩) (nomark _)
end
end L3

namespace L3
open PySem PySem.Spec PyProof.Rows L2
section
variable {K : PySem.W.Frag} {CL : Str → Addr} {H Z : Hp}
theorem RepTs.split : ∀ {as bs : List T} {us ws : List V} {gp : List Addr}, as.length = us.length → RepTs K CL H Z (as ++ bs) (us ++ ws) gp → ∃ g1 g2, gp = g1 ++ g2 ∧ RepTs K CL H Z as us g1 ∧ RepTs K CL H Z bs ws g2
  | [], _, [], _, gp, _, r => ⟨[], gp, rfl, .nil, r⟩
  | [], _, _ :: _, _, _, h, _ => by simp at h
  | _ :: _, _, [], _, _, h, _ => by simp at h
  | a :: as, bs, u :: us, ws, gp, h, r => by
    cases r with
    | @cons _ _ _ _ f1 f2 r1 r2 =>
      obtain ⟨g1, g2, e, h1, h2⟩ := RepTs.split (as := as) (us := us) (by simpa using h) r2
      exact ⟨f1 ++ g1, g2, by rw [e, List.append_assoc], .cons r1 h1, h2⟩
theorem RepTs.app : ∀ {as bs : List T} {us ws : List V} {g1 g2 : List Addr}, RepTs K CL H Z as us g1 → RepTs K CL H Z bs ws g2 → RepTs K CL H Z (as ++ bs) (us ++ ws) (g1 ++ g2)
  | _, _, _, _, _, _, .nil, q => q
  | _, _, _, _, _, _, .cons (fp := f1) (gp := f2) r t, q => by
    rw [List.append_assoc]
    exact .cons r (RepTs.app t q)
theorem RepTs.rev : ∀ {as : List T} {us : List V} {g : List Addr}, RepTs K CL H Z as.reverse us.reverse g → ∃ g', RepTs K CL H Z as us g' ∧ g'.Perm g
  | [], [], g, r => by
    have r' : RepTs K CL H Z [] [] g := r
    cases r'
    exact ⟨[], .nil, List.Perm.refl _⟩
  | [], u :: us, g, r => by have := r.length; simp at this
  | a :: as, [], g, r => by have := r.length; simp at this
  | a :: as, u :: us, g, r => by
    rw [List.reverse_cons, List.reverse_cons] at r
    have hl := r.length
    obtain ⟨g1, g2, e, r1, r2⟩ := RepTs.split (by simp at hl ⊢; omega) r
    subst e
    obtain ⟨g', r', p⟩ := RepTs.rev r1
    cases r2 with
    | @cons _ _ _ _ f1 f2 q1 q2 =>
      cases q2
      refine ⟨f1 ++ g', .cons q1 r', ?_⟩
      rw [List.append_nil]
      exact (List.Perm.append_left f1 p).trans List.perm_append_comm
theorem frzs_sh : ∀ (ds : List D), T.frzs (ds.map T.sh) = ds
  | [] => rfl
  | d :: ds => by rw [List.map_cons, T.frzs, frzs_sh ds, T.frz]
end
section
variable {K : PySem.W.Frag} {CL : Str → Addr} {b : Bx} {H H' Z Z' : Hp} {δ δ' : List (Option T)} {σ σ' : L2.St} {ts tl : List T} {vs us : List V} {t : T} {v : V}
theorem Stt.newLst {p : Addr} {g0 : List Addr} (S : Stt K CL b H Z δ σ (tl.reverse ++ ts) (us.reverse ++ vs)) (hl : us.length = tl.length) (hp : H p = none) :
    Same H (upd H p (.lst us)) ∧ Stt K CL b (upd H p (.lst us)) Z δ σ (.lst tl :: ts) (.ref p :: vs) := by
  obtain ⟨fp, gp, e, r, nd, k⟩ := S.rep
  obtain ⟨g1, g2, eg, r1, r2⟩ := RepTs.split (by simp [hl]) r
  subst eg
  obtain ⟨g', r', pm⟩ := r1.rev
  have zp : Z p = none := S.zh.free hp
  have sh : Same H (upd H p (.lst us)) := Same.upd hp
  have keep : ∀ a ∈ fp ++ (g1 ++ g2), a ≠ p := fun a ha => by
    have : ∃ o, H a = some o := by
      rcases List.mem_append.mp ha with h | h
      · exact e.there a h
      · exact r.there a h
    obtain ⟨o, q⟩ := this
    exact ne_of_none q hp
  have pm2 : (fp ++ (g' ++ g2)).Perm (fp ++ (g1 ++ g2)) := (pm.append_right g2).append_left fp
  have kk : ∀ a ∈ fp ++ (g' ++ g2), a ≠ p := fun a ha => keep a (pm2.mem_iff.mp ha)
  have pm3 : (fp ++ ((p :: g') ++ g2)).Perm (p :: (fp ++ (g' ++ g2))) := by
    rw [List.cons_append]; exact List.perm_middle
  refine ⟨sh, ⟨⟨fp, (p :: g') ++ g2, e.mono (.refl _) (fun a ha => upd_ne (keep a (List.mem_append_left _ ha))), .cons (.lst upd_same (r'.mono (.refl _) fun a ha => upd_ne (kk a (by simp [ha])))) (r2.mono (.refl _) fun a ha => upd_ne (keep a (by simp [ha]))), ?_, fun a ha => ?_⟩, S.bh.trans sh, S.zz, S.zh.trans sh, S.new, fun a o q i => ?_⟩⟩
  · refine pm3.nodup_iff.mpr (List.nodup_cons.mpr ⟨fun h => kk p h rfl, pm2.nodup_iff.mpr nd⟩)
  · rcases List.mem_cons.mp (pm3.mem_iff.mp ha) with h | h
    · subst h; exact ⟨zp, S.bh.free hp⟩
    · exact k a (pm2.mem_iff.mp h)
  · by_cases ha : a = p
    · subst ha; rw [upd_same] at q; cases q; cases i
    · rw [upd_ne ha] at q; exact S.tp a o q i
end
section
variable {X : Cx} {CL : Str → Addr} {b : Bx} {δ δ1 δ2 δ3 : List (Option T)} {e e1 e2 e3 : Expr} {es : List Expr} {t t1 t2 : T} {d d1 d2 : D} {tl : List T} {ds : List D} {p q : Bool} {pos : Pos}

/-! ### argument lists, displays -/
theorem ta_nil : TAv X CL b [] δ [] δ := fun H Z σ ts vs Q S k => ofPA pa_nil (k [] H Z rfl (.refl _) (.refl _) S)
theorem ta_cons (h1 : TEv X CL b e δ t δ1) (h2 : TAv X CL b es δ1 tl δ2) (hs : starEach (e :: es) X.env = (false, eval e X.env) :: starEach es X.env := by exact starOk rfl) : TAv X CL b (e :: es) δ (t :: tl) δ2 := fun H Z σ ts vs Q S k =>
  ofPA (pa_cons peS paS hs) (h1 H Z σ ts vs _ S fun v H1 Z1 z1 k1 S1 => h2 H1 Z1 σ _ _ _ S1 fun us H2 Z2 hl z2 k2 S2 => k (v :: us) H2 Z2 (by simp [hl]) (z1.trans z2) (k1.trans k2) (by
    rw [List.reverse_cons, List.reverse_cons, List.append_assoc, List.append_assoc]
    exact S2))
theorem ba_nil : BAv X CL b [] δ [] δ := fun H Z σ ts vs Q S k => ofPA pa_nil (k [] H Z (.refl _) (.refl _) S .nil)
theorem ba_cons (h1 : TBv X CL b e δ d δ1) (h2 : BAv X CL b es δ1 ds δ2) (hs : starEach (e :: es) X.env = (false, eval e X.env) :: starEach es X.env := by exact starOk rfl) : BAv X CL b (e :: es) δ (d :: ds) δ2 := fun H Z σ ts vs Q S k =>
  ofPA (pa_cons peS paS hs) (h1 H Z σ ts vs _ S fun v H1 Z1 z1 k1 S1 r1 => h2 H1 Z1 σ _ _ _ S1 fun us H2 Z2 z2 k2 S2 r2 => k (v :: us) H2 Z2 (z1.trans z2) (k1.trans k2) S2 (.cons (r1.mono k2) r2))
theorem te_lst (h : TAv X CL b es δ tl δ1) (hl : tl.length ≤ sizeLine) : TEv X CL b (.List es pos) δ (.lst tl) δ1 := fun H Z σ ts vs Q S k =>
  ofPE (pe_lst paS) (h H Z σ ts vs _ S fun us H1 Z1 hu z1 k1 S1 => ⟨by rw [hu]; exact hl, fun p hp => by
    obtain ⟨c, S2⟩ := S1.newLst (g0 := []) hu hp
    exact k _ _ _ z1 (k1.trans c) S2⟩)

/-! ### tests -/
theorem tt_of (h : TEv X CL b e δ (.sh (.bl p)) δ1) (he : ∀ whole, isTrue e X.env whole = (do let v ← whole; standAt e.pos; holding [v] (truthy v)) := by intro _; rfl) : TTv X CL b e δ p δ1 := fun H Z σ ts vs Q S k =>
  ofPT (pt_val peS he) (h H Z σ ts vs _ S fun v H1 Z1 z1 k1 S1 => ⟨p, by have := S1.view; rw [T.frz] at this; exact this.sc rfl, k H1 Z1 z1 k1 S1.pop⟩)
theorem tt_not (h : TTv X CL b e δ p δ1) : TTv X CL b (.UnaryOp .Not e pos) δ (!p) δ1 := fun H Z σ ts vs Q S k => ofPT (pt_not ptS) (h H Z σ ts vs _ S fun H1 Z1 z1 k1 S1 => k H1 Z1 z1 k1 S1)
def semW (X : Cx) (e : Expr) : TT := fun σ H Q => ∀ (whole : Sem Value) (pins : List (Addr × Obj)) (s : Shared), Inv X pins σ H s → wpAny (model X.prog X.w) X.A (isTrue e X.env whole) (TP X pins σ Q) X.xe s
theorem pwS {e : Expr} : PW X e (semW X e) := fun whole pins s _ _ _ I h => h whole pins s I
def TWv (X : Cx) (CL : Str → Addr) (b : Bx) (e : Expr) (δ : List (Option T)) (p : Bool) (δ' : List (Option T)) : Prop :=
  ∀ (H Z : Hp) (σ : L2.St) (ts : List T) (vs : List V) (Q : Bool → Hp → Prop), Stt X.K CL b H Z δ σ ts vs → (∀ H' Z', Same Z Z' → Same H H' → Stt X.K CL b H' Z' δ' σ ts vs → Q p H') → semW X e σ H Q
theorem ofPW {t : TT} (h : PW X e t) {σ : L2.St} {H : Hp} {Q : Bool → Hp → Prop} (q : t σ H Q) : semW X e σ H Q := fun whole pins s I => h whole pins s σ H Q I q
theorem tt_w (h : TWv X CL b e δ p δ1) : TTv X CL b e δ p δ1 := fun H Z σ ts vs Q S k pins s I => h H Z σ ts vs Q S k _ pins s I
theorem tw_and1 (h : TTv X CL b e δ p δ1) : TWv X CL b (.BoolOp .And [e] pos) δ p δ1 := fun H Z σ ts vs Q S k => ofPW (pw_and1 ptS) (h H Z σ ts vs _ S k)
theorem tw_or1 (h : TTv X CL b e δ p δ1) : TWv X CL b (.BoolOp .Or [e] pos) δ p δ1 := fun H Z σ ts vs Q S k => ofPW (pw_or1 ptS) (h H Z σ ts vs _ S k)
theorem tw_and (h : TTv X CL b e δ p δ1) (h2 : p = true → TWv X CL b (.BoolOp .And (e2 :: es) pos) δ1 q δ1) : TWv X CL b (.BoolOp .And (e :: e2 :: es) pos) δ (p && q) δ1 := fun H Z σ ts vs Q S k =>
  ofPW (pw_and ptS pwS) (h H Z σ ts vs _ S fun H1 Z1 z1 k1 S1 => by
    cases p with
    | true => exact iteT (h2 rfl H1 Z1 σ ts vs _ S1 fun H2 Z2 z2 k2 S2 => k H2 Z2 (z1.trans z2) (k1.trans k2) S2)
    | false => exact iteF (k H1 Z1 z1 k1 S1))
theorem tw_or (h : TTv X CL b e δ p δ1) (h2 : p = false → TWv X CL b (.BoolOp .Or (e2 :: es) pos) δ1 q δ1) : TWv X CL b (.BoolOp .Or (e :: e2 :: es) pos) δ (p || q) δ1 := fun H Z σ ts vs Q S k =>
  ofPW (pw_or ptS pwS) (h H Z σ ts vs _ S fun H1 Z1 z1 k1 S1 => by
    cases p with
    | true => exact iteT (k H1 Z1 z1 k1 S1)
    | false => exact iteF (h2 rfl H1 Z1 σ ts vs _ S1 fun H2 Z2 z2 k2 S2 => k H2 Z2 (z1.trans z2) (k1.trans k2) S2))
/-- and, or, not as values -/
theorem te_one {op : BoolOp} (h : TEv X CL b e δ t δ1) : TEv X CL b (.BoolOp op [e] pos) δ t δ1 := fun H Z σ ts vs Q S k => ofPE (pe_one peS) (h H Z σ ts vs _ S k)
theorem te_and (h : TEv X CL b e δ (.sh (.bl p)) δ1) (h2 : p = true → TEv X CL b (.BoolOp .And (e2 :: es) pos) δ1 (.sh (.bl q)) δ1) : TEv X CL b (.BoolOp .And (e :: e2 :: es) pos) δ (.sh (.bl (p && q))) δ1 := fun H Z σ ts vs Q S k =>
  ofPE (pe_and peS peS) (h H Z σ ts vs _ S fun v H1 Z1 z1 k1 S1 => by
    have hv : v = .bl p := by have := S1.view; rw [T.frz] at this; exact this.sc rfl
    refine ⟨p, hv, ?_⟩
    cases p with
    | true => exact iteT (h2 rfl H1 Z1 σ ts vs _ S1.pop fun v H2 Z2 z2 k2 S2 => k v H2 Z2 (z1.trans z2) (k1.trans k2) S2)
    | false => exact iteF (k _ H1 Z1 z1 k1 (S1.pop.push (.bl false))))
/-! ### places -/
theorem atI_rep {K : PySem.W.Frag} {Z : Hp} {vs : List V} {k : Int} (r : RepFs K CL Z ds vs) (h : atI ds k = some d) : ∃ v, atI vs k = some v ∧ RepF K CL Z d v := by
  unfold atI at h ⊢
  rw [← r.length]
  cases e : ixN ds.length k with
  | none => rw [e] at h; cases h
  | some j =>
    rw [e] at h
    exact r.get h
theorem tb_ixL {k : Int} (h1 : TBv X CL b e1 δ (.lst ds) δ1) (h2 : TBv X CL b e2 δ1 (.int k) δ2) (hk : atI ds k = some d) (hs : PlainIx e2 := by exact fun _ _ => rfl) : TBv X CL b (.Subscript e1 e2 pos) δ d δ2 := fun H Z σ ts vs Q S kk =>
  ofPE (pe_ix ix_list peS peS hs) (h1 H Z σ ts vs _ S fun v1 H1 Z1 z1 k1 S1 r1 => h2 H1 Z1 σ ts vs _ S1 fun v2 H2 Z2 z2 k2 S2 r2 => by
    have r1' := r1.mono k2
    cases r1' with
    | lst hq rr =>
      obtain ⟨v, hv, rv⟩ := atI_rep rr hk
      exact ⟨_, _, k, v, rfl, r2.sc rfl, hq, hv, kk v H2 Z2 (z1.trans z2) (k1.trans k2) S2 rv⟩)
theorem tb_ixS {k : Int} {x : Str} {c : Nat} (h1 : TBv X CL b e1 δ (.str x) δ1) (h2 : TBv X CL b e2 δ1 (.int k) δ2) (hl : x.length ≤ sizeLine) (hk : atI x.cps.toList k = some c) (hs : PlainIx e2 := by exact fun _ _ => rfl) : TEv X CL b (.Subscript e1 e2 pos) δ (.sh (.str ⟨#[c]⟩)) δ2 := fun H Z σ ts vs Q S kk =>
  ofPE (pe_ix ix_str peS peS hs) (h1 H Z σ ts vs _ S fun v1 H1 Z1 z1 k1 S1 r1 => h2 H1 Z1 σ ts vs _ S1 fun v2 H2 Z2 z2 k2 S2 r2 =>
    ⟨x, k, c, r1.sc rfl, r2.sc rfl, hl, hk, kk _ H2 Z2 (z1.trans z2) (k1.trans k2) (S2.push (.str _))⟩)
end
end L3

namespace L3
open PySem PySem.Spec PyProof.Rows L2
section
variable {K : PySem.W.Frag} {CL : Str → Addr} {b : Bx} {H H' Z Z' : Hp} {δ δ' : List (Option T)} {σ σ' : L2.St} {ts tl : List T} {vs us : List V} {t : T} {v : V}
theorem Stt.pushs : ∀ {ds : List D} {us : List V} {ts : List T} {vs : List V}, RepFs K CL Z ds us → Stt K CL b H Z δ σ ts vs → Stt K CL b H Z δ σ ((ds.map T.sh).reverse ++ ts) (us.reverse ++ vs)
  | _, _, _, _, .nil, S => S
  | _, _, ts, vs, .cons (d := d) (v := v) (ds := ds) (vs := us) r t, S => by
    rw [List.map_cons, List.reverse_cons, List.reverse_cons, List.append_assoc, List.append_assoc]
    exact Stt.pushs t (S.push r)
end
section
variable {X : Cx} {CL : Str → Addr} {b : Bx} {δ δ1 δ2 δ3 : List (Option T)} {e e1 e2 e3 : Expr} {es : List Expr} {t t1 t2 : T} {d d1 d2 : D} {tl : List T} {ds : List D} {p q : Bool} {pos pp : Pos}

/-! ### len, list, tuple -/
theorem te_lenS {x : Str} (hm : X.mg "len" = none) (h : TBv X CL b e δ (.str x) δ1) (hl : x.length ≤ sizeLine) (hg : Gl X "len" := by rfl) (hs : starEach [e] X.env = (false, eval e X.env) :: starEach [] X.env := by exact starOk rfl) : TEv X CL b (.Call (.Name "len" pp) [e] [] pos) δ (.sh (.int x.length)) δ1 := fun H Z σ ts vs Q S k =>
  ofPE (pe_callB call_len_str hg hm PySem.boot_len (pa_cons peS pa_nil hs) (he := hs)) (h H Z σ ts vs _ S fun v H1 Z1 z1 k1 S1 r => ⟨x, by rw [r.sc rfl], hl, k _ H1 Z1 z1 k1 (S1.push (.int _))⟩)
/-! ### calls of defs that change nothing -/
/-- A: what the def is asked with; arg: the arguments as data; res: what comes back -/
def spA (K : PySem.W.Frag) (CL : Str → Addr) {A : Type} (n : Nat) (arg : A → List D) (Pre : A → Prop) (res : A → T) : Sp := fun vs H Q _ =>
  ∃ (W : Hp) (a : A), Same W H ∧ (∀ c o, H c = some o → immO o = true → W c = some o) ∧ RepFs K CL W (arg a) vs ∧ (arg a).length = n ∧ Pre a ∧
    ∀ v H' W' fp, Same H H' → Same W W' → Same W' H' → (∀ c o, W' c = some o → W c = none → H c = none) → (∀ c o, H' c = some o → immO o = true → W' c = some o) →
      RepT K CL H' W' (res a) v fp → fp.Nodup → (∀ c ∈ fp, W' c = none ∧ H c = none) → Q v H'
section
variable {A : Type} {k n : Nat} {f : Addr} {fd : FuncData} {ps : List Str} {arg : A → List D} {Pre : A → Prop} {res : A → T} {x : Str}
/-- f(..), the arguments seen: nothing of what comes back may be changed by others -/
theorem te_call (a : A) (F : FnOk X.prog X.w X.K X.mg X.base CX0 k f fd ps (spA X.K CL n arg Pre res)) (hr : Room k X.A) (hm : X.mg x = some (.ref f)) (hk : PySem.W.keepIn X.K (.ref f) = true) (hb : Binds X.K fd ps [])
    (h : BAv X CL b (e :: es) δ (arg a) δ1) (hn : (arg a).length = n) (hp : Pre a) (hc : (res a).clean = true) (hg : Gl X x)
    (hdb : (x == ("__debug__" : Str)) = false := by decide) (he : starEach (e :: es) X.env = (false, eval e X.env) :: starEach es X.env := by exact starOk rfl) (hpl : (backTo pos (starEach es X.env)).any (·.1) = false := by rfl) :
    TEv X CL b (.Call (.Name x pp) (e :: es) [] pos) δ (res a) δ1 := fun H Z σ ts vs Q S kk =>
  ofPE (pe_call F hr hg hm hk hb .nil pass0 paS hdb he hpl) (h H Z σ ts vs _ S fun us H1 Z1 z1 k1 S1 r => by
    rw [List.append_nil]
    refine ⟨H1, a, .refl _, fun _ _ q _ => q, r, hn, hp, fun v H' W' fp hh ww wh nw tp rt nd own => ?_⟩
    obtain ⟨Z', z', S'⟩ := S1.back hh S1.zh ww wh nw tp rt nd own (.inr hc)
    exact kk v H' Z' (z1.trans z') (k1.trans hh) S')
end

/-! ### statements -/
variable {D D' : TEnds} {st : Stmt} {sts sts2 : List Stmt}
theorem Meets.to {K : PySem.W.Frag} {Z : Hp} {ts : List T} {vs : List V} {E : Ends} (M : Meets K CL b Z ts vs D E) (h1 : ∀ δ, D'.nx δ → D.nx δ) (h2 : ∀ t, D'.rt t → D.rt t) (h3 : ∀ δ, D'.bk δ → D.bk δ) (h4 : ∀ δ, D'.ct δ → D.ct δ) : Meets K CL b Z ts vs D' E :=
  ⟨fun _ _ _ _ s S k => M.nx _ _ _ _ s S (h1 _ k), fun _ _ _ _ _ _ s S k => M.rt _ _ _ _ _ _ s S (h2 _ k), fun _ _ _ _ s S k => M.bk _ _ _ _ s S (h3 _ k), fun _ _ _ _ s S k => M.ct _ _ _ _ s S (h4 _ k)⟩
theorem tbs_nil (h : D.nx δ) : TBs X CL b [] δ D := fun H Z σ ts vs E S M => ofPB pss_nil (M.nx δ σ H Z (.refl _) S h)
theorem tbs_cons (h : TSv X CL b st δ { D with nx := fun δ1 => TBs X CL b sts δ1 D }) : TBs X CL b (st :: sts) δ D := fun H Z σ ts vs E S M =>
  ofPB (pss_cons psS pbS) (h H Z σ ts vs _ S ⟨fun δ' σ' H' Z' s S' k => k H' Z' σ' ts vs E S' (M.mono s), M.rt, M.bk, M.ct⟩)
theorem ts_ret (h : TEv X CL b e δ t δ1) (k : D.rt t) : TSv X CL b (.Return (some e) pos) δ D := fun H Z σ ts vs E S M => ofPS (ps_ret peS) (h H Z σ ts vs _ S fun v H1 Z1 z1 k1 S1 => M.rt t v H1 Z1 δ1 σ z1 S1 k)
theorem ts_if (h : TTv X CL b e δ p δ1) (h1 : p = true → TBs X CL b sts δ1 D) (h2 : p = false → TBs X CL b sts2 δ1 D) : TSv X CL b (.If e sts sts2 pos) δ D := fun H Z σ ts vs E S M =>
  ofPS (ps_if ptS pbS pbS) (h H Z σ ts vs _ S fun H1 Z1 z1 k1 S1 => by
    cases p with
    | true => exact iteT (h1 rfl H1 Z1 σ ts vs E S1 (M.mono z1))
    | false => exact iteF (h2 rfl H1 Z1 σ ts vs E S1 (M.mono z1)))
theorem ts_set (i : Nat) {x : Str} {pos' : Pos} (h : TEv X CL b e δ t δ1) (k : D.nx (δ1.set i (some t))) (hl : i < δ1.length := by decide) (hN : X.N.Nodup := by assumption) (hi : X.N[i]? = some x := by rfl) (hx : Loc X.env.scope x := by first | exact .inl rfl | exact .inr rfl)
    (hs : swapsWith e (some (.Name x pos')) pos.line X.env = pure false := by rfl) (hf : X.fn x = true ∨ X.env.scope.names.lookup x = some .local := by first | exact .inl rfl | exact .inr rfl | assumption) : TSv X CL b (.Assign [.Name x pos'] e pos) δ D := fun H Z σ ts vs E S M =>
  ofPS (ps_set hN hi hx peS hs hf) (h H Z σ ts vs _ S fun v H1 Z1 z1 k1 S1 => M.nx _ _ H1 Z1 z1 (S1.set hl) k)

/-! ### loops -/
end

/-! ### a def that changes nothing -/
/-- the frame at the entry -/
def entry (N : List Str) (ds : List D) : List (Option T) := ds.map (fun d => some (T.sh d)) ++ List.replicate (N.length - ds.length) none
theorem repE_entry {K : PySem.W.Frag} {CL : Str → Addr} {H Z : Hp} : ∀ {ds : List D} {vs : List V} (n : Nat), RepFs K CL Z ds vs → RepE K CL H Z (ds.map (fun d => some (T.sh d)) ++ List.replicate n none) (vs.map some ++ List.replicate n none) []
  | _, _, 0, .nil => .nil
  | _, _, n + 1, .nil => .skip (repE_entry (ds := []) (vs := []) n .nil)
  | _, _, n, .cons r t => .cons (fp := []) (gp := []) (.sh r) (repE_entry n t)
theorem fn_pure {P : Program} {w : World} {K : PySem.W.Frag} {mg : Str → Option Value} {base : Heap} {CL : Str → Addr} {x qual : Str} {st : Stmt} {f : Addr} {fd : FuncData} {N ps : List Str} {k : Nat} {A : Type} {arg : A → List D} {Pre : A → Prop} {res : A → T} (F : Fun K x qual st f fd) (S : FnScope N ps (defScope st))
    (hb : ∀ (cdv : Value) (Ar : Around) (outer : List Env) (s : Shared) (H : Hp) (E : XK) (b : Bx) (a : A), Room k (Ar.deeper (envOfC qual (defScope st) s.heap.objs.size f cdv)) → Pre a →
      TBs (cxOf CX0 P w K mg base N qual (defScope st) f cdv Ar outer s H E).nox CL b (defBody st) (entry N (arg a)) { nx := fun _ => res a = .sh .non, rt := fun t => t = res a }) :
    FnOk P w K mg base CX0 (k + 1) f fd ps (spA K CL ps.length arg Pre res) := by
  refine F.ok S (fun vs H Q E h => ?_) (fun cdv Ar outer s H vs Q E hr h => ?_)
  · obtain ⟨W, a, _, _, r, hl, _⟩ := h
    rw [← r.length]; exact hl
  · obtain ⟨W, a, wh, tp, r, hl, hp, kk⟩ := h
    refine ⟨_, pbS, hb cdv Ar outer s H E ⟨H, W⟩ a hr hp H W _ [] [] _ ⟨⟨[], [], ?_, .nil, List.nodup_nil, fun a ha => by cases ha⟩, .refl _, .refl _, wh, fun a o q z => ?_, tp⟩ ⟨fun δ' σ' H' Z' s' S' e => ?_, fun t v H' Z' δ' σ' s' S' e => ?_, fun _ _ _ _ _ _ e => e.elim, fun _ _ _ _ _ _ e => e.elim⟩⟩
    · unfold entry L2.start
      rw [← r.length]
      exact repE_entry _ r
    · have q' : W a = some o := q
      have z' : W a = none := z
      rw [q'] at z'; cases z'
    · exact kk .non H' Z' [] S'.bh S'.zz S'.zh S'.new S'.tp (by rw [show res a = .sh .non from e]; exact .sh .non) List.nodup_nil fun a ha => by cases ha
    · have e' : t = res a := e
      subst e'
      obtain ⟨fp, gp, _, r', nd, own⟩ := S'.rep
      cases r' with
      | @cons _ _ _ _ f1 f2 r1 r2 =>
        have h1 := (List.nodup_append.mp nd).2.1
        exact kk v H' Z' f1 S'.bh S'.zz S'.zh S'.new S'.tp r1 (List.nodup_append.mp h1).1 fun a ha => own a (List.mem_append_right _ (List.mem_append_left _ ha))
end L3

namespace L3
open PySem PySem.Spec PyProof.Rows L2

/-! ### a list comprehension -/
section
variable {prog : Program} {w : World} {A : Around} {R : Result → Shared → Prop} {s : Shared}
end

/-- what a comprehension's scope must be: Nc its own name first, then those that it takes from around (ix: their places there) -/
structure CompScope (X : Cx) (scope : Scope) (x : Str) (Nc : List Str) (ix : List Nat) : Prop where
  kind : scope.kind = .function
  nocell : ∀ y ∈ scope.names, y.2 ≠ .cell
  nd : Nc.Nodup
  names : ∀ y ∈ scope.names, y.2 = .local → scope.names.lookup y.1 = some .local
  own : scope.names.lookup x = some .local
  frees : ∀ y ∈ scope.names, y.2 = .free → scope.names.lookup y.1 = some .free ∧ (X.env.kindOf y.1 = some .cell ∨ X.env.kindOf y.1 = some .free)
  hd : Nc = x :: ix.filterMap (X.N[·]?)
  ixs : ∀ i ∈ ix, ∃ y, X.N[i]? = some y ∧ scope.names.lookup y = some .free

section
variable {X : Cx} {scope : Scope} {x : Str} {Nc : List Str} {ix : List Nat} {pins : List (Addr × Obj)} {σ : L2.St} {H : Hp} {s : Shared}
end
end L3

namespace L3
open PySem PySem.Spec PyProof.Rows L2

section
variable {X : Cx} {CL : Str → Addr} {b : Bx} {H Z W1 : Hp} {δ δc : List (Option T)} {σ : L2.St} {ts : List T} {vs us : List V} {ds : List D} {scope : Scope} {Nc : List Str} {ix : List Nat} {elt : Expr} {ifs : List Expr} {p : D → Bool} {g : D → T} {J : It}
end
end L3

namespace L3
open PySem PySem.Spec PyProof.Rows L2
section
variable {K : PySem.W.Frag} {CL : Str → Addr} {b : Bx} {H H' Z Z' : Hp} {δ δ' : List (Option T)} {σ σ' : L2.St} {ts tl : List T} {vs us : List V} {t : T} {v : V}
/-- a place of a row of trees, and all else -/
theorem RepTs.at : ∀ {tl : List T} {us : List V} {fp : List Addr} {j : Nat} {t : T}, RepTs K CL H Z tl us fp → tl[j]? = some t → ∃ v f1 f2 f3, us[j]? = some v ∧ fp = f1 ++ (f2 ++ f3) ∧ RepT K CL H Z t v f2 ∧
    ∀ {H' : Hp} {t' : T} {v' : V} {g : List Addr}, (∀ a ∈ f1 ++ f3, H' a = H a) → RepT K CL H' Z t' v' g → RepTs K CL H' Z (tl.set j t') (us.set j v') (f1 ++ (g ++ f3))
  | _, _, _, _, _, .nil, e => by simp at e
  | _, _, _, 0, _, .cons (fp := fp) (gp := gp) r q, e => by
    simp at e
    subst e
    exact ⟨_, [], fp, gp, rfl, rfl, r, fun {H' t' v' g} k r' => RepTs.cons (fp := g) (gp := gp) r' (RepTs.mono (fp := gp) (.refl _) (fun a ha => k a (by simpa using ha)) q)⟩
  | _, _, _, j + 1, t, .cons (fp := fp) (gp := gp) r q, e => by
    obtain ⟨v, f1, f2, f3, h1, h2, h3, h4⟩ := RepTs.at (j := j) (t := t) q (by simpa using e)
    refine ⟨v, fp ++ f1, f2, f3, by simpa using h1, by rw [h2, List.append_assoc], h3, fun k r' => ?_⟩
    rw [List.append_assoc]
    exact .cons (r.mono (.refl _) fun a ha => k a (by simp [ha])) (h4 (fun a ha => k a (by rw [List.append_assoc]; exact List.mem_append_right _ ha)) r')
theorem set_self {α : Type} {l : List α} {i : Nat} {x : α} (h : l[i]? = some x) : l.set i x = l := by
  apply List.ext_getElem?
  intro j
  rw [List.getElem?_set]
  split
  · rename_i e; subst e
    split
    · exact h.symm
    · rename_i h2; rw [List.getElem?_eq_none (by omega)]
  · rfl
/-- a cell of one's own is written: f2 its tree's footprint, g the new one, out of it, of what stood on the stack, and of nothing else -/
theorem Stt.write {a : Addr} {xs : List V} {f1 f2 f3 g gp gp' : List Addr} {δ2 : List (Option T)} (S : Stt K CL b H Z δ σ ts vs) (nd : ((f1 ++ (f2 ++ f3)) ++ gp).Nodup) (own : ∀ c ∈ (f1 ++ (f2 ++ f3)) ++ gp, Z c = none ∧ b.B c = none) (ha : a ∈ f2)
    (hH : ∃ o, H a = some o) (e' : RepE K CL (upd H a (.lst xs)) Z δ2 σ (f1 ++ (g ++ f3))) (r' : RepTs K CL (upd H a (.lst xs)) Z tl us gp') (pm : ((f1 ++ (g ++ f3)) ++ gp').Nodup) (sub : ∀ c ∈ (f1 ++ (g ++ f3)) ++ gp', c ∈ (f1 ++ (f2 ++ f3)) ++ gp) :
    Stt K CL b (upd H a (.lst xs)) Z δ2 σ tl us := by
  have oa := own a (by simp [ha])
  refine ⟨⟨_, _, e', r', pm, fun c hc => own c (sub c hc)⟩, fun c o q => ?_, S.zz, fun c o q => ?_, S.new, fun c o q i => ?_⟩
  · rw [upd_ne (ne_of_none q oa.2)]; exact S.bh c o q
  · rw [upd_ne (ne_of_none q oa.1)]; exact S.zh c o q
  · by_cases hc : c = a
    · subst hc; rw [upd_same] at q; cases q; cases i
    · rw [upd_ne hc] at q; exact S.tp c o q i
/-- one more at the end of a name's list -/
theorem Stt.append {i : Nat} (S : Stt K CL b H Z δ σ (t :: ts) (v :: vs)) (hi : δ[i]? = some (some (.lst tl))) :
    ∃ a us, σ[i]? = some (some (.ref a)) ∧ H a = some (.lst us) ∧ us.length = tl.length ∧ Stt K CL b (upd H a (.lst (us ++ [v]))) Z (δ.set i (some (.lst (tl ++ [t])))) σ ts vs := by
  obtain ⟨fp, gp, e, r, nd, k⟩ := S.rep
  obtain ⟨v0, f1, f2, f3, hv, hfp, rt, put, _⟩ := e.get hi
  subst hfp
  cases rt with
  | @lst a us _ g ha rs =>
    cases r with
    | @cons _ _ _ _ ft gr q1 q2 =>
      have ne : ∀ c ∈ (f1 ++ (g ++ f3)) ++ (ft ++ gr), c ≠ a := fun c hc e => by
        subst e
        have hp : ((f1 ++ ((c :: g) ++ f3)) ++ (ft ++ gr)).Perm (c :: ((f1 ++ (g ++ f3)) ++ (ft ++ gr))) := by
          rw [List.cons_append, ← List.cons_append]
          exact (List.perm_middle.append_right _)
        exact (List.nodup_cons.mp (hp.nodup_iff.mp nd)).1 hc
      refine ⟨a, us, hv, ha, rs.length.symm, ?_⟩
      have r1 : RepT K CL (upd H a (.lst (us ++ [v]))) Z (.lst (tl ++ [t])) (.ref a) (a :: (g ++ (ft ++ []))) :=
        .lst upd_same (RepTs.app (rs.mono (.refl _) fun c hc => upd_ne (ne c (by simp [hc]))) (.cons (q1.mono (.refl _) fun c hc => upd_ne (ne c (by simp [hc]))) .nil))
      have e2 := put (H' := upd H a (.lst (us ++ [v]))) (.refl _) (fun c hc => upd_ne (ne c (by
        rcases List.mem_append.mp hc with h | h
        · simp [h]
        · simp [h]))) r1
      rw [set_self hv] at e2
      have hp : ((f1 ++ ((a :: (g ++ (ft ++ []))) ++ f3)) ++ gr).Perm ((f1 ++ ((a :: g) ++ f3)) ++ (ft ++ gr)) := by
        simp only [List.append_nil, List.cons_append, List.append_assoc]
        refine List.Perm.append_left f1 (List.Perm.cons a (List.Perm.append_left g ?_))
        rw [← List.append_assoc, ← List.append_assoc]
        exact List.perm_append_comm.append_right gr
      exact S.write nd k (List.mem_cons_self) ⟨_, ha⟩ e2 (q2.mono (.refl _) fun c hc => upd_ne (ne c (by simp [hc]))) (hp.nodup_iff.mpr nd) fun c hc => hp.mem_iff.mp hc
end
section
variable {X : Cx} {CL : Str → Addr} {b : Bx} {δ δ1 δ2 : List (Option T)} {e e2 : Expr} {t : T} {tl tl0 tt tt0 : List T} {D : TEnds} {pos pp pa pb : Pos}
end
end L3

namespace L3
open PySem PySem.Spec PyProof.Rows L2

/-! ### the names that a block takes with it -/
section
variable {K : PySem.W.Frag} {CL : Str → Addr} {b : Bx} {H Z : Hp} {δ : List (Option T)} {σ : L2.St} {ts : List T} {vs : List V}
end

/-! ### the comprehension as an expression, and as what a name gets -/
section
variable {X : Cx} {CL : Str → Addr} {b : Bx} {δ δ1 : List (Option T)} {scope : Scope} {x : Str} {Nc : List Str} {ix : List Nat} {elt iter : Expr} {ifs : List Expr} {px pos : Pos} {ds : List D}
/-- an iterator has come: what it walks stands in W, the state is S -/
structure Comes (X : Cx) (CL : Str → Addr) (b : Bx) (δ1 : List (Option T)) (σ : L2.St) (ts : List T) (vs : List V) (Z H : Hp) (ds : List D) (J : It) (H1 : Hp) : Prop where
  ex : ∃ Z1 us, Same Z Z1 ∧ Same H H1 ∧ Stt X.K CL b H1 Z1 δ1 σ ts vs ∧ RepFs X.K CL Z1 ds us ∧ (∀ i H2, Same Z1 H2 → i < ds.length → J.go i H2) ∧
    (∀ i H2 x H', Same Z1 H2 → i < ds.length → J.yld i H2 x H' → H' = H2 ∧ us[i]? = some x) ∧ (∀ H2, Same Z1 H2 → J.stop ds.length H2)
/-- an iterable of these data -/
def TIt (X : Cx) (CL : Str → Addr) (b : Bx) (tg e : Expr) (δ : List (Option T)) (ds : List D) (δ1 : List (Option T)) : Prop :=
  ∃ wi, PI X tg e wi ∧ ∀ (H Z : Hp) (σ : L2.St) (ts : List T) (vs : List V) (R : It → Hp → Prop), Stt X.K CL b H Z δ σ ts vs → (∀ J H1, Comes X CL b δ1 σ ts vs Z H ds J H1 → R J H1) → wi σ H R
theorem ti_lst {tg : Expr} (h : TEv X CL b iter δ (.sh (.lst ds)) δ1) : TIt X CL b tg iter δ ds δ1 := by
  refine ⟨_, pi_list peS, fun H Z σ ts vs R S k => h H Z σ ts vs _ S fun v H1 Z1 z1 k1 S1 => ?_⟩
  obtain ⟨fp, gp, _, r, _, _⟩ := S1.rep
  cases r with
  | cons r _ =>
    cases r with
    | sh r =>
      cases r with
      | @lst a us _ hq rr =>
        refine ⟨a, rfl, ⟨us, S1.zh.seq hq⟩, k _ _ ⟨Z1, us, z1, k1, S1.pop, rr, fun i H2 s hi => ?_, fun i H2 y H' s hi hy => ⟨hy.1, hy.2 us (s.seq hq)⟩, fun H2 s => ⟨us, s.seq hq, by rw [rr.length]; exact Nat.le_refl _⟩⟩⟩
        have hi' : i < us.length := by rw [← rr.length]; exact hi
        exact ⟨us, us[i], s.seq hq, by simp [hi']⟩
/-- the numbers lo, lo + 1, .. -/
def iotaD (lo : Int) (n : Nat) : List D := (List.range n).map fun (i : Nat) => D.int (lo + i)
theorem iota_rep {K : PySem.W.Frag} {Z : Hp} (lo : Int) (n : Nat) : RepFs K CL Z (iotaD lo n) ((List.range n).map fun (i : Nat) => V.int (lo + i)) := by
  unfold iotaD
  generalize List.range n = l
  induction l with
  | nil => exact .nil
  | cons i r ih => exact .cons (.int _) ih
theorem ti_range {tg : Expr} {pr pc : Pos} {n : Int} (hm : X.mg "range" = none) (h : TBv X CL b iter δ (.int n) δ1) (hn : -(2 ^ 62) ≤ n ∧ n < 2 ^ 62) (hg : Gl X "range") (hst : starEach [iter] X.env = [(false, eval iter X.env)] := by rfl) (hst2 : starEach [iter] X.env = (false, eval iter X.env) :: starEach [] X.env := by exact starOk rfl) :
    TIt X CL b tg (.Call (.Name "range" pr) [iter] [] pc) δ (iotaD 0 n.toNat) δ1 := by
  refine ⟨_, pi_range1 hg hm (pa_cons peS pa_nil hst2) hst, fun H Z σ ts vs R S k => h H Z σ ts vs _ S fun v H1 Z1 z1 k1 S1 r => ⟨n, by rw [r.sc rfl], hn.1, hn.2, k _ _ ⟨Z1, _, z1, k1, S1, iota_rep 0 n.toNat, fun i H2 s hi => ?_, fun i H2 y H' s hi hy => ?_, fun H2 s => ?_⟩⟩⟩
  · show i < n.toNat
    have : (iotaD 0 n.toNat).length = n.toNat := by simp [iotaD]
    omega
  · have hi' : i < n.toNat := by simpa [iotaD] using hi
    refine ⟨hy.1, ?_⟩
    rw [List.getElem?_map, List.getElem?_range hi', hy.2]
    rfl
  · show n.toNat ≤ (iotaD 0 n.toNat).length
    simp [iotaD]
/-- a for over such data -/
theorem ts_for {D : TEnds} {sts : List Stmt} (i : Nat) {pos' : Pos} (P : Nat → List (Option T) → Prop) (h : TIt X CL b (.Name x pos') iter δ ds δ1) (h0 : P 0 δ1) (hl : ∀ j δ, P j δ → i < δ.length)
    (hs : ∀ j d δ, ds[j]? = some d → P j δ → TBs X CL b sts (δ.set i (some (.sh d))) { nx := P (j + 1), rt := D.rt, bk := D.nx, ct := P (j + 1) }) (hd : ∀ δ, P ds.length δ → D.nx δ)
    (hp : PassesOwn (model X.prog X.w) X.A X.env X.xe) (hc : X.calm = true) (hN : X.N.Nodup) (hi : X.N[i]? = some x) (hx : Loc X.env.scope x) (hf : X.fn x = true ∨ X.env.scope.names.lookup x = some .local) (hq : ∀ x, foldedSetIterable iter X.env x = pure x := by intro _; rfl) :
    TSv X CL b (.For (.Name x pos') iter sts [] pos) δ D := fun H Z σ ts vs E S M => by
  obtain ⟨wi, pi, hw⟩ := h
  refine ofPS (ps_for hp hc pi (pg_name hN hi hx hf) pbS hq) (hw H Z σ ts vs _ S fun J H1 ⟨Z1, us, z1, k1, S1, rr, go, yl, st⟩ => ?_)
  refine ⟨fun j m σ H2 => m = ds.length - j ∧ j ≤ ds.length ∧ ∃ Z2 δ2, Same Z1 Z2 ∧ Stt X.K CL b H2 Z2 δ2 σ ts vs ∧ P j δ2, ⟨_, rfl, Nat.zero_le _, Z1, δ1, .refl _, S1, h0⟩, ?_⟩
  rintro j m σ H2 ⟨rfl, hj, Z2, δ2, s, S2, p2⟩
  by_cases hlt : j < ds.length
  · refine .inr ⟨go j H2 (s.trans S2.zh) hlt, fun σ' H' => ∃ Z2 δ2, Same Z1 Z2 ∧ Stt X.K CL b H' Z2 δ2 σ' ts vs ∧ P (j + 1) δ2, fun σ' H' h => ⟨ds.length - (j + 1), by omega, rfl, hlt, h⟩, fun y H' hy => ?_⟩
    obtain ⟨e, hu⟩ := yl j H2 y H' (s.trans S2.zh) hlt hy
    subst e
    obtain ⟨d, hd', rd⟩ := rr.geti hu
    have S3 := (S2.push (rd.mono s)).set (hl j δ2 p2)
    exact hs j d δ2 hd' p2 _ Z2 _ ts vs _ S3 ⟨fun δ' σ' H' Z' s' S' k => ⟨Z', δ', s.trans s', S', k⟩, fun t v H' Z' δ' σ' s' S' k => M.rt t v H' Z' δ' σ' (z1.trans (s.trans s')) S' k, fun δ' σ' H' Z' s' S' k => M.nx δ' σ' H' Z' (z1.trans (s.trans s')) S' k, fun δ' σ' H' Z' s' S' k => ⟨Z', δ', s.trans s', S', k⟩⟩
  · have e : j = ds.length := by omega
    subst e
    exact .inl ⟨st H2 (s.trans S2.zh), M.nx δ2 σ H2 Z2 (z1.trans s) S2 (hd δ2 p2)⟩

variable {p : D → Bool} {g : D → T} {δc : List (Option T)}
end
end L3

namespace L3
open PySem PySem.Spec PyProof.Rows L2
section
variable {X : Cx} {CL : Str → Addr} {b : Bx} {δ δ1 : List (Option T)} {scope : Scope} {x : Str} {Nc : List Str} {ix : List Nat} {elt iter : Expr} {ifs : List Expr} {px pos : Pos} {ds : List D} {p : D → Bool} {g : D → T} {δc : List (Option T)}
/-! ### isinstance -/
def kitB (t n : String) : Option Bool := if (Value.type t == Value.type n) = true then some true else if PySem.W.kitMeta n = true then (fastBuiltinMro t).map (·.contains (.type n)) else none
theorem kitOne_B {K : PySem.W.Frag} {t n : String} : PySem.W.kitOne K (.type t) (.type n) = kitB t n := rfl
theorem kitB_all : (["NoneType", "bool", "int", "str", "list", "tuple"].all fun t => ["int", "str", "list", "tuple", "bool", "dict"].all fun n => kitB t n == some (t == n || (t == "bool" && n == "int"))) = true := by decide +kernel
theorem kitB_ok {t n : String} (ht : t ∈ ["NoneType", "bool", "int", "str", "list", "tuple"]) (hn : n ∈ ["int", "str", "list", "tuple", "bool", "dict"]) : kitB t n = some (t == n || (t == "bool" && n == "int")) := by
  have := kitB_all
  rw [List.all_eq_true] at this
  have h := this t ht
  rw [List.all_eq_true] at h
  simpa using h n hn
def tyD : L3.D → Option String
  | .non => some "NoneType"
  | .bl _ => some "bool"
  | .int _ => some "int"
  | .str _ => some "str"
  | .lst _ => some "list"
  | .tup _ => some "tuple"
  | _ => none
theorem call_isin : CallR X (.builtin "isinstance") (fun xs H Q => ∃ y n d t, xs = [y, .ty n] ∧ RepF X.K CL H d y ∧ tyD d = some t ∧ n ∈ ["int", "str", "list", "tuple", "bool", "dict"] ∧ Q (.bl (t == n || (t == "bool" && n == "int"))) H) := by
  intro pins s σ H xs us Q I r h
  obtain ⟨y, n, d, t, rfl, rd, ht, hn, q⟩ := h
  obtain ⟨u, u2, rfl, ru, ru2⟩ := r.two
  cases (show u2 = Value.type n from ru2)
  have fin : ∀ tk, EP X pins σ Q (.bool (t == n || (t == "bool" && n == "int"))) { s with toks := tk } := fun tk => ⟨.bl _, H, I.tok tk, rfl, q⟩
  cases rd with
  | non => cases ht; cases (show u = Value.none from ru); exact PySem.W.kia_one PySem.W.kitx_none I.kIn True.intro (kitOne_B.trans (kitB_ok (by decide) hn)) (fun z => nomatch z) fin
  | bl c => cases ht; cases (show u = Value.bool c from ru); exact PySem.W.kia_one PySem.W.kitx_bool I.kIn True.intro (kitOne_B.trans (kitB_ok (by decide) hn)) (fun z => nomatch z) fin
  | int c => cases ht; obtain ⟨tt, e⟩ := (show ∃ t, u = Value.int c t from ru); cases e; exact PySem.W.kia_one PySem.W.kitx_int I.kIn True.intro (kitOne_B.trans (kitB_ok (by decide) hn)) (fun z => nomatch z) fin
  | str c => cases ht; obtain ⟨tt, e⟩ := (show ∃ t, u = Value.str c t from ru); cases e; exact PySem.W.kia_one PySem.W.kitx_str I.kIn True.intro (kitOne_B.trans (kitB_ok (by decide) hn)) (fun z => nomatch z) fin
  | @lst a ws _ hq rr =>
    cases ht
    cases (show u = Value.ref a from ru)
    obtain ⟨its, _, pl, _⟩ := I.list hq
    obtain ⟨o, n', e, c, _⟩ := pl
    exact PySem.W.kia_one PySem.W.kitx_list I.kIn ⟨o, e, c⟩ (kitOne_B.trans (kitB_ok (by decide) hn)) (fun z => nomatch z) fin
  | @tup a ws _ hq rr =>
    cases ht
    cases (show u = Value.ref a from ru)
    obtain ⟨its, _, pl, _⟩ := I.tuple hq
    obtain ⟨o, e, c, _⟩ := pl
    exact PySem.W.kia_one PySem.W.kitx_tuple I.kIn ⟨o, e, c⟩ (kitOne_B.trans (kitB_ok (by decide) hn)) (fun z => nomatch z) fin
  | ins _ _ => cases ht
  | any _ => cases ht
theorem te_isin {e : Expr} {d : L3.D} {t n : String} {nm : Str} {pp pq : Pos} (hm : X.mg "isinstance" = none) (hmn : X.mg nm = none) (hg : Gl X "isinstance") (hgn : Gl X nm) (hbn : bootBuiltins nm = some (.type n)) (hnm : nm ≠ "__name__") (hnd : (nm == ("__debug__" : Str)) = false) (h : TBv X CL b e δ d δ1) (ht : tyD d = some t) (hn : n ∈ ["int", "str", "list", "tuple", "bool", "dict"])
    (hs : starEach [e, .Name nm pq] X.env = (false, eval e X.env) :: starEach [.Name nm pq] X.env := by exact starOk rfl) :
    TEv X CL b (.Call (.Name "isinstance" pp) [e, .Name nm pq] [] pos) δ (.sh (.bl (t == n || (t == "bool" && n == "int")))) δ1 := fun H Z σ ts vs Q S k =>
  ofPE (pe_callB (call_isin (CL := CL)) hg hm boot_isinstance (pa_cons peS (pa_cons (pe_bltn hgn hmn hbn (v := .ty n) rfl hnm hnd) pa_nil) hs) (he := hs)) (h H Z σ ts vs _ S fun v H1 Z1 z1 k1 S1 r =>
    ⟨v, n, d, t, rfl, r, ht, hn, k _ H1 Z1 z1 k1 (S1.push (.bl _))⟩)
end
end L3

namespace L3
open PySem PySem.Spec PyProof.Rows L2
theorem small_len {n : Nat} (h : Nat.ble n 1000 = true) : n ≤ sizeLine := Nat.le_of_lt (small1000 (Nat.le_of_ble_eq_true h))
/-- the name x stands in the i-th slot -/
structure Vn (X : Cx) (i : Nat) (x : Str) : Prop where
  hi : X.N[i]? = some x
  hv : Vis X.env.scope x
  hd : (x == ("__debug__" : Str)) = false
  hcd : (x == ("__classdict__" : Str)) = false
/-- .. and may be stored into -/
structure Ln (X : Cx) (i : Nat) (x : Str) : Prop extends Vn X i x where
  loc : Loc X.env.scope x
  hf : X.fn x = true ∨ X.env.scope.names.lookup x = some .local
structure Gx (X : Cx) : Prop where
  nd : X.N.Nodup
  calm : X.calm = true
  xe : X.xe = fun _ _ => False
/-- a def of the text that keeps its promise -/
structure Fc (X : Cx) (CL : Str → Addr) (x : Str) (k n : Nat) {A : Type} (arg : A → List D) (Pre : A → Prop) (res : A → T) : Prop where
  ex : ∃ f fd ps, FnOk X.prog X.w X.K X.mg X.base CX0 k f fd ps (spA X.K CL n arg Pre res) ∧ X.mg x = some (.ref f) ∧ PySem.W.keepIn X.K (.ref f) = true ∧ Binds X.K fd ps []
  room : Room k X.A
section
variable {X : Cx} {CL : Str → Addr} {b : Bx} {δ δ1 δ2 : List (Option T)} {e e1 e2 : Expr} {es : List Expr} {d : L3.D} {t : T} {i : Nat} {x : Str} {pos pp : Pos} {D : TEnds} {sts : List Stmt} {ds : List L3.D}
theorem v_ (n : Vn X i x) (h : δ[i]? = some (some (.sh d)) := by rfl) : TEv X CL b (.Name x pos) δ (.sh d) δ := te_var i n.hi n.hv n.hd n.hcd h
theorem te_neg {k : Int} (h : TBv X CL b e δ (.int k) δ1) : TEv X CL b (.UnaryOp .USub e pos) δ (.sh (.int (-k))) δ1 := fun H Z σ ts vs Q S kk =>
  ofPE (pe_un un_neg peS) (h H Z σ ts vs _ S fun v H1 Z1 z1 k1 S1 r => ⟨k, r.sc rfl, kk _ H1 Z1 z1 k1 (S1.push (.int _))⟩)
/-- a call -/
theorem c_ {k n : Nat} {A : Type} {arg : A → List L3.D} {Pre : A → Prop} {res : A → T} (a : A) (F : Fc X CL x k n arg Pre res) (hg : Gl X x) (h : BAv X CL b (e :: es) δ (arg a) δ1) (hp : Pre a) (hc : (res a).clean = true) (hn : (arg a).length = n := by rfl)
    (hdb : (x == ("__debug__" : Str)) = false := by decide) (he : starEach (e :: es) X.env = (false, eval e X.env) :: starEach es X.env := by exact starOk rfl) (hpl : (backTo pos (starEach es X.env)).any (·.1) = false := by rfl) :
    TEv X CL b (.Call (.Name x pp) (e :: es) [] pos) δ (res a) δ1 := by
  obtain ⟨f, fd, ps, F1, m, k, b⟩ := F.ex
  exact te_call a F1 F.room m k b h hn hp hc hg hdb he hpl
/-- x = e; rest -/
theorem s_set {pos' : Pos} (g : Gx X) (n : Ln X i x) (h : TEv X CL b e δ t δ1) (k : TBs X CL b sts (δ1.set i (some t)) D) (hl : i < δ1.length := by exact Nat.le_of_ble_eq_true rfl) (hs : swapsWith e (some (.Name x pos')) pos.line X.env = pure false := by rfl) :
    TBs X CL b (.Assign [.Name x pos'] e pos :: sts) δ D := tbs_cons (ts_set i h k hl g.nd n.hi n.loc hs n.hf)
/-- return e -/
theorem s_ret (h : TEv X CL b e δ t δ1) (k : D.rt t) : TBs X CL b (.Return (some e) pos :: sts) δ D := tbs_cons (ts_ret h k)
theorem s_if {p : Bool} {a c : List Stmt} (h : TTv X CL b e δ p δ1) (h1 : p = true → TBs X CL b a δ1 { D with nx := fun δ2 => TBs X CL b sts δ2 D }) (h2 : p = false → TBs X CL b c δ1 { D with nx := fun δ2 => TBs X CL b sts δ2 D }) : TBs X CL b (.If e a c pos :: sts) δ D := tbs_cons (ts_if h h1 h2)
theorem TBs.to {D' : TEnds} (h : TBs X CL b sts δ D') (h1 : ∀ δ, D'.nx δ → D.nx δ) (h2 : ∀ t, D'.rt t → D.rt t) (h3 : ∀ δ, D'.bk δ → D.bk δ) (h4 : ∀ δ, D'.ct δ → D.ct δ) : TBs X CL b sts δ D := fun H Z σ ts vs E S M => h H Z σ ts vs E S (M.to h1 h2 h3 h4)
/-- an if whose ways meet again: J holds behind it -/
theorem s_ifJ {p : Bool} {a c : List Stmt} (J : List (Option T) → Prop) (h : TTv X CL b e δ p δ1) (h1 : p = true → TBs X CL b a δ1 { D with nx := J }) (h2 : p = false → TBs X CL b c δ1 { D with nx := J }) (k : ∀ δ2, J δ2 → TBs X CL b sts δ2 D) : TBs X CL b (.If e a c pos :: sts) δ D :=
  s_if h (fun hp => TBs.to (h1 hp) k (fun _ q => q) (fun _ q => q) (fun _ q => q)) (fun hp => TBs.to (h2 hp) k (fun _ q => q) (fun _ q => q) (fun _ q => q))
theorem s_for {body : List Stmt} {pos' : Pos} (g : Gx X) (n : Ln X i x) (P : Nat → List (Option T) → Prop) (h : TIt X CL b (.Name x pos') e δ ds δ1) (h0 : P 0 δ1) (hl : ∀ j δ, P j δ → i < δ.length)
    (hs : ∀ j d δ, ds[j]? = some d → P j δ → TBs X CL b body (δ.set i (some (.sh d))) { nx := P (j + 1), rt := D.rt, bk := fun δ2 => TBs X CL b sts δ2 D, ct := P (j + 1) }) (hd : ∀ δ, P ds.length δ → TBs X CL b sts δ D) (hq : ∀ x, foldedSetIterable e X.env x = pure x := by intro _; rfl) :
    TBs X CL b (.For (.Name x pos') e body [] pos :: sts) δ D :=
  tbs_cons (ts_for (D := { D with nx := fun δ1 => TBs X CL b sts δ1 D }) i P h h0 hl hs hd (by rw [g.xe]; exact PassesOwn.never) g.calm g.nd n.hi n.loc n.hf hq)
end
section
variable {X : Cx} {CL : Str → Addr} {b : Bx} {δ δ1 δ2 : List (Option T)} {e e1 e2 : Expr} {es : List Expr} {ds : List L3.D} {pos : Pos}
theorem tc_neB {i j : Bool} (h1 : TBv X CL b e1 δ (.bl i) δ1) (h2 : TBv X CL b e2 δ1 (.bl j) δ2) : TTv X CL b (.Compare e1 [.NotEq] [e2] pos) δ (!decide (i = j)) δ2 ∧ TEv X CL b (.Compare e1 [.NotEq] [e2] pos) δ (.sh (.bl (!decide (i = j)))) δ2 :=
  tc_op op_ne h1 h2 rfl rfl (fun _ _ q => ⟨rfl, by rw [show decide (V.bl i = V.bl j) = decide (i = j) by simp]; exact q⟩) (nomark _)
end
/-! ### isinstance by the class's name -/
section
variable {X : Cx} {CL : Str → Addr} {b : Bx} {δ δ1 : List (Option T)} {e : Expr} {d : L3.D} {t : String} {pos pp pq : Pos}
theorem boot_bool' : bootBuiltins "bool" = some (.type "bool") := by decide +kernel
theorem isB (hm : X.mg "isinstance" = none) (hmn : X.mg "bool" = none) (hg : Gl X "isinstance") (hgn : Gl X "bool") (h : TBv X CL b e δ d δ1) (ht : tyD d = some t := by rfl) (hs : starEach [e, .Name "bool" pq] X.env = (false, eval e X.env) :: starEach [.Name "bool" pq] X.env := by exact starOk rfl) :
    TEv X CL b (.Call (.Name "isinstance" pp) [e, .Name "bool" pq] [] pos) δ (.sh (.bl (t == "bool" || (t == "bool" && "bool" == "int")))) δ1 := te_isin hm hmn hg hgn boot_bool' (by decide) (by decide) h ht (by decide) hs
end
/-! ### what a scope says -/
def chk (sc : Scope) (l : List (Str × NameKind)) : Bool := l.all fun p => sc.names.lookup p.1 == some p.2
theorem chk_get {sc : Scope} {l : List (Str × NameKind)} (h : chk sc l = true) (i : Nat) {x : Str} {k : NameKind} (hi : l[i]? = some (x, k)) : sc.names.lookup x = some k := by
  unfold chk at h
  rw [List.all_eq_true] at h
  exact beq_iff_eq.mp (h _ (List.mem_of_getElem? hi))
/-- the names that a comprehension takes from around, by their places there -/
inductive Caps (X : Cx) : List Nat → List Str → Prop where
  | nil : Caps X [] []
  | cons {i : Nat} {y : Str} {ix : List Nat} {ys : List Str} (n : Vn X i y) (k : X.env.kindOf y = some .cell ∨ X.env.kindOf y = some .free) (r : Caps X ix ys) : Caps X (i :: ix) (y :: ys)
theorem imms_int : ∀ (bs : List Int), D.imms (bs.map D.int) = true
  | [] => rfl
  | i :: r => by rw [List.map_cons, D.imms, imms_int r]; rfl
theorem iota_get {lo : Int} {n j : Nat} {d : D} (h : (iotaD lo n)[j]? = some d) : d = .int (lo + j) ∧ j < n := by
  have hl : j < n := by
    have := (List.getElem?_eq_some_iff.mp h).1
    simpa [iotaD] using this
  refine ⟨?_, hl⟩
  unfold iotaD at h
  rw [List.getElem?_map, List.getElem?_range hl] at h
  exact (Option.some.inj h).symm
/-- the law: a list of at most 63 ints comes in, True comes out -/
theorem rep_ints {K : PySem.W.Frag} {CL : Str → Addr} {Z : Hp} : ∀ (ns : List Int), RepFs K CL Z (ns.map D.int) (ns.map V.int)
  | [] => .nil
  | n :: r => .cons (.int n) (rep_ints r)
theorem law_sp {K : PySem.W.Frag} {CL : Str → Addr} {H : Hp} {a : Addr} {arg : List Int → List D} {pre : List Int → Prop} {res : List Int → T} {ns : List Int} (ha : arg ns = [.lst (ns.map D.int)]) (hp : pre ns) (hr : res ns = .sh (.bl true)) (hS : SqL K H a (ns.map V.int)) :
    spA K CL 1 arg pre res [.ref a] H (fun v _ => v = .bl true) fun _ _ _ => False :=
  ⟨H, ns, .refl _, fun _ _ q _ => q, by rw [ha]; exact .cons (.lst hS (rep_ints ns)) .nil, by rw [ha]; rfl, hp, fun v H' W' fp _ _ _ _ _ r _ _ => by
    rw [hr] at r
    cases r with
    | sh r => exact r.sc rfl⟩
end L3

namespace L3
open PySem PySem.Spec PyProof.Rows L2
mutual
def D.toPy : D → PyData
  | .non => .none
  | .bl b => .bool b
  | .int i => .int i
  | .str x => .str x
  | .tup ds => .tuple (D.toPys ds)
  | .lst ds => .list (D.toPys ds)
  | .ins _ _ => .none
  | .any => .none
def D.toPys : List D → List PyData
  | [] => []
  | d :: ds => d.toPy :: D.toPys ds
end
/-- plain data, at most n deep -/
inductive Dep : Nat → D → Prop where
  | non (n : Nat) : Dep n .non
  | bl (n : Nat) (b : Bool) : Dep n (.bl b)
  | int (n : Nat) (i : Int) : Dep n (.int i)
  | str (n : Nat) (x : Str) (h : PyData.strOk x = true) : Dep n (.str x)
  | tup {n : Nat} {ds : List D} (h : ∀ d ∈ ds, Dep n d) : Dep (n + 1) (.tup ds)
  | lst {n : Nat} {ds : List D} (h : ∀ d ∈ ds, Dep n d) : Dep (n + 1) (.lst ds)
theorem Dep.alls {n : Nat} : ∀ {ds : List D}, (∀ d ∈ ds, d.toPy.canLay0 = true ∧ d.toPy.depth ≤ n) → PyData.canLayAll0 (D.toPys ds) = true ∧ PyData.depthAll (D.toPys ds) ≤ n
  | [], _ => ⟨by rw [D.toPys, PyData.canLayAll0], by rw [D.toPys, PyData.depthAll]; exact Nat.zero_le _⟩
  | d :: ds, h => by
    have h1 := h d List.mem_cons_self
    have h2 := Dep.alls (ds := ds) fun e he => h e (List.mem_cons_of_mem _ he)
    rw [D.toPys, PyData.canLayAll0, PyData.depthAll, h1.1, h2.1]
    exact ⟨rfl, Nat.max_le.mpr ⟨h1.2, h2.2⟩⟩
theorem Dep.lay {n : Nat} {d : D} (h : Dep n d) : d.toPy.canLay0 = true ∧ d.toPy.depth ≤ n := by
  induction h with
  | non n => exact ⟨by rw [D.toPy, PyData.canLay0], by rw [D.toPy, PyData.depth]; exact Nat.zero_le _⟩
  | bl n b => exact ⟨by rw [D.toPy, PyData.canLay0], by rw [D.toPy, PyData.depth]; exact Nat.zero_le _⟩
  | int n i => exact ⟨by rw [D.toPy, PyData.canLay0], by rw [D.toPy, PyData.depth]; exact Nat.zero_le _⟩
  | str n x hx => exact ⟨by rw [D.toPy, PyData.canLay0]; exact hx, by rw [D.toPy, PyData.depth]; exact Nat.zero_le _⟩
  | @tup n ds _ ih =>
    have := Dep.alls ih
    rw [D.toPy, PyData.canLay0, PyData.depth]
    exact ⟨this.1, by omega⟩
  | @lst n ds _ ih =>
    have := Dep.alls ih
    rw [D.toPy, PyData.canLay0, PyData.depth]
    exact ⟨this.1, by omega⟩
section
variable {X : Cx} {CL : Str → Addr} {pins : List (Addr × Obj)} {σ : L2.St} {H : Hp} {s : Shared}
mutual
theorem reads (I : L2.Inv X pins σ H s) : ∀ {d : D} {v : V} {u : Value}, d.toPy.canLay0 = true → (∀ c fs, d ≠ .ins c fs) → d ≠ .any → RepF X.K CL H d v → RelV v u → (∀ n, Dep n d → ∃ as, Reads s.heap u d.toPy as)
  | _, _, _, _, _, _, .non, r => fun _ _ => by cases r; rw [D.toPy]; exact ⟨[], .none⟩
  | _, _, _, _, _, _, .bl b, r => fun _ _ => by cases r; rw [D.toPy]; exact ⟨[], .bool b⟩
  | _, _, _, _, _, _, .int i, r => fun _ _ => by obtain ⟨t, rfl⟩ := r; rw [D.toPy]; exact ⟨[], .int i t⟩
  | _, _, _, _, _, _, .str x, r => fun _ _ => by obtain ⟨t, rfl⟩ := r; rw [D.toPy]; exact ⟨[], .str x t⟩
  | _, _, _, _, _, h, .any _, r => absurd rfl h
  | _, _, _, _, h, _, .ins _ _, r => absurd rfl (h _ _)
  | _, _, _, hc, _, _, .tup (a := a) hq rr, r => fun n hd => by
    cases hd with
    | tup hd =>
      cases r
      obtain ⟨its, rv, ⟨o, e, c, k, dt⟩, _⟩ := I.tuple hq
      obtain ⟨as, ra⟩ := readsAll I hd rr rv
      rw [D.toPy]
      exact ⟨as, .tuple e c dt (by simpa using ra)⟩
  | _, _, _, hc, _, _, .lst (a := a) hq rr, r => fun n hd => by
    cases hd with
    | lst hd =>
      cases r
      obtain ⟨its, rv, ⟨o, k, e, c, _, dt⟩, _⟩ := I.list hq
      obtain ⟨as, ra⟩ := readsAll I hd rr rv
      rw [D.toPy]
      exact ⟨_, .list e c dt (by simpa using ra)⟩
theorem readsAll (I : L2.Inv X pins σ H s) : ∀ {n : Nat} {ds : List D} {vs : List V} {us : List Value}, (∀ d ∈ ds, Dep n d) → RepFs X.K CL H ds vs → Vals vs us → ∃ as, ReadsAll s.heap us (D.toPys ds) as
  | _, _, _, _, _, .nil, r => by cases r; rw [D.toPys]; exact ⟨[], .nil⟩
  | n, d :: _, _, _, h, .cons q qs, r => by
    cases r with
    | cons r rs =>
      have hd := h d List.mem_cons_self
      obtain ⟨as, ra⟩ := reads I hd.lay.1 (fun c fs e => by subst e; cases hd) (fun e => by subst e; cases hd) q r n hd
      obtain ⟨bs, rb⟩ := readsAll I (fun e he => h e (List.mem_cons_of_mem _ he)) qs rs
      rw [D.toPys]
      exact ⟨as ++ bs, .cons ra rb⟩
end
end
section
variable {X : Cx} {CL : Str → Addr} {b : Bx} {δ δ1 δ2 δ3 : List (Option T)} {e e1 e2 e3 : Expr} {d1 d2 : D} {ds : List D} {pos p2 pp : Pos} {n m : Nat} {i : Nat} {x : Str} {t : T} {sts : List Stmt} {DD : TEnds}
/-! ### slices -/
theorem RepFs.drop {K : PySem.W.Frag} {Z : Hp} : ∀ {ds : List L3.D} {vs : List V} (n : Nat), RepFs K CL Z ds vs → RepFs K CL Z (ds.drop n) (vs.drop n)
  | _, _, 0, r => r
  | _, _, _ + 1, .nil => .nil
  | _, _, n + 1, .cons _ t => RepFs.drop n t
theorem RepFs.take {K : PySem.W.Frag} {Z : Hp} : ∀ {ds : List L3.D} {vs : List V} (n : Nat), RepFs K CL Z ds vs → RepFs K CL Z (ds.take n) (vs.take n)
  | _, _, 0, _ => .nil
  | _, _, _ + 1, .nil => .nil
  | _, _, n + 1, .cons r t => .cons r (RepFs.take n t)
/-- a slice's end -/
def TOv (X : Cx) (CL : Str → Addr) (b : Bx) (e : Option Expr) (δ : List (Option T)) (k : Option Int) (δ' : List (Option T)) : Prop :=
  ∃ t, PO X e t ∧ ∀ (H Z : Hp) (σ : L2.St) (ts : List T) (vs : List V) (Q : Option Int → Hp → Prop), Stt X.K CL b H Z δ σ ts vs → (∀ H' Z', Same Z Z' → Same H H' → Stt X.K CL b H' Z' δ' σ ts vs → Q k H') → t σ H Q
theorem to_none : TOv X CL b none δ none δ := ⟨_, po_none, fun H Z σ ts vs Q S k => k H Z (.refl _) (.refl _) S⟩
theorem to_some {k : Int} (h : TBv X CL b e δ (.int k) δ1) : TOv X CL b (some e) δ (some k) δ1 := ⟨_, po_some peS, fun H Z σ ts vs Q S kk => h H Z σ ts vs _ S fun v H1 Z1 z1 k1 S1 r => ⟨k, r.sc rfl, kk H1 Z1 z1 k1 S1⟩⟩
/-- a list just made, seen -/
theorem tb_lst (h : TEv X CL b e δ (.lst (ds.map T.sh)) δ1) : TBv X CL b e δ (.lst ds) δ1 := by
  have := tb_of h
  rwa [T.frz, frzs_sh] at this
end
theorem at_map {α : Type} {f : α → D} {l : List α} {k : Int} (z : α) (h0 : 0 ≤ k) (h1 : k < l.length) : atI (l.map f) k = some (f (l.getD k.toNat z)) := by
  obtain ⟨j, rfl⟩ : ∃ j : Nat, k = j := ⟨k.toNat, by omega⟩
  refine atI_nat ?_
  have hl : j < l.length := by omega
  rw [List.getElem?_map, List.getElem?_eq_getElem hl]
  simp [List.getD, hl]
end L3

namespace L3
open PySem PySem.Spec PyProof.Rows L2
section
variable {X : Cx} {CL : Str → Addr} {b : Bx} {δ δ1 δ2 δ3 : List (Option T)} {e e1 e2 e3 : Expr} {es : List Expr} {d d1 d2 : D} {ds : List D} {pos p2 pp : Pos} {n m : Nat} {i : Nat} {x : Str} {t : T} {sts : List Stmt} {DD : TEnds}
/-- a number of the file's top -/
theorem te_glob {k : Int} {u : Tok} (hm : X.mg x = some (.int k u)) (hg : Gl X x) (hd : (x == ("__debug__" : Str)) = false := by decide) : TEv X CL b (.Name x pos) δ (.sh (.int k)) δ := fun H Z σ ts vs Q S kk =>
  ofPE (pe_glob (v := .int k) hg hm ⟨u, rfl⟩ hd) (kk _ H Z (.refl _) (.refl _) (S.push (.int k)))
theorem te_globE {k : Int} (hm : ∃ u, X.mg x = some (.int k u)) (hg : Gl X x) (hd : (x == ("__debug__" : Str)) = false := by decide) : TEv X CL b (.Name x pos) δ (.sh (.int k)) δ := by
  obtain ⟨u, hm⟩ := hm
  exact te_glob hm hg hd
theorem inV_str (x : Str) : ∀ l : List Str, inV (.str x) (l.map V.str) = decide (x ∈ l)
  | [] => by simp [inV]
  | y :: l => by
    have ih := inV_str x l
    unfold inV at ih ⊢
    rw [List.map_cons, List.any_cons, ih]
    by_cases h : y = x
    · subst h; simp [eqV]
    · have h' : ¬ x = y := fun e => h e.symm
      simp [eqV, h, h']
theorem RepFs.strs {K : PySem.W.Frag} {Z : Hp} : ∀ {l : List Str} {vs : List V}, RepFs K CL Z (l.map D.str) vs → vs = l.map V.str
  | [], _, r => by
    have r' : RepFs K CL Z [] _ := r
    cases r'; rfl
  | y :: l, _, r => by
    have r' : RepFs K CL Z (D.str y :: l.map D.str) _ := r
    cases r' with
    | cons r1 r2 => rw [r1.sc rfl, RepFs.strs r2]; rfl
theorem all_flat_str : ∀ l : List Str, (l.map V.str).all flatV = true
  | [] => rfl
  | y :: l => by rw [List.map_cons, List.all_cons, all_flat_str l]; rfl
end
theorem at_get {α : Type} {l : List α} {k : Int} (z : α) (h0 : 0 ≤ k) (h1 : k < l.length) : atI l k = some (l.getD k.toNat z) := by
  obtain ⟨j, rfl⟩ : ∃ j : Nat, k = j := ⟨k.toNat, by omega⟩
  refine atI_nat ?_
  have hl : j < l.length := by omega
  rw [List.getElem?_eq_getElem hl]
  simp [List.getD, hl]
theorem str_len (x y : Str) : (x ++ y).length = x.length + y.length := by
  show (x.cps ++ y.cps).size = _
  rw [Array.size_append]; rfl
end L3

namespace L3
open PySem PySem.Spec PyProof.Rows L2
/-! ### reversed(xs), walked -/
section
variable {X : Cx} {tg : Expr}
end
section
variable {X : Cx} {CL : Str → Addr} {b : Bx} {δ δ1 : List (Option T)} {e : Expr} {ds : List D} {tg : Expr} {pr pc : Pos}
end
/-! ### a part of a name's tuple is handed over -/
section
variable {K : PySem.W.Frag} {CL : Str → Addr} {b : Bx} {H Z : Hp} {δ : List (Option T)} {σ : L2.St} {ts tt : List T} {vs : List V} {t : T}
end
section
variable {X : Cx} {CL : Str → Addr} {b : Bx} {δ : List (Option T)} {tt : List T} {t : T} {i : Nat} {x : Str} {pp pc ps : Pos} {kj : Nat}
end
section
variable {X : Cx} {CL : Str → Addr} {b : Bx} {δ δ1 : List (Option T)} {e : Expr} {ds : List D} {t : T} {i : Nat} {x : Str} {pos pp p2 : Pos} {kj : Nat}
end
end L3

namespace L3
open PySem PySem.Spec PyProof.Rows L2
section
variable {K : PySem.W.Frag} {CL : Str → Addr} {b : Bx} {H H' Z Z' : Hp} {δ δ' : List (Option T)} {σ σ' : L2.St} {ts tl : List T} {vs us : List V} {t : T} {v : V}
theorem RepFf.get : ∀ {fs : List (Str × D)} {gs : List (Str × V)} {f : Str} {d : D}, RepFf K CL Z fs gs → fs.lookup f = some d → ∃ v, gs.lookup f = some v ∧ RepF K CL Z d v
  | _, _, _, _, .nil, e => by simp at e
  | _, _, f, d, .cons (x := x) r t, e => by
    rw [List.lookup_cons] at e ⊢
    cases h : f == x with
    | true => rw [h] at e; cases e; exact ⟨_, rfl, r⟩
    | false => rw [h] at e; exact RepFf.get t e
/-- a tree put at an attribute -/
def putT (f : Str) (t : T) : List (Str × T) → List (Str × T)
  | [] => [(f, t)]
  | (g, x) :: r => if g = f then (g, t) :: r else (g, x) :: putT f t r
theorem RepTf.length : ∀ {fs : List (Str × T)} {gs : List (Str × V)} {fp : List Addr}, RepTf K CL H Z fs gs fp → fs.length = gs.length
  | _, _, _, .nil => rfl
  | _, _, _, .cons _ r => by rw [List.length_cons, List.length_cons, RepTf.length r]
theorem RepTf.put {f : Str} {g : List Addr} (q : RepT K CL H Z t v g) : ∀ {fs : List (Str × T)} {gs : List (Str × V)} {fp : List Addr}, RepTf K CL H Z fs gs fp →
    ∃ fp' f', RepTf K CL H Z (putT f t fs) (putF f v gs) fp' ∧ f'.Sublist fp ∧ fp'.Perm (g ++ f')
  | _, _, _, .nil => ⟨g ++ [], [], .cons q .nil, List.Sublist.refl _, List.Perm.refl _⟩
  | _, _, _, .cons (x := x) (fp := fp) (gp := gp) r rs => by
    rw [putT, putF]
    by_cases h : x = f
    · rw [if_pos h, if_pos h]
      exact ⟨g ++ gp, gp, .cons q rs, List.sublist_append_right _ _, List.Perm.refl _⟩
    · rw [if_neg h, if_neg h]
      obtain ⟨p, p', h1, h2, h3⟩ := RepTf.put (f := f) q rs
      refine ⟨fp ++ p, fp ++ p', .cons r h1, List.Sublist.append (List.Sublist.refl _) h2, (List.Perm.append_left fp h3).trans ?_⟩
      rw [← List.append_assoc, ← List.append_assoc]
      exact List.perm_append_comm.append_right p'
end
section
variable {X : Cx} {CL : Str → Addr} {b : Bx} {δ δ1 δ2 : List (Option T)} {e : Expr} {es : List Expr} {t : T} {d : D} {c f x : Str} {fs : List (Str × D)} {pos pp : Pos} {DD : TEnds} {i : Nat}
end

/-! ### instances made -/
/-- __init__'s promise: x is new, and of the class c without attributes -/
def spI (K : PySem.W.Frag) (CL : Str → Addr) {A : Type} (c : Str) (n : Nat) (arg : A → List D) (Pre : A → Prop) (res : A → List (Str × T)) : Sp := fun vs H Q _ =>
  ∃ (W H0 : Hp) (a : A) (x dx : Addr) (us : List V), vs = .ref x :: us ∧ H0 x = none ∧ H0 dx = none ∧ dx ≠ x ∧ H = upd (upd H0 dx (.own x)) x (.ins (CL c) dx []) ∧
    Same W H0 ∧ (∀ c o, H0 c = some o → immO o = true → W c = some o) ∧ RepFs K CL W (arg a) us ∧ (arg a).length + 1 = n ∧ Pre a ∧
    ∀ H' W' fp, Same H0 H' → Same W W' → Same W' H' → (∀ c o, W' c = some o → W c = none → H0 c = none) → (∀ c o, H' c = some o → immO o = true → W' c = some o) →
      RepT K CL H' W' (.ins c (res a)) (.ref x) fp → fp.Nodup → (∀ c ∈ fp, W' c = none ∧ H0 c = none) → Q .non H'
section
variable {X : Cx} {CL : Str → Addr} {b : Bx} {δ δ1 δ2 : List (Option T)} {e o : Expr} {es : List Expr} {pos pp apos : Pos}
variable {A : Type} {k n : Nat} {f : Addr} {fd : FuncData} {ps : List Str} {arg : A → List D} {Pre : A → Prop} {x c m : Str}
end
end L3

namespace L3
open PySem PySem.Spec PyProof.Rows L2
section
variable {X : Cx} {CL : Str → Addr} {b : Bx} {δ δ1 δ2 : List (Option T)} {e e1 e2 : Expr} {es : List Expr} {t : T} {d : D} {ds ds2 : List D} {x : Str} {pos pp : Pos} {DD : TEnds} {i : Nat} {sts body : List Stmt}
/-- a + b of two lists, however they stand -/
def rCatS (K : PySem.W.Frag) : R2 := fun x y H Q => ∃ l b xs zs, x = .ref l ∧ y = .ref b ∧ SqL K H l xs ∧ SqL K H b zs ∧ xs.length + zs.length ≤ sizeLine ∧ ∀ p, H p = none → Q (.ref p) (upd H p (.lst (xs ++ zs)))
theorem op_catS : OpR X (binaryOp .Add) (rCatS X.K) := by
  intro pins s σ H x y v u Q I rx ry h
  obtain ⟨l, b, xs, zs, rfl, rfl, hH, hB, hz, q⟩ := h
  cases rx
  cases ry
  obtain ⟨its, r, pl, _⟩ := I.list hH
  obtain ⟨its2, r2, pl2, _⟩ := I.list hB
  have e1 := r.length
  have e2 := r2.length
  obtain ⟨⟨c1, dd, da1, sl⟩, ho, hc, n, hd⟩ := pl.isList
  obtain ⟨⟨c2, dd2, da2, sl2⟩, ho2, hc2, n2, hd2⟩ := pl2.isList
  cases hc; cases hc2; cases hd; cases hd2
  refine concat_meets ⟨_, ho, rfl⟩ ⟨_, ho2, rfl⟩ noFill_list_add seq_list_add PySem.F.slot_list_add PySem.F.entry_list_add (PySem.F.args_list_add_2 (Value.ref l) (Value.ref b))
    (list_addW l b its.toArray its2.toArray n n2 dd dd2 sl sl2 (by rw [List.size_toArray, List.size_toArray]; omega)) ⟨ho, ho2, ?_⟩
  have ea : its.toArray ++ its2.toArray = (its ++ its2).toArray := by simp
  rw [ea]
  exact ⟨.ref _, _, I.lnew (t' := s.toks) (r.append r2) (by rw [List.length_append]; omega), rfl, q _ I.fresh⟩
theorem RepFs.app {K : PySem.W.Frag} {Z : Hp} : ∀ {ds ds2 : List L3.D} {vs vs2 : List V}, RepFs K CL Z ds vs → RepFs K CL Z ds2 vs2 → RepFs K CL Z (ds ++ ds2) (vs ++ vs2)
  | _, _, _, _, .nil, r2 => r2
  | _, _, _, _, .cons r t, r2 => .cons r (RepFs.app t r2)
/-- e1 + e2 of lists, both seen -/
theorem te_catL (h1 : TBv X CL b e1 δ (.lst ds) δ1) (h2 : TBv X CL b e2 δ1 (.lst ds2) δ2) (i1 : D.imms ds = true) (i2 : D.imms ds2 = true) (hz : ds.length + ds2.length ≤ sizeLine) :
    TEv X CL b (.BinOp e1 .Add e2 pos) δ (.lst ((ds ++ ds2).map T.sh)) δ2 := fun H Z σ ts vs Q S k =>
  ofPE (pe_op op_catS peS peS) (h1 H Z σ ts vs _ S fun v1 H1 Z1 z1 k1 S1 r1 => h2 H1 Z1 σ ts vs _ S1 fun v2 H2 Z2 z2 k2 S2 r2 => by
    have r1' := r1.mono k2
    cases r1' with
    | lst hq1 rr1 =>
      cases r2 with
      | lst hq2 rr2 =>
        refine ⟨_, _, _, _, rfl, rfl, hq1, hq2, by rw [← rr1.length, ← rr2.length]; exact hz, fun p hp => ?_⟩
        have rc := RepFs.app (RepFs.imm S2.tp i1 rr1) (RepFs.imm S2.tp i2 rr2)
        obtain ⟨c, S4⟩ := (Stt.pushs rc S2).newLst (g0 := []) (by simp [rc.length, rr1.length, rr2.length]) hp
        exact k _ _ _ (z1.trans z2) (k1.trans (k2.trans c)) S4)
end
end L3

namespace L3
open PySem PySem.Spec PyProof.Rows L2
structure Fm (X : Cx) (CL : Str → Addr) (x : Str) (k n : Nat) {A : Type} (arg : A → List D) (Pre : A → Prop) (res : A → List (Str × T)) : Prop where
  ex : ∃ f fd ps, Mk X.K (CL x) f ∧ FnOk X.prog X.w X.K X.mg X.base CX0 k f fd ps (spI X.K CL x n arg Pre res) ∧ X.mg x = some (.ref (CL x)) ∧ Binds X.K fd ps []
  room : Room (k + 1) X.A
structure Fq (X : Cx) (CL : Str → Addr) (c m : Str) (k n : Nat) {A : Type} (arg : A → List D) (Pre : A → Prop) (res : A → T) : Prop where
  ex : ∃ f fd ps, Meth X.K (CL c) m f ∧ FnOk X.prog X.w X.K X.mg X.base CX0 k f fd ps (spA X.K CL n arg Pre res) ∧ Binds X.K fd ps []
  room : Room k X.A
  cls : Cls X.K (CL c)
/-- the law's own promise speaks of no class -/
theorem law_cl {K : PySem.W.Frag} {CL CL' : Str → Addr} {arg : List Int → List D} {pre : List Int → Prop} {res : List Int → T} (ha : ∀ a, arg a = [.lst (a.map .int)]) (hr : ∀ a, res a = .sh (.bl true)) :
    ∀ (vs : List V) (H : Hp) (Q : VK) (E : XK), spA K CL' 1 arg pre res vs H Q E → spA K CL 1 arg pre res vs H Q E := by
  rintro vs H Q E ⟨W, a, h1, h2, h3, h4, h5, k⟩
  have reInts : ∀ {l : List Int} {us : List V}, RepFs K CL' W (l.map .int) us → RepFs K CL W (l.map .int) us := by
    intro l
    induction l with
    | nil => intro us r; cases r; exact .nil
    | cons i l ih =>
      intro us r
      cases r with
      | cons r t => cases r; exact .cons (.int i) (ih t)
  refine ⟨W, a, h1, h2, ?_, h4, h5, fun v H' W' fp a1 a2 a3 a4 a5 r nd own => k v H' W' fp a1 a2 a3 a4 a5 ?_ nd own⟩
  · rw [ha] at h3 ⊢
    cases h3 with
    | cons r t =>
      cases t
      cases r with
      | lst q rr => exact .cons (.lst q (reInts rr)) .nil
  · rw [hr] at r ⊢
    cases r with
    | sh r => cases r; exact .sh (.bl _)
section
variable {X : Cx} {CL : Str → Addr} {b : Bx} {δ δ1 δ2 : List (Option T)} {e e1 e2 o : Expr} {es : List Expr} {d : L3.D} {t : T} {i : Nat} {x c m : Str} {pos pp apos : Pos} {D : TEnds} {sts : List Stmt} {ds : List L3.D}
end
end L3

namespace L3
open PySem PySem.Spec PyProof.Rows L2
section
variable {X : Cx} {CL : Str → Addr} {b : Bx} {δ δ1 δ2 : List (Option T)} {e1 e2 : Expr} {x : Str} {pos : Pos} {d : L3.D}
theorem RepFs.ints {K : PySem.W.Frag} {Z : Hp} : ∀ {l : List Int} {vs : List V}, RepFs K CL Z (l.map D.int) vs → vs = l.map V.int
  | [], _, r => by
    have r' : RepFs K CL Z [] _ := r
    cases r'; rfl
  | y :: l, _, r => by
    have r' : RepFs K CL Z (D.int y :: l.map D.int) _ := r
    cases r' with
    | cons r1 r2 => rw [r1.sc rfl, RepFs.ints r2]; rfl
/-- what a row of flat data is -/
def seqF (d : L3.D) : Option (List L3.D) := match d with
  | .lst ds => some ds
  | .tup ds => some ds
  | _ => none
theorem RepF.seqF {K : PySem.W.Frag} {Z : Hp} {v : V} {ds : List L3.D} (r : RepF K CL Z d v) (h : L3.seqF d = some ds) : ∃ p us, v = .ref p ∧ (SqL K Z p us ∨ SqT K Z p us) ∧ RepFs K CL Z ds us := by
  cases r with
  | tup hq rr => cases h; exact ⟨_, _, rfl, .inr hq, rr⟩
  | lst hq rr => cases h; exact ⟨_, _, rfl, .inl hq, rr⟩
  | non => cases h
  | bl => cases h
  | int => cases h
  | str => cases h
  | any => cases h
  | ins => cases h
theorem tc_memS {l : List Str} (h1 : TBv X CL b e1 δ (.str x) δ1) (h2 : TBv X CL b e2 δ1 d δ2) (hd : L3.seqF d = some (l.map .str)) (hm : behindInMarks .In e2 = false) :
    TTv X CL b (.Compare e1 [.In] [e2] pos) δ (decide (x ∈ l)) δ2 ∧ TEv X CL b (.Compare e1 [.In] [e2] pos) δ (.sh (.bl (decide (x ∈ l)))) δ2 := by
  constructor
  · intro H Z σ ts vs Q S k
    refine ofPT (pt_cmpR op_in_seq peS peS hm) (h1 H Z σ ts vs _ S fun v1 H1 Z1 z1 k1 S1 r1 => h2 H1 Z1 σ ts vs _ S1 fun v2 H2 Z2 z2 k2 S2 r2 => ?_)
    obtain ⟨p, us, rfl, hq, rr⟩ := RepF.seqF r2 hd
    have e := rr.strs
    subst e
    refine ⟨_, _, rfl, hq, by rw [r1.sc rfl]; rfl, all_flat_str l, _, rfl, ?_⟩
    rw [if_neg Bool.false_ne_true, r1.sc rfl, inV_str]
    exact k H2 Z2 (z1.trans z2) (k1.trans k2) S2
  · intro H Z σ ts vs Q S k
    refine ofPE (pe_cmpR op_in_seq peS peS hm) (h1 H Z σ ts vs _ S fun v1 H1 Z1 z1 k1 S1 r1 => h2 H1 Z1 σ ts vs _ S1 fun v2 H2 Z2 z2 k2 S2 r2 => ?_)
    obtain ⟨p, us, rfl, hq, rr⟩ := RepF.seqF r2 hd
    have e := rr.strs
    subst e
    refine ⟨_, _, rfl, hq, by rw [r1.sc rfl]; rfl, all_flat_str l, ?_⟩
    rw [if_neg Bool.false_ne_true, r1.sc rfl, inV_str]
    exact k _ H2 Z2 (z1.trans z2) (k1.trans k2) (S2.push (.bl _))
theorem tc_notS {l : List Str} (h1 : TBv X CL b e1 δ (.str x) δ1) (h2 : TBv X CL b e2 δ1 d δ2) (hd : L3.seqF d = some (l.map .str)) (hm : behindInMarks .NotIn e2 = false) :
    TTv X CL b (.Compare e1 [.NotIn] [e2] pos) δ (!decide (x ∈ l)) δ2 ∧ TEv X CL b (.Compare e1 [.NotIn] [e2] pos) δ (.sh (.bl (!decide (x ∈ l)))) δ2 := by
  constructor
  · intro H Z σ ts vs Q S k
    refine ofPT (pt_cmpR op_notIn_seq peS peS hm) (h1 H Z σ ts vs _ S fun v1 H1 Z1 z1 k1 S1 r1 => h2 H1 Z1 σ ts vs _ S1 fun v2 H2 Z2 z2 k2 S2 r2 => ?_)
    obtain ⟨p, us, rfl, hq, rr⟩ := RepF.seqF r2 hd
    have e := rr.strs
    subst e
    refine ⟨_, _, rfl, hq, by rw [r1.sc rfl]; rfl, all_flat_str l, _, rfl, ?_⟩
    rw [if_pos rfl, r1.sc rfl, inV_str]
    exact k H2 Z2 (z1.trans z2) (k1.trans k2) S2
  · intro H Z σ ts vs Q S k
    refine ofPE (pe_cmpR op_notIn_seq peS peS hm) (h1 H Z σ ts vs _ S fun v1 H1 Z1 z1 k1 S1 r1 => h2 H1 Z1 σ ts vs _ S1 fun v2 H2 Z2 z2 k2 S2 r2 => ?_)
    obtain ⟨p, us, rfl, hq, rr⟩ := RepF.seqF r2 hd
    have e := rr.strs
    subst e
    refine ⟨_, _, rfl, hq, by rw [r1.sc rfl]; rfl, all_flat_str l, ?_⟩
    rw [if_pos rfl, r1.sc rfl, inV_str]
    exact k _ H2 Z2 (z1.trans z2) (k1.trans k2) (S2.push (.bl _))
end
end L3

namespace L3
open PySem PySem.Spec PyProof.Rows L2
section
variable {X : Cx} {CL : Str → Addr} {b : Bx} {δ δ1 δ2 : List (Option T)} {e : Expr} {es : List Expr} {d : L3.D} {ds : List L3.D} {t : T} {i : Nat} {x : Str} {pos pp : Pos} {DD : TEnds} {sts : List Stmt}
/-! ### written rows of data -/
/-- a list of one's own, frozen as it comes -/
theorem te_frzL (h : TEv X CL b e δ (.lst (ds.map T.sh)) δ1) : TEv X CL b e δ (.sh (.lst ds)) δ1 := by
  have := te_frz h
  rwa [T.frz, frzs_sh] at this
theorem te_eq {t2 : T} (h : TEv X CL b e δ t δ1) (q : t = t2) : TEv X CL b e δ t2 δ1 := q ▸ h
end
end L3

namespace L3
open PySem PySem.Spec PyProof.Rows L2

/-! ### iterators that make what they yield; targets of several names -/
/-- both heaps have grown, by what no one may change -/
structure Grow (Z H Z' H' : Hp) : Prop where
  z : Same Z Z'
  h : Same H H'
  zh : Same Z' H'
  new : ∀ a o, Z' a = some o → Z a = none → H a = none
  tp : ∀ a o, H' a = some o → immO o = true → Z' a = some o
theorem Grow.refl {Z H : Hp} (zh : Same Z H) (tp : ∀ a o, H a = some o → immO o = true → Z a = some o) : Grow Z H Z H := ⟨.refl _, .refl _, zh, fun a o q z => (by rw [q] at z; cases z), tp⟩
/-- one more tuple -/
theorem Grow.tup {Z H : Hp} {p : Addr} {xs : List V} (zh : Same Z H) (tp : ∀ a o, H a = some o → immO o = true → Z a = some o) (hp : H p = none) : Grow Z H (upd Z p (.tup xs)) (upd H p (.tup xs)) := by
  have zp : Z p = none := zh.free hp
  refine ⟨Same.upd zp, Same.upd hp, fun a o q => ?_, fun a o q z => ?_, fun a o q i => ?_⟩
  · by_cases e : a = p
    · subst e; rw [upd_same] at q ⊢; exact q
    · rw [upd_ne e] at q ⊢; exact zh a o q
  · by_cases e : a = p
    · subst e; exact hp
    · rw [upd_ne e, z] at q; cases q
  · by_cases e : a = p
    · subst e; rw [upd_same] at q ⊢; exact q
    · rw [upd_ne e] at q ⊢; exact tp a o q i
section
variable {K : PySem.W.Frag} {CL : Str → Addr} {b : Bx} {H H' Z Z' : Hp} {δ : List (Option T)} {σ : L2.St} {ts : List T} {vs : List V}
theorem Stt.grow (S : Stt K CL b H Z δ σ ts vs) (g : Grow Z H Z' H') : Stt K CL b H' Z' δ σ ts vs := by
  obtain ⟨fp, gp, e, r, nd, k⟩ := S.rep
  have old : ∀ a ∈ fp ++ gp, ∃ o, H a = some o := fun a ha => (List.mem_append.mp ha).elim (e.there a) (r.there a)
  have keep : ∀ a ∈ fp ++ gp, H' a = H a := fun a ha => by
    obtain ⟨o, q⟩ := old a ha
    rw [q]; exact g.h a o q
  refine ⟨⟨fp, gp, e.mono g.z (fun a ha => keep a (List.mem_append_left _ ha)), r.mono g.z (fun a ha => keep a (List.mem_append_right _ ha)), nd, fun a ha => ⟨?_, (k a ha).2⟩⟩, S.bh.trans g.h, S.zz.trans g.z, g.zh, fun a o q z => ?_, g.tp⟩
  · cases q : Z' a with
    | none => rfl
    | some o =>
      obtain ⟨u, hu⟩ := old a ha
      rw [g.new a o q (k a ha).1] at hu; cases hu
  · cases e2 : Z a with
    | none => exact S.bh.free (g.new a o q e2)
    | some u =>
      have := g.z a u e2
      rw [q] at this; cases this
      exact S.new a o e2 z
end
section
variable {X : Cx} {CL : Str → Addr} {b : Bx} {δ δ1 : List (Option T)} {ds : List D} {iter tg : Expr} {pos : Pos}
structure GComes (X : Cx) (CL : Str → Addr) (b : Bx) (δ1 : List (Option T)) (σ : L2.St) (ts : List T) (vs : List V) (Z H : Hp) (ds : List D) (J : It) (H1 : Hp) : Prop where
  ex : ∃ Z1, Same Z Z1 ∧ Same H H1 ∧ Stt X.K CL b H1 Z1 δ1 σ ts vs ∧ (∀ i H2, Same Z1 H2 → i < ds.length → J.go i H2) ∧
    (∀ i Z2 H2 x H', Same Z1 Z2 → Same Z2 H2 → (∀ a o, H2 a = some o → immO o = true → Z2 a = some o) → i < ds.length → J.yld i H2 x H' → ∃ Z3 d, ds[i]? = some d ∧ Grow Z2 H2 Z3 H' ∧ RepF X.K CL Z3 d x) ∧ (∀ H2, Same Z1 H2 → J.stop ds.length H2)
end

/-! ### a comprehension with such a target -/
/-- Nc: its own names first, then those that it takes from around (ix: their places there) -/
structure GScope (X : Cx) (scope : Scope) (xs : List Str) (Nc : List Str) (ix : List Nat) : Prop where
  kind : scope.kind = .function
  nocell : ∀ y ∈ scope.names, y.2 ≠ .cell
  nd : Nc.Nodup
  names : ∀ y ∈ scope.names, y.2 = .local → scope.names.lookup y.1 = some .local
  own : ∀ x ∈ xs, scope.names.lookup x = some .local
  frees : ∀ y ∈ scope.names, y.2 = .free → scope.names.lookup y.1 = some .free ∧ (X.env.kindOf y.1 = some .cell ∨ X.env.kindOf y.1 = some .free)
  hd : Nc = xs ++ ix.filterMap (X.N[·]?)
  ixs : ∀ i ∈ ix, ∃ y, X.N[i]? = some y ∧ scope.names.lookup y = some .free
section
variable {X : Cx} {scope : Scope} {xs : List Str} {Nc : List Str} {ix : List Nat} {pins : List (Addr × Obj)} {σ : L2.St} {H : Hp} {s : Shared}
end
end L3

namespace L3
open PySem PySem.Spec PyProof.Rows L2
section
variable {X : Cx} {CL : Str → Addr} {b : Bx} {H Z W1 : Hp} {δ δc : List (Option T)} {σ : L2.St} {ts : List T} {vs : List V} {ds : List D} {scope : Scope} {Nc : List Str} {n : Nat} {ix : List Nat} {elt tg : Expr} {ifs : List Expr} {p : D → Bool} {g : D → T} {J : It} {parts : D → Option (List D)}
end
section
variable {X : Cx} {CL : Str → Addr} {b : Bx} {δ δ1 : List (Option T)} {scope : Scope} {xs : List Str} {Nc : List Str} {ix : List Nat} {elt iter tg : Expr} {ifs : List Expr} {pos : Pos} {ds : List D} {p : D → Bool} {g : D → T} {δc : List (Option T)} {parts : D → Option (List D)}
end
end L3

namespace L3
open PySem PySem.Spec PyProof.Rows L2
/-! ### enumerate(xs) with a target of several names -/
section
variable {X : Cx} {elts : List Expr} {kk : Nat} {pt : Pos}
end
section
variable {X : Cx} {CL : Str → Addr} {b : Bx} {δ δ1 : List (Option T)} {e : Expr} {ds : List D} {elts : List Expr} {kk : Nat} {pt pr pc : Pos}
end
end L3

namespace L3
open PySem PySem.Spec PyProof.Rows L2
/-! ### sorted(xs) of ints -/
section
variable {X : Cx}
end
section
variable {X : Cx} {CL : Str → Addr} {b : Bx} {δ δ1 : List (Option T)} {e : Expr} {pos pp : Pos}
end
/-! ### sum(xs) of ints -/
section
variable {X : Cx}
end
section
variable {X : Cx} {CL : Str → Addr} {b : Bx} {δ δ1 : List (Option T)} {e : Expr} {pos pp : Pos}
end
/-! ### list(reversed(xs)) -/
section
variable {prog : Program} {w : World} {A : Around} {s : Shared}
end
end L3

namespace L3
open PySem PySem.Spec PyProof.Rows L2
section
variable {prog : Program} {w : World} {A : Around} {s : Shared}
end
theorem Vals.rev : ∀ {xs : List V} {us : List Value}, Vals xs us → Vals xs.reverse us.reverse
  | [], _, .nil => .nil
  | _ :: _, _, .cons r rr => by
    rw [List.reverse_cons, List.reverse_cons]
    exact Vals.append (Vals.rev rr) (.cons r .nil)
section
variable {X : Cx}
end
section
variable {X : Cx} {CL : Str → Addr} {b : Bx} {δ δ1 : List (Option T)} {e : Expr} {ds : List D} {pos pp pq pr : Pos}
theorem RepFs.rev {K : PySem.W.Frag} {Z : Hp} {ds : List L3.D} {us : List V} (r : RepFs K CL Z ds us) : RepFs K CL Z ds.reverse us.reverse := by
  have go : ∀ {ds : List L3.D} {us : List V} {es : List L3.D} {ws : List V}, RepFs K CL Z ds us → RepFs K CL Z es ws → RepFs K CL Z (ds.reverse ++ es) (us.reverse ++ ws) := by
    intro ds us es ws r
    induction ds generalizing us es ws with
    | nil => cases r; exact fun q => q
    | cons d ds ih =>
      cases r with
      | cons r1 r2 =>
        intro q
        rw [List.reverse_cons, List.reverse_cons, List.append_assoc, List.append_assoc]
        exact ih r2 (.cons r1 q)
  simpa using go r .nil
end
end L3

namespace L3
open PySem PySem.Spec PyProof.Rows L2
/-- a place of a row of like data -/
theorem map_at {α β : Type} {f : α → β} {l : List α} {j : Nat} {d : β} (h : (l.map f)[j]? = some d) : ∃ x, d = f x ∧ l[j]? = some x ∧ x ∈ l ∧ j < l.length ∧ l.drop j = x :: l.drop (j + 1) ∧ l.take (j + 1) = l.take j ++ [x] := by
  rw [List.getElem?_map] at h
  cases hx : l[j]? with
  | none => rw [hx] at h; cases h
  | some x =>
    rw [hx] at h
    cases h
    have hj : j < l.length := (List.getElem?_eq_some_iff.mp hx).1
    have e : l[j] = x := (List.getElem?_eq_some_iff.mp hx).2
    exact ⟨x, rfl, rfl, List.mem_of_getElem? hx, hj, by rw [List.drop_eq_getElem_cons hj, e], by rw [List.take_add_one, hx]; rfl⟩
section
variable {X : Cx} {CL : Str → Addr} {b : Bx} {δ δ1 : List (Option T)} {e : Expr} {elts : List Expr} {kk : Nat} {pt pr pc : Pos}
end
/-! ### x[j].append(e), x a list of one's own -/
section
variable {K : PySem.W.Frag} {CL : Str → Addr} {b : Bx} {H H' Z Z' : Hp} {δ δ' : List (Option T)} {σ σ' : L2.St} {ts tl : List T} {vs us : List V} {t : T} {v : V}
end
section
variable {X : Cx} {CL : Str → Addr} {b : Bx} {δ δ1 δ2 : List (Option T)} {e e2 : Expr} {t : T} {tl tl0 tt tt0 : List T} {D : TEnds} {pos pp pa pb : Pos}
end
section
variable {X : Cx} {CL : Str → Addr} {b : Bx} {δ δ1 : List (Option T)} {e : Expr} {t : T} {i : Nat} {x : Str} {pos pp : Pos} {DD : TEnds} {sts : List Stmt}
end
end L3

namespace L3
open PySem PySem.Spec PyProof.Rows L2
/-! ### x.insert(0, e) -/
section
variable {X : Cx}
end
section
variable {K : PySem.W.Frag} {CL : Str → Addr} {b : Bx} {H Z : Hp} {δ : List (Option T)} {σ : L2.St} {ts tl : List T} {vs : List V} {t : T} {v : V}
end
section
variable {X : Cx} {CL : Str → Addr} {b : Bx} {δ δ1 : List (Option T)} {e : Expr} {t : T} {tl tl0 : List T} {D : TEnds} {pos pp pa pb pc : Pos} {kj i : Nat} {x : Str} {sts : List Stmt}
end
end L3

namespace L3
open PySem PySem.Spec PyProof.Rows L2
section
variable {X : Cx} {CL : Str → Addr} {b : Bx} {δ δ1 : List (Option T)} {e : Expr} {pos pp : Pos}
end
end L3

namespace L3
open PySem PySem.Spec PyProof.Rows L2
/-! ### x.extend(e), e a list of one's own -/
section
variable {K : PySem.W.Frag} {CL : Str → Addr} {b : Bx} {H Z : Hp} {δ : List (Option T)} {σ : L2.St} {ts tl tl2 : List T} {vs : List V} {v : V}
theorem Stt.extend {i : Nat} (S : Stt K CL b H Z δ σ (.lst tl2 :: ts) (v :: vs)) (hi : δ[i]? = some (some (.lst tl))) :
    ∃ a us a2 us2, σ[i]? = some (some (.ref a)) ∧ H a = some (.lst us) ∧ us.length = tl.length ∧ v = .ref a2 ∧ H a2 = some (.lst us2) ∧ us2.length = tl2.length ∧ Stt K CL b (upd H a (.lst (us ++ us2))) Z (δ.set i (some (.lst (tl ++ tl2)))) σ ts vs := by
  obtain ⟨fp, gp, e, r, nd, k⟩ := S.rep
  obtain ⟨v0, f1, f2, f3, hv, hfp, rt, put, _⟩ := e.get hi
  subst hfp
  cases rt with
  | @lst a us _ g ha rs =>
    cases r with
    | @cons _ _ _ _ ft gr q1 q2 =>
      cases q1 with
      | @lst a2 us2 _ g2 ha2 rs2 =>
        have ne : ∀ c ∈ (f1 ++ (g ++ f3)) ++ (g2 ++ gr), c ≠ a := fun c hc e => by
          subst e
          have hp : ((f1 ++ ((c :: g) ++ f3)) ++ ((a2 :: g2) ++ gr)).Perm (c :: ((f1 ++ (g ++ f3)) ++ ((a2 :: g2) ++ gr))) := by
            rw [List.cons_append, ← List.cons_append]
            exact (List.perm_middle.append_right _)
          refine (List.nodup_cons.mp (hp.nodup_iff.mp nd)).1 ?_
          rcases List.mem_append.mp hc with z | z
          · exact List.mem_append_left _ z
          · exact List.mem_append_right _ (List.mem_cons_of_mem _ z)
        refine ⟨a, us, a2, us2, hv, ha, rs.length.symm, rfl, ha2, rs2.length.symm, ?_⟩
        have r1 : RepT K CL (upd H a (.lst (us ++ us2))) Z (.lst (tl ++ tl2)) (.ref a) (a :: (g ++ g2)) :=
          .lst upd_same (RepTs.app (rs.mono (.refl _) fun c hc => upd_ne (ne c (by simp [hc]))) (rs2.mono (.refl _) fun c hc => upd_ne (ne c (by simp [hc]))))
        have e2 := put (H' := upd H a (.lst (us ++ us2))) (.refl _) (fun c hc => upd_ne (ne c (by
          rcases List.mem_append.mp hc with h | h
          · simp [h]
          · simp [h]))) r1
        rw [set_self hv] at e2
        have hp : ((f1 ++ ((a :: (g ++ g2)) ++ f3)) ++ gr).Perm ((f1 ++ ((a :: g) ++ f3)) ++ (g2 ++ gr)) := by
          simp only [List.cons_append, List.append_assoc]
          refine List.Perm.append_left f1 (List.Perm.cons a (List.Perm.append_left g ?_))
          rw [← List.append_assoc, ← List.append_assoc]
          exact List.perm_append_comm.append_right gr
        have sb : ((f1 ++ ((a :: g) ++ f3)) ++ (g2 ++ gr)).Sublist ((f1 ++ ((a :: g) ++ f3)) ++ ((a2 :: g2) ++ gr)) :=
          List.Sublist.append (List.Sublist.refl _) (by rw [List.cons_append]; exact List.sublist_cons_self _ _)
        exact S.write nd k (List.mem_cons_self) ⟨_, ha⟩ e2 (q2.mono (.refl _) fun c hc => upd_ne (ne c (by simp [hc]))) (hp.nodup_iff.mpr (nd.sublist sb)) fun c hc => sb.subset (hp.mem_iff.mp hc)
end
section
variable {X : Cx} {CL : Str → Addr} {b : Bx} {δ δ1 : List (Option T)} {e : Expr} {tl tl0 tl2 : List T} {D : TEnds} {pos pp pa pb : Pos} {i : Nat} {x : Str} {sts : List Stmt}
end
end L3

namespace L3
open PySem PySem.Spec PyProof.Rows L2
/-! ### list * int, the list seen -/
section
variable {X : Cx} {CL : Str → Addr} {b : Bx} {e1 e2 : Expr} {δ δ1 δ2 : List (Option T)} {ds : List L3.D} {pos : Pos}
theorem RepFs.rep {K : PySem.W.Frag} {Z : Hp} {ds : List L3.D} {vs : List V} (r : RepFs K CL Z ds vs) : ∀ k : Nat, RepFs K CL Z (List.replicate k ds).flatten (List.replicate k vs).flatten
  | 0 => .nil
  | k + 1 => by
    rw [List.replicate_succ, List.replicate_succ, List.flatten_cons, List.flatten_cons]
    exact RepFs.app r (RepFs.rep r k)
end
end L3

namespace L3
open PySem PySem.Spec PyProof.Rows L2
/-! ### texts and tuples of texts of the file's top -/
section
variable {X : Cx} {CL : Str → Addr} {b : Bx} {δ : List (Option T)} {x : Str} {pos : Pos}
theorem te_globS {k : Str} (hm : ∃ u, X.mg x = some (.str k u)) (hg : Gl X x) (hd : (x == ("__debug__" : Str)) = false := by decide) : TEv X CL b (.Name x pos) δ (.sh (.str k)) δ := fun H Z σ ts vs Q S kk => by
  obtain ⟨u, hm⟩ := hm
  exact ofPE (pe_glob (v := .str k) hg hm ⟨u, rfl⟩ hd) (kk _ H Z (.refl _) (.refl _) (S.push (.str k)))
theorem RepFs.strsV {K : PySem.W.Frag} {Z : Hp} : ∀ l : List Str, RepFs K CL Z (l.map .str) (l.map V.str)
  | [] => .nil
  | x :: l => .cons (.str x) (RepFs.strsV l)
/-- the name stands for a tuple of these texts, which the module made -/
def GT (X : Cx) (x : Str) (l : List Str) : Prop := ∃ a, X.mg x = some (.ref a) ∧ ∀ H : Hp, SqT X.K H a (l.map V.str)
theorem te_globT {l : List Str} (hm : GT X x l) (hg : Gl X x) (hd : (x == ("__debug__" : Str)) = false := by decide) : TEv X CL b (.Name x pos) δ (.sh (.tup (l.map .str))) δ := fun H Z σ ts vs Q S kk => by
  obtain ⟨a, hm, hs⟩ := hm
  exact ofPE (pe_glob (v := .ref a) hg hm rfl hd) (kk _ H Z (.refl _) (.refl _) (S.push (.tup (hs Z) (RepFs.strsV l))))
theorem gt_mk {l : List Str} {a : Addr} {od : Option Addr} {its : Array Value} {n : Nat} {sl : Array (Option Value)} (h1 : X.mg x = some (.ref a)) (h2 : X.K.lookup a = some ⟨.type "tuple", od, .seq its n, sl⟩) (h3 : its.size ≤ sizeLine) (h4 : Vals (l.map V.str) its.toList) : GT X x l :=
  ⟨a, h1, fun H => .inr ⟨_, its, n, h2, rfl, rfl, h3, h4⟩⟩
end
end L3

namespace L3
open PySem PySem.Spec PyProof.Rows L2
/-! ### texts: order, within, walked letter by letter -/
section
variable {X : Cx} {CL : Str → Addr} {b : Bx} {e1 e2 e iter : Expr} {δ δ1 δ2 : List (Option T)} {pos : Pos}
theorem op_le_str : OpR X (compareOp .LtE) (fun x y H Q => ∃ i j, x = .str i ∧ y = .str j ∧ Q (.bl (!decide (j.cps.toList < i.cps.toList))) H) := by
  intro pins s σ H x y v u Q I rx ry h
  obtain ⟨i, j, rfl, rfl, q⟩ := h
  obtain ⟨t, rfl⟩ := rx
  obtain ⟨t', rfl⟩ := ry
  exact PySem.P.le_str (fin_bl I q rfl)
theorem tc_leS {i j : Str} (h1 : TBv X CL b e1 δ (.str i) δ1) (h2 : TBv X CL b e2 δ1 (.str j) δ2) : TTv X CL b (.Compare e1 [.LtE] [e2] pos) δ (!decide (j.cps.toList < i.cps.toList)) δ2 ∧ TEv X CL b (.Compare e1 [.LtE] [e2] pos) δ (.sh (.bl (!decide (j.cps.toList < i.cps.toList)))) δ2 :=
  tc_op op_le_str h1 h2 rfl rfl (fun _ _ q => ⟨i, j, rfl, rfl, q⟩) (nomark _)
/-- x stands within y -/
def inStr (x y : Str) : Bool := !(Builtin.Str.occurrences y x 0 y.length 1).isEmpty
theorem tc_notInStr {i j : Str} (h1 : TBv X CL b e1 δ (.str i) δ1) (h2 : TBv X CL b e2 δ1 (.str j) δ2) (hm : behindInMarks .NotIn e2 = false) : TTv X CL b (.Compare e1 [.NotIn] [e2] pos) δ (!inStr i j) δ2 ∧ TEv X CL b (.Compare e1 [.NotIn] [e2] pos) δ (.sh (.bl (!inStr i j))) δ2 :=
  tc_op op_notin_str h1 h2 rfl rfl (fun _ _ q => ⟨i, j, rfl, rfl, q⟩) hm
/-- the letters of a text, one by one -/
def Its (x : Str) : It := ⟨fun i _ => i < x.cps.size, fun i H v H' => H' = H ∧ ∃ c, x.cps[i]? = some c ∧ v = .str ⟨#[c]⟩, fun i _ => x.cps.size ≤ i⟩
theorem turn_strA {P : Program} {w : World} {K : PySem.W.Frag} {tg : Expr} (x : Str) (t : Tok) (it : Addr) : Turn P w K tg (Its x) [it] it (fun i h => h.IsStrIter it "str_ascii_iterator" x t i) where
  mem := by simp
  obj := fun i h st b hb => by
    have e : b = it := by simpa using hb
    subst e
    obtain ⟨o, e, c, d⟩ := st
    exact ⟨o, e, fun v z => by rw [d] at z; cases z⟩
  keep := fun i h h' st k => by
    obtain ⟨o, e, r⟩ := st
    exact ⟨o, k it (by simp) o e, r⟩
  item := by
    intro X hP hw hK hc i pins s σ H E I hf st hg
    subst hP hw hK
    have hg : i < x.cps.size := hg
    obtain ⟨f0, f1, f2, f3, f4, f5⟩ := hf it (by simp)
    refine wpAny_pyNext_ascii_item st (c := x.cps[i]) (by simp [hg]) fun h' st' sb => ?_
    have I1 : Inv X pins σ H { s with heap := h', toks := s.toks + 1 } := I.turned (fun b o hb e => (sb.2 b hb).trans e) f0 f1 f3 f4 f5
    obtain ⟨o, e, c, d⟩ := id st'
    exact ⟨_, rfl, go_of (s := { s with heap := h', toks := s.toks + 1 }) e c d (by decide) ⟨.str ⟨#[x.cps[i]]⟩, H, I1, ⟨_, rfl⟩, ⟨rfl, _, by simp [hg], rfl⟩, st', fun b hb => (hf b hb).1⟩⟩
  done := by
    intro X hP hw hK hc i pins s σ H E I hf st hg
    subst hP hw hK
    have hg : x.cps.size ≤ i := hg
    obtain ⟨f0, f1, f2, f3, f4, f5⟩ := hf it (by simp)
    exact wpAny_pyNext_ascii_end (I.ok.hd hc) st (by simp [hg]) fun h' eb => ⟨rfl, I.turned (t' := s.toks) (fun b o hb e => eb b o hb e) f0 f1 f3 f4 f5⟩
  self := fun _ _ _ _ _ st h => wpAny_pyIter_striter_ascii st h
theorem turn_strW {P : Program} {w : World} {K : PySem.W.Frag} {tg : Expr} (x : Str) (t : Tok) (it : Addr) : Turn P w K tg (Its x) [it] it (fun i h => h.IsStrIter it "str_iterator" x t i) where
  mem := by simp
  obj := fun i h st b hb => by
    have e : b = it := by simpa using hb
    subst e
    obtain ⟨o, e, c, d⟩ := st
    exact ⟨o, e, fun v z => by rw [d] at z; cases z⟩
  keep := fun i h h' st k => by
    obtain ⟨o, e, r⟩ := st
    exact ⟨o, k it (by simp) o e, r⟩
  item := by
    intro X hP hw hK hc i pins s σ H E I hf st hg
    subst hP hw hK
    have hg : i < x.cps.size := hg
    obtain ⟨f0, f1, f2, f3, f4, f5⟩ := hf it (by simp)
    refine wpAny_pyNext_wide_item st (c := x.cps[i]) (by simp [hg]) fun h' st' sb => ?_
    have I1 : Inv X pins σ H { s with heap := h', toks := s.toks + 1 } := I.turned (fun b o hb e => (sb.2 b hb).trans e) f0 f1 f3 f4 f5
    obtain ⟨o, e, c, d⟩ := id st'
    exact ⟨_, rfl, go_of (s := { s with heap := h', toks := s.toks + 1 }) e c d (by decide) ⟨.str ⟨#[x.cps[i]]⟩, H, I1, ⟨_, rfl⟩, ⟨rfl, _, by simp [hg], rfl⟩, st', fun b hb => (hf b hb).1⟩⟩
  done := by
    intro X hP hw hK hc i pins s σ H E I hf st hg
    subst hP hw hK
    have hg : x.cps.size ≤ i := hg
    obtain ⟨f0, f1, f2, f3, f4, f5⟩ := hf it (by simp)
    exact wpAny_pyNext_wide_end (I.ok.hd hc) st (by simp [hg]) fun h' eb => ⟨rfl, I.turned (t' := s.toks) (fun b o hb e => eb b o hb e) f0 f1 f3 f4 f5⟩
  self := fun _ _ _ _ _ st h => wpAny_pyIter_striter_wide st h
def iStr (tl : TE) : TI := fun σ H R => tl σ H fun v H1 => ∃ x, v = .str x ∧ R (Its x) H1
theorem pi_str {l : Expr} {tl : TE} {tg : Expr} (hl : PE X l tl) : PI X tg l (iStr tl) := by
  intro pins s σ H R I h
  refine thn (hl pins s σ H _ I h) fun v s1 ⟨y, H1, I1, r1, q1⟩ => ?_
  obtain ⟨x, e, q⟩ := q1
  subst e
  obtain ⟨t, rfl⟩ := r1
  cases ha : x.cps.all (· < 128) with
  | true =>
    refine wpAny_pyIter_ascii ha ?_
    refine ⟨s1.heap.objs.size, [s1.heap.objs.size], _, _, H1, rfl, I1.kept (t' := s1.toks) fun b o e => Heap.get?_push_of_some _ e, turn_strA x t _, ⟨_, Heap.get?_push_size _ rfl, rfl, rfl⟩, fun b hb => ?_, q⟩
    have e : b = s1.heap.objs.size := by simpa using hb
    subst e
    exact I1.fpOk (Nat.le_refl _) (I1.hok.fresh (Nat.le_refl _))
  | false =>
    refine wpAny_pyIter_wide ha ?_
    refine ⟨s1.heap.objs.size, [s1.heap.objs.size], _, _, H1, rfl, I1.kept (t' := s1.toks) fun b o e => Heap.get?_push_of_some _ e, turn_strW x t _, ⟨_, Heap.get?_push_size _ rfl, rfl, rfl⟩, fun b hb => ?_, q⟩
    have e : b = s1.heap.objs.size := by simpa using hb
    subst e
    exact I1.fpOk (Nat.le_refl _) (I1.hok.fresh (Nat.le_refl _))
/-- the letters as data -/
def lettersD (x : Str) : List L3.D := x.cps.toList.map fun c => .str ⟨#[c]⟩
theorem letters_rep {K : PySem.W.Frag} {Z : Hp} (l : List Nat) : RepFs K CL Z (l.map fun c => L3.D.str ⟨#[c]⟩) (l.map fun c => V.str ⟨#[c]⟩) := by
  induction l with
  | nil => exact .nil
  | cons c l ih => exact .cons (.str _) ih
theorem ti_str {x : Str} {tg : Expr} (h : TEv X CL b iter δ (.sh (.str x)) δ1) : TIt X CL b tg iter δ (lettersD x) δ1 := by
  refine ⟨_, pi_str peS, fun H Z σ ts vs R S k => h H Z σ ts vs _ S fun v H1 Z1 z1 k1 S1 => ?_⟩
  obtain ⟨fp, gp, _, r, _, _⟩ := S1.rep
  cases r with
  | cons r _ =>
    cases r with
    | sh r =>
      cases r with
      | str =>
        refine ⟨x, rfl, k _ _ ⟨Z1, _, z1, k1, S1.pop, letters_rep _, fun i H2 s hi => ?_, fun i H2 y H' s hi hy => ⟨hy.1, ?_⟩, fun H2 s => ?_⟩⟩
        · show i < x.cps.size
          simpa [lettersD] using hi
        · obtain ⟨c, hc, rfl⟩ := hy.2
          simp [hc]
        · show x.cps.size ≤ (lettersD x).length
          simp [lettersD]
end
end L3

namespace L3
open PySem PySem.Spec PyProof.Rows L2
/-! ### a part of a text -/
section
variable {X : Cx} {CL : Str → Addr} {b : Bx} {e : Expr} {δ δ1 δ2 δ3 : List (Option T)} {pos p2 : Pos}
def rSlS : V → Option Int → Option Int → Hp → VK → Prop := fun x lo hi H Q => ∃ z, x = .str z ∧ z.length ≤ sizeLine ∧ Q (.str (Txt.slice z lo hi)) H
theorem sl_str : SlR X rSlS := by
  intro pins s σ H x v vl vu lo hi sl Q I rx hs pl pu h
  obtain ⟨z, rfl, hz, q⟩ := h
  obtain ⟨t, rfl⟩ := rx
  obtain ⟨o, ho, hc, hd⟩ := hs
  have fin : ∀ t' k, EP X pins σ Q (.str (Txt.slice z lo hi) t') { s with toks := k } := fun t' k => ⟨.str _, H, I.tok k, ⟨t', rfl⟩, q⟩
  refine ⟨"str", _, F.slot_str_getitem.lookup, typeIs_str _ _ _, ?_⟩
  cases pl with
  | none =>
    cases pu with
    | none => exact wpAny_getItem_str_slice (l := none) (u := none) (st := none) ⟨o, ho, hc, hd⟩ rfl (post_val_or_str ⟨Nat.le_trans (Txt.slice_le z _ _) hz, fin⟩)
    | int j uj => exact wpAny_getItem_str_slice (l := none) (u := some (j, uj)) (st := none) ⟨o, ho, hc, hd⟩ rfl (post_val_or_str ⟨Nat.le_trans (Txt.slice_le z _ _) hz, fin⟩)
  | int i ui =>
    cases pu with
    | none => exact wpAny_getItem_str_slice (l := some (i, ui)) (u := none) (st := none) ⟨o, ho, hc, hd⟩ rfl (post_val_or_str ⟨Nat.le_trans (Txt.slice_le z _ _) hz, fin⟩)
    | int j uj => exact wpAny_getItem_str_slice (l := some (i, ui)) (u := some (j, uj)) (st := none) ⟨o, ho, hc, hd⟩ rfl (post_val_or_str ⟨Nat.le_trans (Txt.slice_le z _ _) hz, fin⟩)
theorem te_sliceS {lo hi : Option Expr} {l h : Option Int} {z : Str} (h1 : TBv X CL b e δ (.str z) δ1) (hz : z.length ≤ sizeLine) (h2 : TOv X CL b lo δ1 l δ2) (h3 : TOv X CL b hi δ2 h δ3) : TEv X CL b (.Subscript e (.Slice lo hi none p2) pos) δ (.sh (.str (Txt.slice z l h))) δ3 := fun H Z σ ts vs Q S k => by
  obtain ⟨t2, po2, w2⟩ := h2
  obtain ⟨t3, po3, w3⟩ := h3
  refine ofPE (pe_slice sl_str peS po2 po3) (h1 H Z σ ts vs _ S fun v H1 Z1 z1 k1 S1 r => w2 H1 Z1 σ ts vs _ S1 fun H2 Z2 z2 k2 S2 => w3 H2 Z2 σ ts vs _ S2 fun H3 Z3 z3 k3 S3 => ?_)
  exact ⟨z, r.sc rfl, hz, k _ H3 Z3 (z1.trans (z2.trans z3)) (k1.trans (k2.trans k3)) (S3.push (.str _))⟩
end
end L3

namespace L3
open PySem PySem.Spec PyProof.Rows L2 PySem.Builtin PySem.Builtin.Str
/-! ### x.split(y), y found in x -/
section
variable {X : Cx} {CL : Str → Addr} {b : Bx} {e o : Expr} {δ δ1 δ2 : List (Option T)} {pos apos : Pos}
theorem Vals.strsFrom : ∀ (k : Nat) (l : List Str), Vals (l.map V.str) (strsFrom k l)
  | _, [] => .nil
  | k, x :: l => .cons ⟨_, rfl⟩ (Vals.strsFrom (k + 1) l)
def splitOk (x y : Str) : Bool := !(y.length == 0) && !(decide (x.length < y.length) || decide (strKind x < strKind y)) && !(occurrences x y 0 x.length (x.length + 1)).isEmpty
def splitM (x y : Str) : List Str := partsBetween x (occurrences x y 0 x.length (x.length + 1)) y.length
def rSplit : V → List V → Hp → VK → Prop := fun x vs H Q => ∃ z y, x = .str z ∧ vs = [.str y] ∧ splitOk z y = true ∧ z.length ≤ sizeLine ∧ (splitM z y).length ≤ sizeLine ∧ ∀ p, H p = none → Q (.ref p) (upd H p (.lst ((splitM z y).map V.str)))
theorem mt_split : MtR X "str.split" rSplit := by
  intro pins s σ H x vs v us Q I rx rv h
  obtain ⟨z, y, rfl, rfl, hok, hz, hp, q⟩ := h
  obtain ⟨t, rfl⟩ := rx
  obtain ⟨u, rfl, ru⟩ := rv.one
  obtain ⟨t', rfl⟩ := ru
  unfold splitOk at hok
  simp only [Bool.and_eq_true, Bool.not_eq_true'] at hok
  obtain ⟨⟨h1, h2⟩, h3⟩ := hok
  refine call_meets F.slot_str_split (typeIs_str _ _ _) F.entry_str_split (F.args_str_split_2 _ _) (meets_str_split_sep z y t t' h2 h1 h3 hz hp) ?_
  exact ⟨.ref _, _, I.lnew (its := strsFrom s.toks (splitM z y)) (Vals.strsFrom _ _) (by rw [List.length_map]; exact hp), rfl, q _ I.fresh⟩
theorem te_split {z y : Str} {l : List Str} (h1 : TBv X CL b o δ (.str z) δ1) (h2 : TBv X CL b e δ1 (.str y) δ2) (hok : splitOk z y = true) (hz : z.length ≤ sizeLine) (hl : splitM z y = l) (hp : l.length ≤ sizeLine)
    (hbase : attributeBase o "split" X.env (eval o X.env) = eval o X.env := by rfl)
    (hfew : ((backTo pos (starEach [e] X.env)).all (fun x => !x.1) && (backToKw pos (keywordEach [] X.env)).all (fun x => x.1.isSome) && decide ([e].length + ([] : List Keyword).length + (if ([] : List Keyword).isEmpty then 0 else 1) < 30)) = true := by rfl)
    (hline : (apos.endLine == pos.line) = true := by rfl) (hs : starEach [e] X.env = (false, eval e X.env) :: starEach [] X.env := by exact starOk rfl) :
    TEv X CL b (.Call (.Attribute o "split" apos) [e] [] pos) δ (.lst ((l.map L3.D.str).map T.sh)) δ2 := fun H Z σ ts vs Q S k =>
  ofPE (pe_bm PySem.F.plainAttrs_str PySem.F.slot_str_split PySem.F.type_str_split mt_split peS (pa_cons peS pa_nil hs) hbase hfew hline hs rfl)
    (h1 H Z σ ts vs _ S fun v1 H1 Z1 z1 k1 S1 r1 => by
      have e1 := r1.sc rfl
      subst e1
      refine ⟨rfl, h2 H1 Z1 σ ts vs _ S1 fun v2 H2 Z2 z2 k2 S2 r2 => ?_⟩
      have e2 := r2.sc rfl
      subst e2
      subst hl
      refine ⟨z, y, rfl, rfl, hok, hz, hp, fun p hpn => ?_⟩
      have rc : RepFs X.K CL Z2 ((splitM z y).map L3.D.str) ((splitM z y).map V.str) := RepFs.strsV _
      obtain ⟨c, S4⟩ := (Stt.pushs rc S2).newLst (g0 := []) (by simp) hpn
      exact k _ _ _ (z1.trans z2) (k1.trans (k2.trans c)) S4)
end
end L3

namespace L3
open PySem PySem.Spec PyProof.Rows L2
/-! ### a call with no argument -/
section
variable {X : Cx} {CL : Str → Addr} {b : Bx} {δ : List (Option T)} {pos pp : Pos} {x : Str}
theorem c0 {k n : Nat} {A : Type} {arg : A → List L3.D} {Pre : A → Prop} {res : A → T} (a : A) (F : Fc X CL x k n arg Pre res) (hg : Gl X x) (ha : arg a = []) (hp : Pre a) (hc : (res a).clean = true) (hn : (arg a).length = n := by rfl)
    (hdb : (x == ("__debug__" : Str)) = false := by decide) : TEv X CL b (.Call (.Name x pp) [] [] pos) δ (res a) δ := by
  obtain ⟨f, fd, ps, F1, m, kk, bb⟩ := F.ex
  intro H Z σ ts vs Q S k
  refine ofPE (pe_call0 F1 F.room hg m kk bb .nil pass0 hdb) ?_
  refine ⟨H, a, .refl _, fun _ _ q _ => q, by rw [ha]; exact .nil, hn, hp, fun v H' W' fp hh ww wh nw tp rt nd own => ?_⟩
  obtain ⟨Z', z', S'⟩ := S.back hh S.zh ww wh nw tp rt nd own (.inr hc)
  exact k v H' Z' z' hh S'
end
end L3

namespace Law
open PySem L2 L3
def top (i : Nat) : Stmt := PySem.Challenge.pw_moodtree_k13_what_is_a_name.main.body.getD i (.Pass ⟨0, 0, 0, 0⟩)
def words19 : List Str := ["all", "and", "box", "call", "do", "far", "if", "in", "leaf", "near", "on", "one", "open", "out", "put", "say", "shut", "then", "to"]
def isLt (c : Nat) : Bool := decide (97 ≤ c) && decide (c ≤ 122)
def isFg (c : Nat) : Bool := decide (48 ≤ c) && decide (c ≤ 57)
theorem in_letters (c : Nat) : inStr ⟨#[c]⟩ "abcdefghijklmnopqrstuvwxyz" = isLt c := by
  unfold inStr
  rw [PySem.StrLaws.found_one]
  have e : ("abcdefghijklmnopqrstuvwxyz" : Str).cps.toList = (List.range 26).map (· + 97) := by decide +kernel
  rw [e]
  apply Bool.eq_iff_iff.mpr
  simp only [isLt, decide_eq_true_eq, Bool.and_eq_true, List.mem_map, List.mem_range]
  constructor
  · rintro ⟨a, h, rfl⟩
    omega
  · intro h
    exact ⟨c - 97, by omega, by omega⟩
theorem in_both (c : Nat) : inStr ⟨#[c]⟩ "abcdefghijklmnopqrstuvwxyz0123456789" = (isLt c || isFg c) := by
  unfold inStr
  rw [PySem.StrLaws.found_one]
  have e : ("abcdefghijklmnopqrstuvwxyz0123456789" : Str).cps.toList = (List.range 26).map (· + 97) ++ (List.range 10).map (· + 48) := by decide +kernel
  rw [e]
  apply Bool.eq_iff_iff.mpr
  simp only [isLt, isFg, decide_eq_true_eq, Bool.and_eq_true, Bool.or_eq_true, List.mem_append, List.mem_map, List.mem_range]
  constructor
  · rintro (⟨a, h, rfl⟩ | ⟨a, h, rfl⟩) <;> omega
  · intro h
    rcases h with h | h
    · exact .inl ⟨c - 97, by omega, by omega⟩
    · exact .inr ⟨c - 48, by omega, by omega⟩
def nmOk (x : Str) : Bool := decide (1 ≤ x.length) && (decide (x.length ≤ 12) && (!decide (x ∈ words19) && (isLt (x.cps.toList.getD 0 0) && x.cps.toList.all (fun c => isLt c || isFg c))))
theorem str_nil {x : Str} (h : x.length = 0) : x = "" := by
  obtain ⟨⟨l⟩⟩ := x
  have : l.length = 0 := h
  have e : l = [] := List.eq_nil_of_length_eq_zero this
  subst e
  rfl
theorem letters_at {x : Str} {j : Nat} {d : L3.D} (h : (lettersD x)[j]? = some d) : ∃ c, d = .str ⟨#[c]⟩ ∧ x.cps.toList[j]? = some c := by
  unfold lettersD at h
  rw [List.getElem?_map] at h
  obtain ⟨c, hc, rfl⟩ := Option.map_eq_some_iff.mp h
  exact ⟨c, rfl, hc⟩
abbrev s_is_name : Stmt := top 5
abbrev A_is_name : Type := Str
def arg_is_name : A_is_name → List L3.D := fun a => (fun (x : Str) => [.str x]) a
def pre_is_name : A_is_name → Prop := fun a => (fun (x : Str) => x.length ≤ 1000) a
def res_is_name : A_is_name → T := fun a => (fun (x : Str) => (.sh (.bl (nmOk x)) : T)) a
structure E_is_name (X : Cx) (CL : Str → Addr) : Prop where
  g : Gx X
  u : X.A.units + 64 < cLine
  v_text : Vn X 0 "text"
  l_text : Ln X 0 "text"
  v_sign : Vn X 1 "sign"
  l_sign : Ln X 1 "sign"
  g_len : Gl X "len"
  g_LONGEST_NAME : Gl X "LONGEST_NAME"
  g_WORDS : Gl X "WORDS"
  g_LETTERS : Gl X "LETTERS"
  g_LETTERS_AND_FIGURES : Gl X "LETTERS_AND_FIGURES"
  m_len : X.mg "len" = none
  n_LONGEST_NAME : ∃ u, X.mg "LONGEST_NAME" = some (.int 12 u)
  n_WORDS : GT X "WORDS" ["all", "and", "box", "call", "do", "far", "if", "in", "leaf", "near", "on", "one", "open", "out", "put", "say", "shut", "then", "to"]
  n_LETTERS : ∃ u, X.mg "LETTERS" = some (.str "abcdefghijklmnopqrstuvwxyz" u)
  n_LETTERS_AND_FIGURES : ∃ u, X.mg "LETTERS_AND_FIGURES" = some (.str "abcdefghijklmnopqrstuvwxyz0123456789" u)
theorem d_is_name {X : Cx} {CL : Str → Addr} {b : Bx} (E : E_is_name X CL) (x : Str) (h : x.length ≤ 1000) :
    TBs X CL b (defBody s_is_name) (entry ["text", "sign"] [.str x]) { nx := fun _ => (.sh (.bl (nmOk x)) : T) = .sh .non, rt := fun v__ => v__ = .sh (.bl (nmOk x)) } := by
  have hz : x.length ≤ sizeLine := Nat.le_of_lt (small1000 h)
  refine s_if (tt_w (tw_or (tc_eqS (tb_sh (v_ E.v_text)) (tb_sh te_str)).1 (fun hb => (tw_or (tc_gt (tb_sh (te_lenS E.m_len (tb_sh (v_ E.v_text)) (hz) E.g_len)) (tb_sh (te_globE E.n_LONGEST_NAME E.g_LONGEST_NAME))).1 (fun hb2 => (tw_or1 (tc_memS (tb_sh (v_ E.v_text)) (tb_sh (te_globT E.n_WORDS E.g_WORDS)) (rfl) rfl).1)))))) (fun hp => ?_) (fun hp => tbs_nil ?_)
  · refine s_ret te_bl ?_
    have hp : (decide (x = "") || (decide ((12 : Int) < (x.length : Nat)) || decide (x ∈ words19))) = true := hp
    show T.sh _ = T.sh (.bl (nmOk x))
    refine congrArg (fun z => T.sh (.bl z)) ?_
    simp only [Bool.or_eq_true, decide_eq_true_eq] at hp
    unfold nmOk
    rcases hp with z | z | z
    · subst z; decide +kernel
    · rw [decide_eq_false (p := x.length ≤ 12) (by omega), Bool.false_and, Bool.and_false]
    · rw [decide_eq_true z, Bool.not_true, Bool.false_and, Bool.and_false, Bool.and_false]
  have hp : (decide (x = "") || (decide ((12 : Int) < (x.length : Nat)) || decide (x ∈ words19))) = false := hp
  simp only [Bool.or_eq_false_iff, decide_eq_false_iff_not] at hp
  obtain ⟨h1, h2, h3⟩ := hp
  have hl1 : 1 ≤ x.length := by
    rcases Nat.eq_zero_or_pos x.length with z | z
    · exact absurd (str_nil z) h1
    · exact z
  have hll : x.cps.toList.length = x.length := by simp [Str.length]
  have hnm : nmOk x = (isLt (x.cps.toList.getD 0 0) && x.cps.toList.all (fun c => isLt c || isFg c)) := by
    unfold nmOk
    rw [decide_eq_true hl1, decide_eq_true (show x.length ≤ 12 by omega), decide_eq_false h3]
    rfl
  refine s_if (tc_notInStr (tb_sh (tb_ixS (tb_sh (v_ E.v_text)) (tb_sh te_int) hz (at_get 0 (by omega) (by omega)))) (tb_sh (te_globS E.n_LETTERS E.g_LETTERS)) rfl).1 (fun hp => ?_) (fun hp => tbs_nil ?_)
  · refine s_ret te_bl ?_
    rw [in_letters] at hp
    have hp : (!isLt (x.cps.toList.getD 0 0)) = true := hp
    rw [Bool.not_eq_true'] at hp
    show T.sh _ = T.sh (.bl (nmOk x))
    rw [hnm, hp]
    rfl
  rw [in_letters] at hp
  have hp : (!isLt (x.cps.toList.getD 0 0)) = false := hp
  rw [Bool.not_eq_false'] at hp
  refine s_for E.g E.l_sign (fun j δ => (∃ o, δ = [some (.sh (.str x)), o]) ∧ (x.cps.toList.take j).all (fun c => isLt c || isFg c) = true)
    (ti_str (v_ E.v_text)) ⟨⟨_, rfl⟩, rfl⟩ (fun j δ ⟨⟨_, e⟩, _⟩ => by subst e; exact Nat.le_of_ble_eq_true rfl) ?turn ?fin
  case turn =>
    rintro j d δ hj ⟨⟨o, rfl⟩, hall⟩
    obtain ⟨c, rfl, hc⟩ := letters_at hj
    refine s_if (tc_notInStr (tb_sh (v_ E.v_sign)) (tb_sh (te_globS E.n_LETTERS_AND_FIGURES E.g_LETTERS_AND_FIGURES)) rfl).1 (fun hq => ?_) (fun hq => tbs_nil (tbs_nil ⟨⟨_, rfl⟩, ?_⟩))
    · refine s_ret te_bl ?_
      rw [in_both] at hq
      have hq : (isLt c || isFg c) = false := by simpa using hq
      show T.sh _ = T.sh (.bl (nmOk x))
      have ha : x.cps.toList.all (fun c => isLt c || isFg c) = false := by
        rw [List.all_eq_false]
        exact ⟨c, List.mem_of_getElem? hc, by rw [hq]; decide⟩
      rw [hnm, ha, Bool.and_false]
    · rw [in_both] at hq
      have hq : (!(isLt c || isFg c)) = false := hq
      rw [Bool.not_eq_false'] at hq
      rw [List.take_add_one, hc, List.all_append, hall]
      show (true && ([c].all fun c => isLt c || isFg c)) = true
      rw [List.all_cons, hq]
      rfl
  case fin =>
    rintro δ ⟨⟨o, rfl⟩, hall⟩
    refine s_ret te_bl ?_
    rw [show (lettersD x).length = x.cps.toList.length by simp [lettersD], List.take_length] at hall
    show T.sh _ = T.sh (.bl (nmOk x))
    rw [hnm, hp, hall]
    rfl
theorem ck_is_name : chk (defScope s_is_name) ([("text", .local), ("sign", .local), ("len", .globalImplicit), ("LONGEST_NAME", .globalImplicit), ("WORDS", .globalImplicit), ("LETTERS", .globalImplicit), ("LETTERS_AND_FIGURES", .globalImplicit)]) = true := by decide +kernel
theorem sc_is_name : FnScope ["text", "sign"] ["text"] (defScope s_is_name) := ⟨rfl, rfl, rfl, by decide +kernel, rfl, by decide +kernel, by decide +kernel⟩
abbrev s_words : Stmt := top 7
abbrev A_words : Type := Unit
def arg_words : A_words → List L3.D := fun a => (fun (u : Unit) => []) a
def pre_words : A_words → Prop := fun a => (fun (u : Unit) => True) a
def res_words : A_words → T := fun a => (fun (u : Unit) => (.lst ((words19.map .str).map T.sh) : T)) a
structure E_words (X : Cx) (CL : Str → Addr) : Prop where
  g : Gx X
  u : X.A.units + 64 < cLine
  v_some : Vn X 0 "some"
  l_some : Ln X 0 "some"
theorem d_words {X : Cx} {CL : Str → Addr} {b : Bx} (E : E_words X CL) (u : Unit) (h : True) :
    TBs X CL b (defBody s_words) (entry ["some"] []) { nx := fun _ => (.lst ((words19.map .str).map T.sh) : T) = .sh .non, rt := fun v__ => v__ = .lst ((words19.map .str).map T.sh) } := by
  refine s_set E.g E.l_some te_str ?_
  exact s_ret (te_split (l := words19) (tb_sh (v_ E.v_some)) (tb_sh te_str) (by decide +kernel) (by rw [sizeLine_eq]; decide +kernel) (by decide +kernel) (small_len rfl)) rfl
theorem ck_words : chk (defScope s_words) ([("some", .local)]) = true := by decide +kernel
theorem sc_words : FnScope ["some"] [] (defScope s_words) := ⟨rfl, rfl, rfl, by decide +kernel, rfl, by decide +kernel, by decide +kernel⟩
def anyS : Str := " !\"#$&'()*+,-./0123456789:;<=>?@ABCDEFGHIJKLMNOPQRSTUVWXYZ[\\]^_`" ++ "abcdefghijklmnopqrstuvwxyz{|}~\n"
theorem anyS_len : anyS.length = 94 + 1 - 1 + (anyS.length - 94) := by decide +kernel
def anyM (c : Int) : Str := ⟨#[anyS.cps.toList.getD (c % (anyS.length : Nat)).toNat 0]⟩
abbrev s_any_sign : Stmt := top 8
abbrev A_any_sign : Type := Int
def arg_any_sign : A_any_sign → List L3.D := fun a => (fun (c : Int) => [.int c]) a
def pre_any_sign : A_any_sign → Prop := fun a => (fun (c : Int) => True) a
def res_any_sign : A_any_sign → T := fun a => (fun (c : Int) => (.sh (.str (anyM c)) : T)) a
structure E_any_sign (X : Cx) (CL : Str → Addr) : Prop where
  g : Gx X
  u : X.A.units + 64 < cLine
  v_cell : Vn X 0 "cell"
  l_cell : Ln X 0 "cell"
  v_some : Vn X 1 "some"
  l_some : Ln X 1 "some"
  g_len : Gl X "len"
  m_len : X.mg "len" = none
theorem d_any_sign {X : Cx} {CL : Str → Addr} {b : Bx} (E : E_any_sign X CL) (c : Int) (h : True) :
    TBs X CL b (defBody s_any_sign) (entry ["cell", "some"] [.int c]) { nx := fun _ => (.sh (.str (anyM c)) : T) = .sh .non, rt := fun v__ => v__ = .sh (.str (anyM c)) } := by
  have hz : anyS.length ≤ sizeLine := by rw [sizeLine_eq]; decide +kernel
  have hp : 0 < anyS.length := by decide +kernel
  have hl : anyS.cps.toList.length = anyS.length := by simp [Str.length]
  refine s_set E.g E.l_some te_str ?_
  refine s_set E.g E.l_some (te_eq (te_cat (tb_sh (v_ E.v_some)) (tb_sh te_str) (by rw [sizeLine_eq]; decide +kernel)) (t2 := .sh (.str anyS)) rfl) ?_
  have m0 := Int.emod_nonneg c (b := (anyS.length : Nat)) (by omega)
  have m1 := Int.emod_lt_of_pos c (b := (anyS.length : Nat)) (by omega)
  exact s_ret (tb_ixS (tb_sh (v_ E.v_some)) (tb_sh (te_mod (tb_sh (v_ E.v_cell)) (tb_sh (te_lenS E.m_len (tb_sh (v_ E.v_some)) (hz) E.g_len)) (by omega))) hz (at_get 0 m0 (by omega))) rfl
theorem ck_any_sign : chk (defScope s_any_sign) ([("cell", .local), ("some", .local), ("len", .globalImplicit)]) = true := by decide +kernel
theorem sc_any_sign : FnScope ["cell", "some"] ["cell"] (defScope s_any_sign) := ⟨rfl, rfl, rfl, by decide +kernel, rfl, by decide +kernel, by decide +kernel⟩
def plS : Str := "abcdefghijklmnopqrstuvwxyz0123456789"
def plM (c : Int) : Str := ⟨#[plS.cps.toList.getD (c % 36).toNat 0]⟩
abbrev s_plain_sign : Stmt := top 9
abbrev A_plain_sign : Type := Int
def arg_plain_sign : A_plain_sign → List L3.D := fun a => (fun (c : Int) => [.int c]) a
def pre_plain_sign : A_plain_sign → Prop := fun a => (fun (c : Int) => True) a
def res_plain_sign : A_plain_sign → T := fun a => (fun (c : Int) => (.sh (.str (plM c)) : T)) a
structure E_plain_sign (X : Cx) (CL : Str → Addr) : Prop where
  g : Gx X
  u : X.A.units + 64 < cLine
  v_cell : Vn X 0 "cell"
  l_cell : Ln X 0 "cell"
theorem d_plain_sign {X : Cx} {CL : Str → Addr} {b : Bx} (E : E_plain_sign X CL) (c : Int) (h : True) :
    TBs X CL b (defBody s_plain_sign) (entry ["cell"] [.int c]) { nx := fun _ => (.sh (.str (plM c)) : T) = .sh .non, rt := fun v__ => v__ = .sh (.str (plM c)) } := by
  have hl : plS.cps.toList.length = 36 := by decide +kernel
  have m0 := Int.emod_nonneg c (b := 36) (by decide)
  have m1 := Int.emod_lt_of_pos c (b := 36) (by decide)
  exact s_ret (tb_ixS (tb_sh (te_eq te_str (t2 := .sh (.str plS)) rfl)) (tb_sh (te_mod (tb_sh (v_ E.v_cell)) (tb_sh te_int) (by decide))) (by rw [sizeLine_eq]; decide +kernel) (at_get 0 m0 (by omega))) rfl
theorem ck_plain_sign : chk (defScope s_plain_sign) ([("cell", .local)]) = true := by decide +kernel
theorem sc_plain_sign : FnScope ["cell"] ["cell"] (defScope s_plain_sign) := ⟨rfl, rfl, rfl, by decide +kernel, rfl, by decide +kernel, by decide +kernel⟩
def wordBy (c : Int) : Str := words19.getD (c % 19).toNat Str.empty
def mkIter (way : Int) (p : Str × Int) : Nat → Str × Int
  | 0 => p
  | n + 1 => ((mkIter way p n).1 ++ (if way = 2 then anyM (mkIter way p n).2 else plM (mkIter way p n).2), (mkIter way p n).2 / 96)
def abS : Str := "abcdefghijklmnopqrstuvwxyz"
def ltM (c : Int) : Str := ⟨#[abS.cps.toList.getD (c % 26).toNat 0]⟩
def spoilM (made : Str) (c : Int) : Str := if c / 400 % 3 = 1 then Txt.slice made none (some (c / 26 % (made.length : Nat))) ++ anyM (c / 1200) ++ Txt.slice made (some (c / 26 % (made.length : Nat) + 1)) none else made
def endM (way : Int) (p : Str × Int) : Str := if way = 3 ∧ p.1 ≠ "" then spoilM (ltM p.2 ++ Txt.slice p.1 (some 1) none) p.2 else p.1
def textBy (c : Int) : Str := if c % 5 < 2 then (if c % 5 = 1 ∧ c / 5 / 19 % 2 = 0 then wordBy (c / 5) ++ anyM (c / 5 / 38) else if c % 5 = 1 then Txt.slice (wordBy (c / 5)) none (some (-1)) else wordBy (c / 5)) else endM (c % 5) (mkIter (c % 5) (Str.empty, c / 5 / 15) (c / 5 % 15).toNat)
theorem mk_len (way : Int) (p : Str × Int) (n : Nat) : (mkIter way p n).1.length = p.1.length + n := by
  induction n with
  | zero => rfl
  | succ n ih =>
    show ((mkIter way p n).1 ++ _).length = _
    rw [str_len, ih]
    split <;> (show _ + 1 = _; omega)
theorem word_len (c : Int) : (wordBy c).length ≤ 4 := by
  have h : ∀ w ∈ words19, w.length ≤ 4 := by decide +kernel
  unfold wordBy
  rw [List.getD_eq_getElem?_getD]
  cases e : words19[(c % 19).toNat]? with
  | none => exact Nat.zero_le _
  | some w => exact h w (List.mem_of_getElem? e)
theorem any_len (c : Int) : (anyM c).length = 1 := rfl
theorem lt_len (c : Int) : (ltM c).length = 1 := rfl
theorem end_len (way : Int) (p : Str × Int) (h : p.1.length ≤ 14) : (endM way p).length ≤ 40 := by
  unfold endM
  split
  · have h1 := Txt.slice_le p.1 (some 1) none
    unfold spoilM
    have h2 : (ltM p.2 ++ Txt.slice p.1 (some 1) none).length ≤ 15 := by rw [str_len, lt_len]; omega
    generalize ltM p.2 ++ Txt.slice p.1 (some 1) none = m at h2
    split
    · have h3 := Txt.slice_le m none (some (p.2 / 26 % (m.length : Nat)))
      have h4 := Txt.slice_le m (some (p.2 / 26 % (m.length : Nat) + 1)) none
      rw [str_len, str_len, any_len]
      omega
    · omega
  · omega
theorem text_len (c : Int) : (textBy c).length ≤ 40 := by
  unfold textBy
  have hw := word_len (c / 5)
  split
  · split
    · rw [str_len, any_len]; omega
    · split
      · have := Txt.slice_le (wordBy (c / 5)) none (some (-1)); omega
      · omega
  · refine end_len _ _ ?_
    rw [mk_len]
    have := Int.emod_lt_of_pos (c / 5) (b := 15) (by decide)
    show 0 + _ ≤ 14
    omega
abbrev s_text_by : Stmt := top 10
abbrev A_text_by : Type := Int
def arg_text_by : A_text_by → List L3.D := fun a => (fun (c : Int) => [.int c]) a
def pre_text_by : A_text_by → Prop := fun a => (fun (c : Int) => 0 ≤ c) a
def res_text_by : A_text_by → T := fun a => (fun (c : Int) => (.sh (.str (textBy c)) : T)) a
structure E_text_by (X : Cx) (CL : Str → Addr) : Prop where
  g : Gx X
  u : X.A.units + 64 < cLine
  v_cell : Vn X 0 "cell"
  l_cell : Ln X 0 "cell"
  v_way : Vn X 1 "way"
  l_way : Ln X 1 "way"
  v_word : Vn X 2 "word"
  l_word : Ln X 2 "word"
  v_many : Vn X 3 "many"
  l_many : Ln X 3 "many"
  v_made : Vn X 4 "made"
  l_made : Ln X 4 "made"
  v_k : Vn X 5 "k"
  l_k : Ln X 5 "k"
  v_at : Vn X 6 "at"
  l_at : Ln X 6 "at"
  g__law_words : Gl X "_law_words"
  g__law_any_sign : Gl X "_law_any_sign"
  g_range : Gl X "range"
  g__law_plain_sign : Gl X "_law_plain_sign"
  g_len : Gl X "len"
  c_words : Fc X CL "_law_words" 1 0 arg_words pre_words res_words
  c_any_sign : Fc X CL "_law_any_sign" 1 1 arg_any_sign pre_any_sign res_any_sign
  m_range : X.mg "range" = none
  c_plain_sign : Fc X CL "_law_plain_sign" 1 1 arg_plain_sign pre_plain_sign res_plain_sign
  m_len : X.mg "len" = none
theorem d_text_by {X : Cx} {CL : Str → Addr} {b : Bx} (E : E_text_by X CL) (c : Int) (h : 0 ≤ c) :
    TBs X CL b (defBody s_text_by) (entry ["cell", "way", "word", "many", "made", "k", "at"] [.int c]) { nx := fun _ => (.sh (.str (textBy c)) : T) = .sh .non, rt := fun v__ => v__ = .sh (.str (textBy c)) } := by
  show TBs X CL b _ _ { nx := _, rt := fun v__ => v__ = T.sh (.str (textBy c)), bk := _, ct := _ }
  unfold textBy
  refine s_set E.g E.l_way (te_mod (tb_sh (v_ E.v_cell)) (tb_sh te_int) (by decide)) ?_
  refine s_set E.g E.l_cell (te_fdiv (tb_sh (v_ E.v_cell)) (tb_sh te_int) ⟨by decide, by decide⟩) ?_
  have w0 := Int.emod_nonneg c (b := 5) (by decide)
  generalize c % 5 = way at w0 ⊢
  generalize c / 5 = d
  have m0 := Int.emod_nonneg d (b := 19) (by decide)
  have m1 := Int.emod_lt_of_pos d (b := 19) (by decide)
  have hwl := word_len d
  refine s_if (tc_lt (tb_sh (v_ E.v_way)) (tb_sh te_int)).1 (fun hp => ?_) (fun hp => tbs_nil ?_)
  · rw [if_pos (of_decide_eq_true hp)]
    refine s_set E.g E.l_word (te_eq (te_imm (tb_ixL (tb_lst (ds := words19.map .str) (c0 () E.c_words E.g__law_words rfl trivial (by decide +kernel))) (tb_sh (te_mod (tb_sh (v_ E.v_cell)) (tb_sh te_int) (by decide))) (at_map Str.empty m0 m1)) rfl) (t2 := .sh (.str (wordBy d))) rfl) ?_
    generalize wordBy d = w at hwl ⊢
    refine s_ifJ (fun δ => ∃ w', w' = (if way = 1 ∧ d / 19 % 2 = 0 then w ++ anyM (d / 38) else if way = 1 then Txt.slice w none (some (-1)) else w) ∧ δ = [some (.sh (.int d)), some (.sh (.int way)), some (.sh (.str w')), none, none, none, none]) (tt_w (tw_and (tc_eqI (tb_sh (v_ E.v_way)) (tb_sh te_int)).1 (fun hb => (tw_and1 (tc_eqI (tb_sh (te_mod (tb_sh (te_fdiv (tb_sh (v_ E.v_cell)) (tb_sh te_int) ⟨by decide, by decide⟩)) (tb_sh te_int) (by decide))) (tb_sh te_int)).1)))) (fun hq => ?_) (fun hq => ?_) ?_
    · have hq : (decide (way = 1) && decide (d / 19 % 2 = 0)) = true := hq
      rw [Bool.and_eq_true, decide_eq_true_eq, decide_eq_true_eq] at hq
      rw [if_pos hq]
      exact s_set E.g E.l_word (te_cat (tb_sh (v_ E.v_word)) (tb_sh (c_ (d / 38) E.c_any_sign E.g__law_any_sign (ba_cons (tb_sh (te_fdiv (tb_sh (v_ E.v_cell)) (tb_sh te_int) ⟨by decide, by decide⟩)) ba_nil) (trivial) rfl)) ((by rw [sizeLine_eq]; show w.length + 1 ≤ _; omega))) (tbs_nil ⟨_, rfl, rfl⟩)
    · have hq : (decide (way = 1) && decide (d / 19 % 2 = 0)) = false := hq
      rw [if_neg (fun z => by rw [decide_eq_true z.1, decide_eq_true z.2] at hq; cases hq)]
      refine s_if (tc_eqI (tb_sh (v_ E.v_way)) (tb_sh te_int)).1 (fun hr => ?_) (fun hr => tbs_nil (tbs_nil ⟨_, (if_neg (of_decide_eq_false hr)).symm, rfl⟩))
      rw [if_pos (of_decide_eq_true hr)]
      exact s_set E.g E.l_word (te_sliceS (tb_sh (v_ E.v_word)) (by rw [sizeLine_eq]; omega) to_none (to_some (tb_sh (te_neg (tb_sh te_int))))) (tbs_nil (tbs_nil ⟨_, rfl, rfl⟩))
    · rintro δ ⟨w', hw', rfl⟩
      refine s_ret (v_ E.v_word) ?_
      rw [hw']
  rw [if_neg (of_decide_eq_false hp)]
  have n0 := Int.emod_nonneg d (b := 15) (by decide)
  have n1 := Int.emod_lt_of_pos d (b := 15) (by decide)
  refine s_set E.g E.l_many (te_mod (tb_sh (v_ E.v_cell)) (tb_sh te_int) (by decide)) ?_
  refine s_set E.g E.l_cell (te_fdiv (tb_sh (v_ E.v_cell)) (tb_sh te_int) ⟨by decide, by decide⟩) ?_
  refine s_set E.g E.l_made (te_eq te_str (t2 := .sh (.str Str.empty)) rfl) ?_
  refine s_for E.g E.l_k (fun j δ => ∃ o5 , δ = [some (.sh (.int (mkIter way (Str.empty, d / 15) j).2)), some (.sh (.int way)), none, some (.sh (.int (d % 15))), some (.sh (.str (mkIter way (Str.empty, d / 15) j).1)), o5, none])
    (ti_range E.m_range (tb_sh (v_ E.v_many)) (by omega) E.g_range) ⟨_, rfl⟩ (fun j δ ⟨_, e⟩ => by subst e; exact Nat.le_of_ble_eq_true rfl) ?turn ?fin
  case turn =>
    rintro j dd δ hj ⟨o5, rfl⟩
    obtain ⟨rfl, hjl⟩ := iota_get hj
    have hml := mk_len way (Str.empty, d / 15) j
    have he0 : (Str.empty, d / 15).1.length = 0 := rfl
    show TBs X CL b _ _ { nx := fun δ => ∃ o5, δ = [some (.sh (.int ((mkIter way (Str.empty, d / 15) j).2 / 96))), some (.sh (.int way)), none, some (.sh (.int (d % 15))), some (.sh (.str ((mkIter way (Str.empty, d / 15) j).1 ++ (if way = 2 then anyM (mkIter way (Str.empty, d / 15) j).2 else plM (mkIter way (Str.empty, d / 15) j).2)))), o5, none], rt := _, bk := _, ct := _ }
    generalize mkIter way (Str.empty, d / 15) j = p at hml ⊢
    obtain ⟨made, cell⟩ := p
    have hml : made.length ≤ 20 := by have hml : made.length = (Str.empty, d / 15).1.length + j := hml; omega
    refine s_ifJ (fun δ => ∃ o5, δ = [some (.sh (.int cell)), some (.sh (.int way)), none, some (.sh (.int (d % 15))), some (.sh (.str (made ++ (if way = 2 then anyM cell else plM cell)))), o5, none]) (tc_eqI (tb_sh (v_ E.v_way)) (tb_sh te_int)).1 (fun hq => ?_) (fun hq => ?_) ?_
    · rw [if_pos (of_decide_eq_true hq)]
      exact s_set E.g E.l_made (te_cat (tb_sh (v_ E.v_made)) (tb_sh (c_ (cell) E.c_any_sign E.g__law_any_sign (ba_cons (tb_sh (v_ E.v_cell)) ba_nil) (trivial) rfl)) ((by rw [sizeLine_eq]; show made.length + 1 ≤ _; omega))) (tbs_nil ⟨_, rfl⟩)
    · rw [if_neg (of_decide_eq_false hq)]
      exact s_set E.g E.l_made (te_cat (tb_sh (v_ E.v_made)) (tb_sh (c_ (cell) E.c_plain_sign E.g__law_plain_sign (ba_cons (tb_sh (v_ E.v_cell)) ba_nil) (trivial) rfl)) ((by rw [sizeLine_eq]; show made.length + 1 ≤ _; omega))) (tbs_nil ⟨_, rfl⟩)
    · rintro δ ⟨o5, rfl⟩
      exact s_set E.g E.l_cell (te_fdiv (tb_sh (v_ E.v_cell)) (tb_sh te_int) ⟨by decide, by decide⟩) (tbs_nil ⟨_, rfl⟩)
  case fin =>
    rintro δ ⟨o5, rfl⟩
    rw [show (iotaD 0 (d % 15).toNat).length = (d % 15).toNat by simp [iotaD]]
    have hml := mk_len way (Str.empty, d / 15) (d % 15).toNat
    have he0 : (Str.empty, d / 15).1.length = 0 := rfl
    generalize mkIter way (Str.empty, d / 15) (d % 15).toNat = p at hml ⊢
    obtain ⟨made, cell⟩ := p
    have hml : made.length ≤ 14 := by have hml : made.length = (Str.empty, d / 15).1.length + (d % 15).toNat := hml; omega
    unfold endM
    have hsl := Txt.slice_le made (some 1) none
    have hab : abS.cps.toList.length = 26 := by decide +kernel
    have q0 := Int.emod_nonneg cell (b := 26) (by decide)
    have q1 := Int.emod_lt_of_pos cell (b := 26) (by decide)
    refine s_if (tt_w (tw_and (tc_eqI (tb_sh (v_ E.v_way)) (tb_sh te_int)).1 (fun hb => (tw_and1 (tc_neS (tb_sh (v_ E.v_made)) (tb_sh te_str)).1)))) (fun hq => ?_) (fun hq => tbs_nil ?_)
    · have hq : (decide (way = 3) && !decide (made = "")) = true := hq
      simp only [Bool.and_eq_true, decide_eq_true_eq, Bool.not_eq_true', decide_eq_false_iff_not] at hq
      rw [if_pos hq]
      refine s_set E.g E.l_made (te_eq (te_cat (tb_sh (te_eq (tb_ixS (tb_sh (te_eq te_str (t2 := .sh (.str abS)) rfl)) (tb_sh (te_mod (tb_sh (v_ E.v_cell)) (tb_sh te_int) (by decide))) (by rw [sizeLine_eq]; decide +kernel) (at_get 0 q0 (by omega))) (t2 := .sh (.str (ltM cell))) rfl)) (tb_sh (te_sliceS (tb_sh (v_ E.v_made)) (by rw [sizeLine_eq]; omega) (to_some (tb_sh te_int)) to_none)) (by rw [sizeLine_eq, lt_len]; omega)) (t2 := .sh (.str (ltM cell ++ Txt.slice made (some 1) none))) rfl) ?_
      have h2 : 1 ≤ (ltM cell ++ Txt.slice made (some 1) none).length ∧ (ltM cell ++ Txt.slice made (some 1) none).length ≤ 15 := by rw [str_len, lt_len]; omega
      show TBs X CL b _ _ { nx := _, rt := fun v__ => v__ = T.sh (.str (spoilM (ltM cell ++ Txt.slice made (some 1) none) cell)), bk := _, ct := _ }
      generalize ltM cell ++ Txt.slice made (some 1) none = m at h2 ⊢
      unfold spoilM
      have hz : m.length ≤ sizeLine := by rw [sizeLine_eq]; omega
      refine s_set E.g E.l_at (te_mod (tb_sh (te_fdiv (tb_sh (v_ E.v_cell)) (tb_sh te_int) ⟨by decide, by decide⟩)) (tb_sh (te_lenS E.m_len (tb_sh (v_ E.v_made)) (hz) E.g_len)) (by omega)) ?_
      have h3 := Txt.slice_le m none (some (cell / 26 % (m.length : Nat)))
      have h4 := Txt.slice_le m (some (cell / 26 % (m.length : Nat) + 1)) none
      have h5 := any_len (cell / 1200)
      have h6 : (Txt.slice m none (some (cell / 26 % (m.length : Nat)))).length + (anyM (cell / 1200)).length ≤ sizeLine := by rw [sizeLine_eq]; omega
      have h7 : (Txt.slice m none (some (cell / 26 % (m.length : Nat))) ++ anyM (cell / 1200)).length + (Txt.slice m (some (cell / 26 % (m.length : Nat) + 1)) none).length ≤ sizeLine := by rw [sizeLine_eq, str_len]; omega
      refine s_if (tc_eqI (tb_sh (te_mod (tb_sh (te_fdiv (tb_sh (v_ E.v_cell)) (tb_sh te_int) ⟨by decide, by decide⟩)) (tb_sh te_int) (by decide))) (tb_sh te_int)).1 (fun hr => ?_) (fun hr => tbs_nil (tbs_nil ?_))
      · rw [if_pos (of_decide_eq_true hr)]
        refine s_set E.g E.l_made (te_cat (tb_sh (te_cat (tb_sh (te_sliceS (tb_sh (v_ E.v_made)) hz to_none (to_some (tb_sh (v_ E.v_at))))) (tb_sh (c_ (cell / 1200) E.c_any_sign E.g__law_any_sign (ba_cons (tb_sh (te_fdiv (tb_sh (v_ E.v_cell)) (tb_sh te_int) ⟨by decide, by decide⟩)) ba_nil) (trivial) rfl)) h6)) (tb_sh (te_sliceS (tb_sh (v_ E.v_made)) hz (to_some (tb_sh (te_add (tb_sh (v_ E.v_at)) (tb_sh te_int)))) to_none)) h7) (tbs_nil (tbs_nil ?_))
        exact s_ret (v_ E.v_made) rfl
      · rw [if_neg (of_decide_eq_false hr)]
        exact s_ret (v_ E.v_made) rfl
    · have hq : (decide (way = 3) && !decide (made = "")) = false := hq
      rw [if_neg (fun z => by rw [decide_eq_true z.1, decide_eq_false z.2] at hq; cases hq)]
      exact s_ret (v_ E.v_made) rfl
theorem ck_text_by : chk (defScope s_text_by) ([("cell", .local), ("way", .local), ("word", .local), ("many", .local), ("made", .local), ("k", .local), ("at", .local), ("_law_words", .globalImplicit), ("_law_any_sign", .globalImplicit), ("range", .globalImplicit), ("_law_plain_sign", .globalImplicit), ("len", .globalImplicit)]) = true := by decide +kernel
theorem sc_text_by : FnScope ["cell", "way", "word", "many", "made", "k", "at"] ["cell"] (defScope s_text_by) := ⟨rfl, rfl, rfl, by decide +kernel, rfl, by decide +kernel, by decide +kernel⟩
theorem le_a (c k : Nat) : (!decide ([c] < [k])) = decide (k ≤ c) := by
  by_cases h : k ≤ c
  · rw [decide_eq_true h, decide_eq_false]
    · rfl
    · intro z
      simp [List.cons_lt_cons_iff] at z
      omega
  · rw [decide_eq_false h, decide_eq_true]
    · rfl
    · simp [List.cons_lt_cons_iff]
      omega
abbrev s_due : Stmt := top 11
abbrev A_due : Type := Str
def arg_due : A_due → List L3.D := fun a => (fun (x : Str) => [.str x]) a
def pre_due : A_due → Prop := fun a => (fun (x : Str) => x.length ≤ 1000) a
def res_due : A_due → T := fun a => (fun (x : Str) => (.sh (.bl (nmOk x)) : T)) a
structure E_due (X : Cx) (CL : Str → Addr) : Prop where
  g : Gx X
  u : X.A.units + 64 < cLine
  v_text : Vn X 0 "text"
  l_text : Ln X 0 "text"
  v_letters : Vn X 1 "letters"
  l_letters : Ln X 1 "letters"
  v_sign : Vn X 2 "sign"
  l_sign : Ln X 2 "sign"
  v_first : Vn X 3 "first"
  l_first : Ln X 3 "first"
  g_len : Gl X "len"
  g__law_words : Gl X "_law_words"
  m_len : X.mg "len" = none
  c_words : Fc X CL "_law_words" 1 0 arg_words pre_words res_words
theorem d_due {X : Cx} {CL : Str → Addr} {b : Bx} (E : E_due X CL) (x : Str) (h : x.length ≤ 1000) :
    TBs X CL b (defBody s_due) (entry ["text", "letters", "sign", "first"] [.str x]) { nx := fun _ => (.sh (.bl (nmOk x)) : T) = .sh .non, rt := fun v__ => v__ = .sh (.bl (nmOk x)) } := by
  have hz : x.length ≤ sizeLine := Nat.le_of_lt (small1000 h)
  refine s_if (tt_w (tw_or (tc_eqI (tb_sh (te_lenS E.m_len (tb_sh (v_ E.v_text)) (hz) E.g_len)) (tb_sh te_int)).1 (fun hb => (tw_or1 (tc_gt (tb_sh (te_lenS E.m_len (tb_sh (v_ E.v_text)) (hz) E.g_len)) (tb_sh te_int)).1)))) (fun hp => ?_) (fun hp => tbs_nil ?_)
  · refine s_ret te_bl ?_
    have hp : (decide (((x.length : Nat) : Int) = 0) || decide ((12 : Int) < (x.length : Nat))) = true := hp
    show T.sh _ = T.sh (.bl (nmOk x))
    refine congrArg (fun z => T.sh (.bl z)) ?_
    simp only [Bool.or_eq_true, decide_eq_true_eq] at hp
    unfold nmOk
    rcases hp with z | z
    · rw [decide_eq_false (p := 1 ≤ x.length) (by omega), Bool.false_and]
    · rw [decide_eq_false (p := x.length ≤ 12) (by omega), Bool.false_and, Bool.and_false]
  have hp : (decide (((x.length : Nat) : Int) = 0) || decide ((12 : Int) < (x.length : Nat))) = false := hp
  simp only [Bool.or_eq_false_iff, decide_eq_false_iff_not] at hp
  have hl1 : 1 ≤ x.length := by omega
  have hll : x.cps.toList.length = x.length := by simp [Str.length]
  have hnm : nmOk x = (!decide (x ∈ words19) && (isLt (x.cps.toList.getD 0 0) && x.cps.toList.all (fun c => isLt c || isFg c))) := by
    unfold nmOk
    rw [decide_eq_true hl1, decide_eq_true (show x.length ≤ 12 by omega)]
    rfl
  refine s_set E.g E.l_letters te_int ?_
  refine s_for E.g E.l_sign (fun j δ => (∃ o o', δ = [some (.sh (.str x)), some (.sh (.int (((x.cps.toList.take j).filter isLt).length : Nat))), o, o']) ∧ (x.cps.toList.take j).all (fun c => isLt c || isFg c) = true)
    (ti_str (v_ E.v_text)) ⟨⟨_, _, rfl⟩, rfl⟩ (fun j δ ⟨⟨_, _, e⟩, _⟩ => by subst e; exact Nat.le_of_ble_eq_true rfl) ?turn ?fin
  case turn =>
    rintro j d δ hj ⟨⟨o, o', rfl⟩, hall⟩
    obtain ⟨c, rfl, hc⟩ := letters_at hj
    have htk : x.cps.toList.take (j + 1) = x.cps.toList.take j ++ [c] := by rw [List.take_add_one, hc]; rfl
    refine s_if (tt_w (tw_and (tc_leS (tb_sh te_str) (tb_sh (v_ E.v_sign))).1 (fun hb => (tw_and1 (tc_leS (tb_sh (v_ E.v_sign)) (tb_sh te_str)).1)))) (fun hq => ?_) (fun hq => ?_)
    · have hq : ((!decide ([c] < [97])) && (!decide ([122] < [c]))) = true := hq
      rw [le_a, le_a] at hq
      have hq : isLt c = true := hq
      refine s_set E.g E.l_letters (te_eq (te_add (tb_sh (v_ E.v_letters)) (tb_sh te_int)) (t2 := .sh (.int (((x.cps.toList.take (j + 1)).filter isLt).length : Nat))) ?_) (tbs_nil (tbs_nil ⟨⟨_, _, rfl⟩, ?_⟩))
      · rw [htk, List.filter_append, List.filter_cons_of_pos hq, List.length_append]
        rfl
      · rw [htk, List.all_append, hall]
        simp [hq]
    · have hq : ((!decide ([c] < [97])) && (!decide ([122] < [c]))) = false := hq
      rw [le_a, le_a] at hq
      have hq : isLt c = false := hq
      refine s_if (tt_not (tt_w (tw_and (tc_leS (tb_sh te_str) (tb_sh (v_ E.v_sign))).1 (fun hb => (tw_and1 (tc_leS (tb_sh (v_ E.v_sign)) (tb_sh te_str)).1))))) (fun hr => ?_) (fun hr => tbs_nil (tbs_nil (tbs_nil ⟨⟨some (.sh (.str ⟨#[c]⟩)), o', ?_⟩, ?_⟩)))
      · have hr : (!((!decide ([c] < [48])) && (!decide ([57] < [c])))) = true := hr
        rw [le_a, le_a] at hr
        have hr : (!isFg c) = true := hr
        rw [Bool.not_eq_true'] at hr
        refine s_ret te_bl ?_
        show T.sh _ = T.sh (.bl (nmOk x))
        have ha : x.cps.toList.all (fun c => isLt c || isFg c) = false := by
          rw [List.all_eq_false]
          exact ⟨c, List.mem_of_getElem? hc, by rw [hq, hr]; decide⟩
        rw [hnm, ha, Bool.and_false, Bool.and_false]
      · rw [htk, List.filter_append, List.filter_cons_of_neg (by rw [hq]; decide), List.filter_nil, List.append_nil]
        rfl
      · have hr : (!((!decide ([c] < [48])) && (!decide ([57] < [c])))) = false := hr
        rw [le_a, le_a] at hr
        have hr : (!isFg c) = false := hr
        rw [Bool.not_eq_false'] at hr
        rw [htk, List.all_append, hall]
        simp [hr]
  case fin =>
    rintro δ ⟨⟨o, o', rfl⟩, hall⟩
    rw [show (lettersD x).length = x.cps.toList.length by simp [lettersD], List.take_length] at hall ⊢
    refine s_set E.g E.l_first (tb_ixS (tb_sh (v_ E.v_text)) (tb_sh te_int) hz (at_get 0 (by omega) (by omega))) ?_
    refine s_ret (te_and (tc_leS (tb_sh te_str) (tb_sh (v_ E.v_first))).2 (fun hb => (te_and (tc_leS (tb_sh (v_ E.v_first)) (tb_sh te_str)).2 (fun hb2 => (te_and (tc_gt (tb_sh (v_ E.v_letters)) (tb_sh te_int)).2 (fun hb3 => (te_one (tc_notS (l := words19) (tb_sh (v_ E.v_text)) (tb_lst (ds := words19.map .str) (c0 () E.c_words E.g__law_words rfl trivial (by decide +kernel))) rfl rfl).2))))))) ?_
    show T.sh (.bl ((!decide ([x.cps.toList.getD 0 0] < [97])) && ((!decide ([122] < [x.cps.toList.getD 0 0])) && (decide ((0 : Int) < ((x.cps.toList.filter isLt).length : Nat)) && (!decide (x ∈ words19)))))) = T.sh (.bl (nmOk x))
    refine congrArg (fun z => T.sh (.bl z)) ?_
    rw [le_a, le_a, hnm, hall, Bool.and_true]
    cases hf : isLt (x.cps.toList.getD 0 0) with
    | true =>
      have hf' := hf
      unfold isLt at hf'
      rw [Bool.and_eq_true] at hf'
      have hmem : x.cps.toList.getD 0 0 ∈ x.cps.toList.filter isLt := by
        refine List.mem_filter.mpr ⟨?_, hf⟩
        rw [List.getD_eq_getElem?_getD, List.getElem?_eq_getElem (by omega)]
        exact List.getElem_mem _
      have hpos := List.length_pos_of_mem hmem
      rw [hf'.1, hf'.2, decide_eq_true (show (0 : Int) < ((x.cps.toList.filter isLt).length : Nat) by omega)]
      simp
    | false =>
      have hf' := hf
      unfold isLt at hf'
      rw [← Bool.and_assoc, hf']
      simp
theorem ck_due : chk (defScope s_due) ([("text", .local), ("letters", .local), ("sign", .local), ("first", .local), ("len", .globalImplicit), ("_law_words", .globalImplicit)]) = true := by decide +kernel
theorem sc_due : FnScope ["text", "letters", "sign", "first"] ["text"] (defScope s_due) := ⟨rfl, rfl, rfl, by decide +kernel, rfl, by decide +kernel, by decide +kernel⟩
abbrev s_law : Stmt := top 12
abbrev A_law : Type := (List Int)
def arg_law : A_law → List L3.D := fun a => (fun (a : List Int) => [.lst (a.map .int)]) a
def pre_law : A_law → Prop := fun a => (fun (a : List Int) => a.length ≤ 63) a
def res_law : A_law → T := fun a => (fun (a : List Int) => (.sh (.bl true) : T)) a
structure E_law (X : Cx) (CL : Str → Addr) : Prop where
  g : Gx X
  u : X.A.units + 64 < cLine
  v_script : Vn X 0 "script"
  l_script : Ln X 0 "script"
  v_cell : Vn X 1 "cell"
  l_cell : Ln X 1 "cell"
  v_text : Vn X 2 "text"
  l_text : Ln X 2 "text"
  v_found : Vn X 3 "found"
  l_found : Ln X 3 "found"
  g__law_text_by : Gl X "_law_text_by"
  g_is_name : Gl X "is_name"
  g_isinstance : Gl X "isinstance"
  g_bool : Gl X "bool"
  g__law_due : Gl X "_law_due"
  c_text_by : Fc X CL "_law_text_by" 2 1 arg_text_by pre_text_by res_text_by
  c_is_name : Fc X CL "is_name" 1 1 arg_is_name pre_is_name res_is_name
  m_isinstance : X.mg "isinstance" = none
  m_bool : X.mg "bool" = none
  c_due : Fc X CL "_law_due" 2 1 arg_due pre_due res_due
theorem d_law {X : Cx} {CL : Str → Addr} {b : Bx} (E : E_law X CL) (a : List Int) (h : a.length ≤ 63) :
    TBs X CL b (defBody s_law) (entry ["script", "cell", "text", "found"] [.lst (a.map .int)]) { nx := fun _ => (.sh (.bl true) : T) = .sh .non, rt := fun v__ => v__ = .sh (.bl true) } := by
  refine s_for E.g E.l_cell (fun j δ => ∃ o1 o2 o3, δ = [some (.sh (.lst (a.map .int))), o1, o2, o3])
    (ti_lst (te_frzL (ds := ((0 : Int) :: a).map .int) (te_catL (ds := [.int 0]) (ds2 := a.map .int) (tb_lst (ds := [.int 0]) (te_lst (ta_cons te_int ta_nil) (small_len rfl))) (tb_sh (v_ E.v_script)) rfl (imms_int _) (Nat.le_of_lt (small1000 (by simp; omega)))))) ⟨_, _, _, rfl⟩ (fun j δ ⟨_, _, _, e⟩ => by subst e; exact Nat.le_of_ble_eq_true rfl) ?turn ?fin
  case turn =>
    rintro j d δ hj ⟨o1, o2, o3, rfl⟩
    obtain ⟨c, rfl, _, _, hjl, _, _⟩ := map_at hj
    have m0 := Int.emod_nonneg c (b := 10 ^ (60 : Int).toNat) (by decide)
    refine s_set E.g E.l_text (c_ (c % 10 ^ (60 : Int).toNat) E.c_text_by E.g__law_text_by (ba_cons (tb_sh (te_mod (tb_sh (v_ E.v_cell)) (tb_sh (te_pow (tb_sh te_int) (tb_sh te_int) ⟨by decide, by decide, by decide⟩)) (by decide))) ba_nil) (m0) rfl) ?_
    rw [show res_text_by (c % 10 ^ (60 : Int).toNat) = T.sh (.str (textBy (c % 10 ^ (60 : Int).toNat))) from rfl]
    have hl := text_len (c % 10 ^ (60 : Int).toNat)
    generalize textBy (c % 10 ^ (60 : Int).toNat) = x at hl ⊢
    refine s_set E.g E.l_found (c_ (x) E.c_is_name E.g_is_name (ba_cons (tb_sh (v_ E.v_text)) ba_nil) ((by dsimp only [pre_is_name]; omega)) rfl) ?_
    rw [show res_is_name x = T.sh (.bl (nmOk x)) from rfl]
    refine s_if (tt_w (tw_or (tt_not (tt_of (isB E.m_isinstance E.m_bool E.g_isinstance E.g_bool (tb_sh (v_ E.v_found))))) (fun hb => (tw_or1 (tc_neB (tb_sh (v_ E.v_found)) (tb_sh (c_ (x) E.c_due E.g__law_due (ba_cons (tb_sh (v_ E.v_text)) ba_nil) ((by dsimp only [pre_due]; omega)) rfl))).1)))) (fun hp => ?_) (fun _ => tbs_nil (tbs_nil ⟨_, _, _, rfl⟩))
    have hp : (!true || !decide (nmOk x = nmOk x)) = true := hp
    rw [decide_eq_true rfl] at hp
    cases hp
  case fin =>
    rintro δ ⟨o1, o2, o3, rfl⟩
    exact s_ret te_bl rfl
theorem ck_law : chk (defScope s_law) ([("script", .local), ("cell", .local), ("text", .local), ("found", .local), ("_law_text_by", .globalImplicit), ("is_name", .globalImplicit), ("isinstance", .globalImplicit), ("bool", .globalImplicit), ("_law_due", .globalImplicit)]) = true := by decide +kernel
theorem sc_law : FnScope ["script", "cell", "text", "found"] ["script"] (defScope s_law) := ⟨rfl, rfl, rfl, by decide +kernel, rfl, by decide +kernel, by decide +kernel⟩
def cl : Str → Addr := fun c => 0
theorem all_mk {l : PySem.W.OpenLaw} {w : World} {K : PySem.W.Frag} {h : Heap} {mg : Str → Option Value} {fa f_is_name f_words f_any_sign f_plain_sign f_text_by f_due f_law : Addr} (XX : K.In h) (G : h.Ns mainGlobals mg) (hfa : mg "law" = some (.ref fa))
    {od_is_name an_is_name : Option Addr} {sl_is_name : Array (Option Value)} {oc_is_name kV_is_name dc_is_name pm_is_name cd_is_name ct_is_name : Value}
    {od_words an_words : Option Addr} {sl_words : Array (Option Value)} {oc_words kV_words dc_words pm_words cd_words ct_words : Value}
    {od_any_sign an_any_sign : Option Addr} {sl_any_sign : Array (Option Value)} {oc_any_sign kV_any_sign dc_any_sign pm_any_sign cd_any_sign ct_any_sign : Value}
    {od_plain_sign an_plain_sign : Option Addr} {sl_plain_sign : Array (Option Value)} {oc_plain_sign kV_plain_sign dc_plain_sign pm_plain_sign cd_plain_sign ct_plain_sign : Value}
    {od_text_by an_text_by : Option Addr} {sl_text_by : Array (Option Value)} {oc_text_by kV_text_by dc_text_by pm_text_by cd_text_by ct_text_by : Value}
    {od_due an_due : Option Addr} {sl_due : Array (Option Value)} {oc_due kV_due dc_due pm_due cd_due ct_due : Value}
    {od_law an_law : Option Addr} {sl_law : Array (Option Value)} {oc_law kV_law dc_law pm_law cd_law ct_law : Value}
    (a_is_name : PySem.W.nsIn K mainGlobals "is_name" = some (some (.ref f_is_name))) (l_is_name : K.lookup f_is_name = some ⟨oc_is_name, od_is_name, .func (PySem.W.fnOf "is_name" "is_name" (defArgs s_is_name) (defBody s_is_name) (defScope s_is_name) .none kV_is_name dc_is_name pm_is_name an_is_name cd_is_name ct_is_name), sl_is_name⟩) (q_is_name : PySem.W.codeIn K cd_is_name "is_name" = true) (k_is_name : PySem.W.keepIn K (.ref f_is_name) = true)
    (a_words : PySem.W.nsIn K mainGlobals "_law_words" = some (some (.ref f_words))) (l_words : K.lookup f_words = some ⟨oc_words, od_words, .func (PySem.W.fnOf "_law_words" "_law_words" (defArgs s_words) (defBody s_words) (defScope s_words) .none kV_words dc_words pm_words an_words cd_words ct_words), sl_words⟩) (q_words : PySem.W.codeIn K cd_words "_law_words" = true) (k_words : PySem.W.keepIn K (.ref f_words) = true)
    (a_any_sign : PySem.W.nsIn K mainGlobals "_law_any_sign" = some (some (.ref f_any_sign))) (l_any_sign : K.lookup f_any_sign = some ⟨oc_any_sign, od_any_sign, .func (PySem.W.fnOf "_law_any_sign" "_law_any_sign" (defArgs s_any_sign) (defBody s_any_sign) (defScope s_any_sign) .none kV_any_sign dc_any_sign pm_any_sign an_any_sign cd_any_sign ct_any_sign), sl_any_sign⟩) (q_any_sign : PySem.W.codeIn K cd_any_sign "_law_any_sign" = true) (k_any_sign : PySem.W.keepIn K (.ref f_any_sign) = true)
    (a_plain_sign : PySem.W.nsIn K mainGlobals "_law_plain_sign" = some (some (.ref f_plain_sign))) (l_plain_sign : K.lookup f_plain_sign = some ⟨oc_plain_sign, od_plain_sign, .func (PySem.W.fnOf "_law_plain_sign" "_law_plain_sign" (defArgs s_plain_sign) (defBody s_plain_sign) (defScope s_plain_sign) .none kV_plain_sign dc_plain_sign pm_plain_sign an_plain_sign cd_plain_sign ct_plain_sign), sl_plain_sign⟩) (q_plain_sign : PySem.W.codeIn K cd_plain_sign "_law_plain_sign" = true) (k_plain_sign : PySem.W.keepIn K (.ref f_plain_sign) = true)
    (a_text_by : PySem.W.nsIn K mainGlobals "_law_text_by" = some (some (.ref f_text_by))) (l_text_by : K.lookup f_text_by = some ⟨oc_text_by, od_text_by, .func (PySem.W.fnOf "_law_text_by" "_law_text_by" (defArgs s_text_by) (defBody s_text_by) (defScope s_text_by) .none kV_text_by dc_text_by pm_text_by an_text_by cd_text_by ct_text_by), sl_text_by⟩) (q_text_by : PySem.W.codeIn K cd_text_by "_law_text_by" = true) (k_text_by : PySem.W.keepIn K (.ref f_text_by) = true)
    (a_due : PySem.W.nsIn K mainGlobals "_law_due" = some (some (.ref f_due))) (l_due : K.lookup f_due = some ⟨oc_due, od_due, .func (PySem.W.fnOf "_law_due" "_law_due" (defArgs s_due) (defBody s_due) (defScope s_due) .none kV_due dc_due pm_due an_due cd_due ct_due), sl_due⟩) (q_due : PySem.W.codeIn K cd_due "_law_due" = true) (k_due : PySem.W.keepIn K (.ref f_due) = true)
    (a_law : PySem.W.nsIn K mainGlobals "law" = some (some (.ref f_law))) (l_law : K.lookup f_law = some ⟨oc_law, od_law, .func (PySem.W.fnOf "law" "law" (defArgs s_law) (defBody s_law) (defScope s_law) .none kV_law dc_law pm_law an_law cd_law ct_law), sl_law⟩) (q_law : PySem.W.codeIn K cd_law "law" = true) (k_law : PySem.W.keepIn K (.ref f_law) = true)
    (y_len : PySem.W.nsIn K mainGlobals "len" = some none)
    {tk_LONGEST_NAME : Tok} (y_LONGEST_NAME : PySem.W.nsIn K mainGlobals "LONGEST_NAME" = some (some (.int 12 tk_LONGEST_NAME)))
    {f_WORDS : Addr} {od_WORDS : Option Addr} {n_WORDS : Nat} {sl_WORDS : Array (Option Value)} {tk_WORDS_0 tk_WORDS_1 tk_WORDS_2 tk_WORDS_3 tk_WORDS_4 tk_WORDS_5 tk_WORDS_6 tk_WORDS_7 tk_WORDS_8 tk_WORDS_9 tk_WORDS_10 tk_WORDS_11 tk_WORDS_12 tk_WORDS_13 tk_WORDS_14 tk_WORDS_15 tk_WORDS_16 tk_WORDS_17 tk_WORDS_18 : Tok} (y_WORDS : PySem.W.nsIn K mainGlobals "WORDS" = some (some (.ref f_WORDS))) (lk_WORDS : K.lookup f_WORDS = some ⟨.type "tuple", od_WORDS, .seq #[.str "all" tk_WORDS_0, .str "and" tk_WORDS_1, .str "box" tk_WORDS_2, .str "call" tk_WORDS_3, .str "do" tk_WORDS_4, .str "far" tk_WORDS_5, .str "if" tk_WORDS_6, .str "in" tk_WORDS_7, .str "leaf" tk_WORDS_8, .str "near" tk_WORDS_9, .str "on" tk_WORDS_10, .str "one" tk_WORDS_11, .str "open" tk_WORDS_12, .str "out" tk_WORDS_13, .str "put" tk_WORDS_14, .str "say" tk_WORDS_15, .str "shut" tk_WORDS_16, .str "then" tk_WORDS_17, .str "to" tk_WORDS_18] n_WORDS, sl_WORDS⟩)
    {tk_LETTERS : Tok} (y_LETTERS : PySem.W.nsIn K mainGlobals "LETTERS" = some (some (.str "abcdefghijklmnopqrstuvwxyz" tk_LETTERS)))
    {tk_LETTERS_AND_FIGURES : Tok} (y_LETTERS_AND_FIGURES : PySem.W.nsIn K mainGlobals "LETTERS_AND_FIGURES" = some (some (.str "abcdefghijklmnopqrstuvwxyz0123456789" tk_LETTERS_AND_FIGURES)))
    (y_range : PySem.W.nsIn K mainGlobals "range" = some none)
    (y_isinstance : PySem.W.nsIn K mainGlobals "isinstance" = some none)
    (y_bool : PySem.W.nsIn K mainGlobals "bool" = some none)
    : ∃ fd : FuncData, (∀ (s : Shared) (v : Value), BindsTo s fd ⟨[v], []⟩ [("script", v)]) ∧ ∀ base : Heap, K.In base → base.Ns mainGlobals mg → FnOk l.prog w K mg base CX0 3 fa fd ["script"] (spA K (fun _ => 0) 1 arg_law pre_law res_law) := by
  have e := hfa.symm.trans (PySem.W.mg_of XX G a_law)
  cases e
  have m_is_name := PySem.W.mg_of XX G a_is_name
  have F_is_name := fun_mk (st := s_is_name) l_is_name q_is_name k_is_name
  have b_is_name := F_is_name.binds (ps := ["text"]) fun _ _ _ _ _ _ us hl => match us, hl with | [_], _ => rfl
  have m_words := PySem.W.mg_of XX G a_words
  have F_words := fun_mk (st := s_words) l_words q_words k_words
  have b_words := F_words.binds (ps := []) fun _ _ _ _ _ _ us hl => match us, hl with | [], _ => rfl
  have m_any_sign := PySem.W.mg_of XX G a_any_sign
  have F_any_sign := fun_mk (st := s_any_sign) l_any_sign q_any_sign k_any_sign
  have b_any_sign := F_any_sign.binds (ps := ["cell"]) fun _ _ _ _ _ _ us hl => match us, hl with | [_], _ => rfl
  have m_plain_sign := PySem.W.mg_of XX G a_plain_sign
  have F_plain_sign := fun_mk (st := s_plain_sign) l_plain_sign q_plain_sign k_plain_sign
  have b_plain_sign := F_plain_sign.binds (ps := ["cell"]) fun _ _ _ _ _ _ us hl => match us, hl with | [_], _ => rfl
  have m_text_by := PySem.W.mg_of XX G a_text_by
  have F_text_by := fun_mk (st := s_text_by) l_text_by q_text_by k_text_by
  have b_text_by := F_text_by.binds (ps := ["cell"]) fun _ _ _ _ _ _ us hl => match us, hl with | [_], _ => rfl
  have m_due := PySem.W.mg_of XX G a_due
  have F_due := fun_mk (st := s_due) l_due q_due k_due
  have b_due := F_due.binds (ps := ["text"]) fun _ _ _ _ _ _ us hl => match us, hl with | [_], _ => rfl
  have m_law := PySem.W.mg_of XX G a_law
  have F_law := fun_mk (st := s_law) l_law q_law k_law
  have b_law := F_law.binds (ps := ["script"]) fun _ _ _ _ _ _ us hl => match us, hl with | [_], _ => rfl
  have z_len := PySem.W.mg_none_of XX G y_len
  have z_LONGEST_NAME : ∃ u, mg "LONGEST_NAME" = some (.int 12 u) := ⟨_, PySem.W.mg_of XX G y_LONGEST_NAME⟩
  have z_WORDS := PySem.W.mg_of XX G y_WORDS
  have z_LETTERS : ∃ u, mg "LETTERS" = some (.str "abcdefghijklmnopqrstuvwxyz" u) := ⟨_, PySem.W.mg_of XX G y_LETTERS⟩
  have z_LETTERS_AND_FIGURES : ∃ u, mg "LETTERS_AND_FIGURES" = some (.str "abcdefghijklmnopqrstuvwxyz0123456789" u) := ⟨_, PySem.W.mg_of XX G y_LETTERS_AND_FIGURES⟩
  have z_range := PySem.W.mg_none_of XX G y_range
  have z_isinstance := PySem.W.mg_none_of XX G y_isinstance
  have z_bool := PySem.W.mg_none_of XX G y_bool
  refine ⟨PySem.W.fnOf "law" "law" (defArgs s_law) (defBody s_law) (defScope s_law) .none kV_law dc_law pm_law an_law cd_law ct_law, fun s v => .of_eq rfl, fun base _ _ => ?_⟩
  have G_is_name : FnOk l.prog w K mg base CX0 1 f_is_name _ ["text"] (spA K cl 1 arg_is_name pre_is_name res_is_name) := fn_pure F_is_name sc_is_name fun cdv Ar outer s H E b a hr hp => by
    refine d_is_name ?_ (a) hp
    exact ⟨⟨sc_is_name.nd, rfl, rfl⟩,
      hr.units,
      ⟨rfl, .inl (chk_get ck_is_name 0 rfl), by decide, by decide⟩,
      ⟨⟨rfl, .inl (chk_get ck_is_name 0 rfl), by decide, by decide⟩, .inl (chk_get ck_is_name 0 rfl), .inl rfl⟩,
      ⟨rfl, .inl (chk_get ck_is_name 1 rfl), by decide, by decide⟩,
      ⟨⟨rfl, .inl (chk_get ck_is_name 1 rfl), by decide, by decide⟩, .inl (chk_get ck_is_name 1 rfl), .inl rfl⟩,
      chk_get ck_is_name 2 rfl,
      chk_get ck_is_name 3 rfl,
      chk_get ck_is_name 4 rfl,
      chk_get ck_is_name 5 rfl,
      chk_get ck_is_name 6 rfl,
      z_len,
      z_LONGEST_NAME,
      gt_mk z_WORDS lk_WORDS (small_len rfl) (.cons ⟨_, rfl⟩ (.cons ⟨_, rfl⟩ (.cons ⟨_, rfl⟩ (.cons ⟨_, rfl⟩ (.cons ⟨_, rfl⟩ (.cons ⟨_, rfl⟩ (.cons ⟨_, rfl⟩ (.cons ⟨_, rfl⟩ (.cons ⟨_, rfl⟩ (.cons ⟨_, rfl⟩ (.cons ⟨_, rfl⟩ (.cons ⟨_, rfl⟩ (.cons ⟨_, rfl⟩ (.cons ⟨_, rfl⟩ (.cons ⟨_, rfl⟩ (.cons ⟨_, rfl⟩ (.cons ⟨_, rfl⟩ (.cons ⟨_, rfl⟩ (.cons ⟨_, rfl⟩ (.nil)))))))))))))))))))),
      z_LETTERS,
      z_LETTERS_AND_FIGURES⟩
  have G_words : FnOk l.prog w K mg base CX0 1 f_words _ [] (spA K cl 0 arg_words pre_words res_words) := fn_pure F_words sc_words fun cdv Ar outer s H E b a hr hp => by
    refine d_words ?_ (a) hp
    exact ⟨⟨sc_words.nd, rfl, rfl⟩,
      hr.units,
      ⟨rfl, .inl (chk_get ck_words 0 rfl), by decide, by decide⟩,
      ⟨⟨rfl, .inl (chk_get ck_words 0 rfl), by decide, by decide⟩, .inl (chk_get ck_words 0 rfl), .inl rfl⟩⟩
  have G_any_sign : FnOk l.prog w K mg base CX0 1 f_any_sign _ ["cell"] (spA K cl 1 arg_any_sign pre_any_sign res_any_sign) := fn_pure F_any_sign sc_any_sign fun cdv Ar outer s H E b a hr hp => by
    refine d_any_sign ?_ (a) hp
    exact ⟨⟨sc_any_sign.nd, rfl, rfl⟩,
      hr.units,
      ⟨rfl, .inl (chk_get ck_any_sign 0 rfl), by decide, by decide⟩,
      ⟨⟨rfl, .inl (chk_get ck_any_sign 0 rfl), by decide, by decide⟩, .inl (chk_get ck_any_sign 0 rfl), .inl rfl⟩,
      ⟨rfl, .inl (chk_get ck_any_sign 1 rfl), by decide, by decide⟩,
      ⟨⟨rfl, .inl (chk_get ck_any_sign 1 rfl), by decide, by decide⟩, .inl (chk_get ck_any_sign 1 rfl), .inl rfl⟩,
      chk_get ck_any_sign 2 rfl,
      z_len⟩
  have G_plain_sign : FnOk l.prog w K mg base CX0 1 f_plain_sign _ ["cell"] (spA K cl 1 arg_plain_sign pre_plain_sign res_plain_sign) := fn_pure F_plain_sign sc_plain_sign fun cdv Ar outer s H E b a hr hp => by
    refine d_plain_sign ?_ (a) hp
    exact ⟨⟨sc_plain_sign.nd, rfl, rfl⟩,
      hr.units,
      ⟨rfl, .inl (chk_get ck_plain_sign 0 rfl), by decide, by decide⟩,
      ⟨⟨rfl, .inl (chk_get ck_plain_sign 0 rfl), by decide, by decide⟩, .inl (chk_get ck_plain_sign 0 rfl), .inl rfl⟩⟩
  have G_text_by : FnOk l.prog w K mg base CX0 2 f_text_by _ ["cell"] (spA K cl 1 arg_text_by pre_text_by res_text_by) := fn_pure F_text_by sc_text_by fun cdv Ar outer s H E b a hr hp => by
    refine d_text_by ?_ (a) hp
    exact ⟨⟨sc_text_by.nd, rfl, rfl⟩,
      hr.units,
      ⟨rfl, .inl (chk_get ck_text_by 0 rfl), by decide, by decide⟩,
      ⟨⟨rfl, .inl (chk_get ck_text_by 0 rfl), by decide, by decide⟩, .inl (chk_get ck_text_by 0 rfl), .inl rfl⟩,
      ⟨rfl, .inl (chk_get ck_text_by 1 rfl), by decide, by decide⟩,
      ⟨⟨rfl, .inl (chk_get ck_text_by 1 rfl), by decide, by decide⟩, .inl (chk_get ck_text_by 1 rfl), .inl rfl⟩,
      ⟨rfl, .inl (chk_get ck_text_by 2 rfl), by decide, by decide⟩,
      ⟨⟨rfl, .inl (chk_get ck_text_by 2 rfl), by decide, by decide⟩, .inl (chk_get ck_text_by 2 rfl), .inl rfl⟩,
      ⟨rfl, .inl (chk_get ck_text_by 3 rfl), by decide, by decide⟩,
      ⟨⟨rfl, .inl (chk_get ck_text_by 3 rfl), by decide, by decide⟩, .inl (chk_get ck_text_by 3 rfl), .inl rfl⟩,
      ⟨rfl, .inl (chk_get ck_text_by 4 rfl), by decide, by decide⟩,
      ⟨⟨rfl, .inl (chk_get ck_text_by 4 rfl), by decide, by decide⟩, .inl (chk_get ck_text_by 4 rfl), .inl rfl⟩,
      ⟨rfl, .inl (chk_get ck_text_by 5 rfl), by decide, by decide⟩,
      ⟨⟨rfl, .inl (chk_get ck_text_by 5 rfl), by decide, by decide⟩, .inl (chk_get ck_text_by 5 rfl), .inl rfl⟩,
      ⟨rfl, .inl (chk_get ck_text_by 6 rfl), by decide, by decide⟩,
      ⟨⟨rfl, .inl (chk_get ck_text_by 6 rfl), by decide, by decide⟩, .inl (chk_get ck_text_by 6 rfl), .inl rfl⟩,
      chk_get ck_text_by 7 rfl,
      chk_get ck_text_by 8 rfl,
      chk_get ck_text_by 9 rfl,
      chk_get ck_text_by 10 rfl,
      chk_get ck_text_by 11 rfl,
      ⟨⟨_, _, _, G_words, m_words, k_words, b_words⟩, hr.mono (by decide)⟩,
      ⟨⟨_, _, _, G_any_sign, m_any_sign, k_any_sign, b_any_sign⟩, hr.mono (by decide)⟩,
      z_range,
      ⟨⟨_, _, _, G_plain_sign, m_plain_sign, k_plain_sign, b_plain_sign⟩, hr.mono (by decide)⟩,
      z_len⟩
  have G_due : FnOk l.prog w K mg base CX0 2 f_due _ ["text"] (spA K cl 1 arg_due pre_due res_due) := fn_pure F_due sc_due fun cdv Ar outer s H E b a hr hp => by
    refine d_due ?_ (a) hp
    exact ⟨⟨sc_due.nd, rfl, rfl⟩,
      hr.units,
      ⟨rfl, .inl (chk_get ck_due 0 rfl), by decide, by decide⟩,
      ⟨⟨rfl, .inl (chk_get ck_due 0 rfl), by decide, by decide⟩, .inl (chk_get ck_due 0 rfl), .inl rfl⟩,
      ⟨rfl, .inl (chk_get ck_due 1 rfl), by decide, by decide⟩,
      ⟨⟨rfl, .inl (chk_get ck_due 1 rfl), by decide, by decide⟩, .inl (chk_get ck_due 1 rfl), .inl rfl⟩,
      ⟨rfl, .inl (chk_get ck_due 2 rfl), by decide, by decide⟩,
      ⟨⟨rfl, .inl (chk_get ck_due 2 rfl), by decide, by decide⟩, .inl (chk_get ck_due 2 rfl), .inl rfl⟩,
      ⟨rfl, .inl (chk_get ck_due 3 rfl), by decide, by decide⟩,
      ⟨⟨rfl, .inl (chk_get ck_due 3 rfl), by decide, by decide⟩, .inl (chk_get ck_due 3 rfl), .inl rfl⟩,
      chk_get ck_due 4 rfl,
      chk_get ck_due 5 rfl,
      z_len,
      ⟨⟨_, _, _, G_words, m_words, k_words, b_words⟩, hr.mono (by decide)⟩⟩
  have G_law : FnOk l.prog w K mg base CX0 3 _ _ ["script"] (spA K cl 1 arg_law pre_law res_law) := fn_pure F_law sc_law fun cdv Ar outer s H E b a hr hp => by
    refine d_law ?_ (a) hp
    exact ⟨⟨sc_law.nd, rfl, rfl⟩,
      hr.units,
      ⟨rfl, .inl (chk_get ck_law 0 rfl), by decide, by decide⟩,
      ⟨⟨rfl, .inl (chk_get ck_law 0 rfl), by decide, by decide⟩, .inl (chk_get ck_law 0 rfl), .inl rfl⟩,
      ⟨rfl, .inl (chk_get ck_law 1 rfl), by decide, by decide⟩,
      ⟨⟨rfl, .inl (chk_get ck_law 1 rfl), by decide, by decide⟩, .inl (chk_get ck_law 1 rfl), .inl rfl⟩,
      ⟨rfl, .inl (chk_get ck_law 2 rfl), by decide, by decide⟩,
      ⟨⟨rfl, .inl (chk_get ck_law 2 rfl), by decide, by decide⟩, .inl (chk_get ck_law 2 rfl), .inl rfl⟩,
      ⟨rfl, .inl (chk_get ck_law 3 rfl), by decide, by decide⟩,
      ⟨⟨rfl, .inl (chk_get ck_law 3 rfl), by decide, by decide⟩, .inl (chk_get ck_law 3 rfl), .inl rfl⟩,
      chk_get ck_law 4 rfl,
      chk_get ck_law 5 rfl,
      chk_get ck_law 6 rfl,
      chk_get ck_law 7 rfl,
      chk_get ck_law 8 rfl,
      ⟨⟨_, _, _, G_text_by, m_text_by, k_text_by, b_text_by⟩, hr.mono (by decide)⟩,
      ⟨⟨_, _, _, G_is_name, m_is_name, k_is_name, b_is_name⟩, hr.mono (by decide)⟩,
      z_isinstance,
      z_bool,
      ⟨⟨_, _, _, G_due, m_due, k_due, b_due⟩, hr.mono (by decide)⟩⟩
  exact G_law.imp (law_cl (fun _ => rfl) (fun _ => rfl))
theorem walk {l : PySem.W.OpenLaw} {q : Program} {loose : List Str} {XP : (Str → Option Value) → Heap → Prop} {YP : World → Heap → Prop} {d : DefRec} {K : Params → PySem.W.Frag} (hn : l.most = some 63) (hdf : d.params.defaults = [])
    (hY : ∀ (w : World) (h : Heap), YP w h → (K w.params).In h)
    (F : ∀ (w : World) (mg : Str → Option Value) (fa : Addr) (h : Heap), (K w.params).In h → h.Ns mainGlobals mg → mg d.name = some (.ref fa) →
      ∃ fd : FuncData, (∀ (s : Shared) (u : Value), BindsTo s fd ⟨[u], []⟩ [("script", u)]) ∧ ∀ base : Heap, (K w.params).In base → base.Ns mainGlobals mg → FnOk l.prog w (K w.params) mg base CX0 3 fa fd ["script"] (spA (K w.params) (fun _ => 0) 1 arg_law pre_law res_law)) :
    PySem.W.WalkO q loose XP YP l.row.toRowW d [] (fun f vs => PySem.call f vs) :=
  L2.walk_of (n := 63) (k := 3) (x := "script") (CX := fun _ => CX0) (sp := fun w => spA (K w.params) (fun _ => 0) 1 arg_law pre_law res_law) hn (by decide) hdf ⟨rfl, by decide, by decide⟩ hY F (fun _ _ a ns hl _ hS => law_sp rfl hl rfl hS) fun _ _ _ _ _ z => z
end Law
open PySem PySem.W PyProof.Rows
set_option maxRecDepth 100000 in
set_option maxHeartbeats 0 in
theorem PySem.Challenge.cw_moodtree_k13_what_is_a_name_holds : PySem.Challenge.rw_moodtree_k13_what_is_a_name.Holds := by
  w_on; o_law; k_head; (case hw => w_witness2)
  k_fill
  refine Law.walk (l := PySem.Challenge.rw_moodtree_k13_what_is_a_name) rfl rfl (fun w h Y => PySem.W.kIn_of Y) ?F
  case F =>
    intro w mg fa h KX G hmg
    refine' Law.all_mk KX G hmg ?a_is_name ?l_is_name ?q_is_name ?k_is_name ?a_words ?l_words ?q_words ?k_words ?a_any_sign ?l_any_sign ?q_any_sign ?k_any_sign ?a_plain_sign ?l_plain_sign ?q_plain_sign ?k_plain_sign ?a_text_by ?l_text_by ?q_text_by ?k_text_by ?a_due ?l_due ?q_due ?k_due ?a_law ?l_law ?q_law ?k_law ?y_len ?y_LONGEST_NAME ?y_WORDS ?lk_WORDS ?y_LETTERS ?y_LETTERS_AND_FIGURES ?y_range ?y_isinstance ?y_bool
    (case a_is_name => k_is)
    (case l_is_name => k_is)
    (case q_is_name => k_is)
    (case k_is_name => k_is)
    (case a_words => k_is)
    (case l_words => k_is)
    (case q_words => k_is)
    (case k_words => k_is)
    (case a_any_sign => k_is)
    (case l_any_sign => k_is)
    (case q_any_sign => k_is)
    (case k_any_sign => k_is)
    (case a_plain_sign => k_is)
    (case l_plain_sign => k_is)
    (case q_plain_sign => k_is)
    (case k_plain_sign => k_is)
    (case a_text_by => k_is)
    (case l_text_by => k_is)
    (case q_text_by => k_is)
    (case k_text_by => k_is)
    (case a_due => k_is)
    (case l_due => k_is)
    (case q_due => k_is)
    (case k_due => k_is)
    (case a_law => k_is)
    (case l_law => k_is)
    (case q_law => k_is)
    (case k_law => k_is)
    (case y_len => k_is)
    (case y_LONGEST_NAME => k_is)
    (case y_WORDS => k_is)
    (case lk_WORDS => k_is)
    (case y_LETTERS => k_is)
    (case y_LETTERS_AND_FIGURES => k_is)
    (case y_range => k_is)
    (case y_isinstance => k_is)
    (case y_bool => k_is)
