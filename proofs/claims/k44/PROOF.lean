import PyProof.Rows.All
import Wide.All
import OpenK.AllK
import Wide.FinOn
import Lean
import PyProof.EqAt
import PyProof.EqKinds
import PyProof.TupleCall
import PySem.Challenge.RW_moodtree_k44_calls_in_a_line
set_option Elab.async false
set_option linter.all false
set_option maxRecDepth 100000
set_option maxHeartbeats 4000000
namespace L2
open PySem PySem.Spec PyProof.Rows
noncomputable abbrev akx := @List.append_assoc
noncomputable abbrev aky := @List.mem_append_right
noncomputable abbrev akz := @Nat.le_of_ble_eq_true
noncomputable abbrev akA := @List.mem_cons_self
noncomputable abbrev akB := @List.mem_cons
noncomputable abbrev akC := @List.mem_append
noncomputable abbrev akD := @List.length_map
noncomputable abbrev akE := @List.mem_cons_of_mem
noncomputable abbrev akF := @List.mem_append_left
noncomputable abbrev akG := @Nat.le_refl
noncomputable abbrev akH := @if_neg
noncomputable abbrev akI := @List.size_toArray
noncomputable abbrev akJ := @if_pos
noncomputable abbrev akK := @List.append_nil
noncomputable abbrev akL := @PySem.W.mg_of
noncomputable abbrev akM := @List.map_append
noncomputable abbrev akN := @Heap.get?_push_of_some
noncomputable abbrev akO := @Bool.false_ne_true
noncomputable abbrev akP := @List.map_cons
noncomputable abbrev akQ := @wpAny_bind
noncomputable abbrev akR := @List.not_mem_nil
noncomputable abbrev akS := @List.cons_append
noncomputable abbrev akT := @Heap.lt_size
noncomputable abbrev akU := @Option.some.inj
noncomputable abbrev akV := @Nat.zero_le
noncomputable abbrev akW := @List.lookup_cons
noncomputable abbrev akX := @List.getElem?_eq_getElem
noncomputable abbrev akY := @List.perm_append_comm
noncomputable abbrev akZ := @List.length_cons
noncomputable abbrev ak0 := @List.getElem?_map
noncomputable abbrev ak1 := @List.length_append
noncomputable abbrev ak2 := @List.mem_map
noncomputable abbrev ak3 := @Heap.get?_push_size
noncomputable abbrev ak4 := @List.Sublist.append
noncomputable abbrev ak5 := @List.nodup_append
noncomputable abbrev ak6 := @List.Sublist.refl
noncomputable abbrev ak7 := @List.getElem?_eq_some_iff
noncomputable abbrev ak8 := @List.Perm.append_left
noncomputable abbrev ak9 := @Nat.lt_of_lt_of_le
noncomputable abbrev ala := @Nat.ne_of_lt
noncomputable abbrev alb := @sizeLine_eq
noncomputable abbrev alc := @List.map_map
noncomputable abbrev ald := @List.filterMap_cons
noncomputable abbrev ale := @List.getD_eq_getElem?_getD
noncomputable abbrev alf := @Bool.and_eq_true
noncomputable abbrev alg := @List.mem_singleton
noncomputable abbrev alh := @wpAny_pure
noncomputable abbrev ali := @List.reverse_cons
noncomputable abbrev alj := @Nat.le_of_lt
noncomputable abbrev alk := @List.nodup_cons
noncomputable abbrev alm := @wpS_bind
noncomputable abbrev aln := @Bool.false_eq_true
noncomputable abbrev alo := @List.pairwise_cons
noncomputable abbrev alp := @PySem.W.mg_none_of
noncomputable abbrev alq := @Nat.le_trans
noncomputable abbrev alr := @List.mem_of_getElem?
noncomputable abbrev als := @List.sublist_append_right
noncomputable abbrev alu := @PySem.mem_of_lookup
noncomputable abbrev alv := @of_decide_eq_true
noncomputable abbrev alw := @decide_eq_false
noncomputable abbrev alx := @List.length_take
noncomputable abbrev aly := @List.take_length
noncomputable abbrev alz := @wpS_pure
noncomputable abbrev alA := @List.nil_append
noncomputable abbrev alB := @List.getElem?_eq_none
noncomputable abbrev alC := @List.perm_middle
noncomputable abbrev alD := @or_false
noncomputable abbrev alE := @List.length_filterMap_le
noncomputable abbrev alF := @List.mem_range
noncomputable abbrev alG := @List.nodup_nil
noncomputable abbrev alH := @PySem.F.plainAttrs_list
noncomputable abbrev alI := @List.flatMap_cons
noncomputable abbrev alJ := @Array.length_toList
noncomputable abbrev alK := @List.replicate_succ
noncomputable abbrev alL := @Nat.le_succ
noncomputable abbrev alM := @wpAny_mono
noncomputable abbrev alN := @beq_self_eq_true
noncomputable abbrev alO := @List.flatMap_nil
noncomputable abbrev alP := @wpAny_Call_Name_kw
noncomputable abbrev alQ := @List.length_replicate
noncomputable abbrev alR := @Nat.lt_of_le_of_lt
noncomputable abbrev alS := @List.foldl_cons
noncomputable abbrev alT := @List.any_cons
noncomputable abbrev alU := @beq_eq_false_iff_ne
noncomputable abbrev alV := @List.getElem?_range
noncomputable abbrev alW := @of_decide_eq_false
noncomputable abbrev alX := @wpAny_passesOwn
noncomputable abbrev alY := @Array.getElem?_toList
noncomputable abbrev alZ := @if_false
noncomputable abbrev al0 := @List.flatten_cons
noncomputable abbrev al1 := @decide_eq_true
noncomputable abbrev al2 := @Int.emod_lt_of_pos
noncomputable abbrev al3 := @List.take_of_length_le
noncomputable abbrev al4 := @List.ext_getElem?
noncomputable abbrev al5 := @List.take_add_one
noncomputable abbrev al6 := @Int.toNat_natCast
noncomputable abbrev al7 := @PySem.W.methodCall_KW
noncomputable abbrev al8 := @if_true
noncomputable abbrev al9 := @List.take_zero
noncomputable abbrev ama := @List.filterMap_append
noncomputable abbrev amb := @PyProof.Rows.callWith_type1
noncomputable abbrev amc := @beq_iff_eq
noncomputable abbrev amd := @call_meets
noncomputable abbrev ame := @Nat.lt_irrefl
noncomputable abbrev amf := @List.map_congr_left
noncomputable abbrev amg := @List.perm_iff_count
noncomputable abbrev amh := @Int.emod_nonneg
noncomputable abbrev ami := @PySem.W.callWith_K
noncomputable abbrev amj := @List.map_nil
noncomputable abbrev amk := @List.filter_append
noncomputable abbrev aml := @PySem.F.slot_list_extend
noncomputable abbrev amm := @PySem.F.type_list_extend
noncomputable abbrev amn := @wpS_forRange
noncomputable abbrev amo := @List.Perm.refl
noncomputable abbrev amq := @List.length_eq_zero_iff
noncomputable abbrev amr := @List.count_append
noncomputable abbrev ams := @List.foldl_append
noncomputable abbrev amt := @wpAny_holding
noncomputable abbrev Key := Sum Int Str
noncomputable def DB : Key -> Value -> Bool
 | .inl k, v => Value.isInt k v
 | .inr x, v => Value.isStrOf x v
noncomputable def afN (w : World) : Key -> Int
 | .inl k => hashInt k
 | .inr x => hashStr w x
theorem dw : ∀ {k : Key} {v : Value}, DB k v = true -> (∃ i t, k = Sum.inl i /\ v = Value.int i t) \/ (∃ x t, k = Sum.inr x /\ v = Value.str x t)
 | .inl i, v, h => by
   obtain ⟨t, e⟩ := Value.isInt_shape (k := i) (v := v) h
   exact .inl ⟨i, t, rfl, e⟩
 | .inr x, v, h => by
   obtain ⟨t, e⟩ := Value.isStrOf_shape (x := x) (v := v) h
   exact .inr ⟨x, t, rfl, e⟩
theorem Om (i : Int) (t : Tok) : DB (.inl i) (.int i t) = true := by simp [DB, Value.isInt]
theorem Oo (x : Str) (t : Tok) : DB (.inr x) (.str x t) = true := by simp [DB, Value.isStrOf]
theorem aap (a b : Int) : decide ((Sum.inl a : Key) = Sum.inl b) = (a == b) := by
 by_cases e : a = b
 . subst e; simp
 . have h : ¬ (Sum.inl a : Key) = Sum.inl b := fun q => e (Sum.inl.inj q)
   rw [alw h]
   exact (alU.mpr e).symm
theorem aaq (a b : Str) : decide ((Sum.inr a : Key) = Sum.inr b) = decide (a = b) := by
 by_cases e : a = b
 . subst e; simp
 . have h : ¬ (Sum.inr a : Key) = Sum.inr b := fun q => e (Sum.inr.inj q)
   rw [alw h, alw e]
theorem aar (a : Int) (b : Str) : decide ((Sum.inl a : Key) = Sum.inr b) = false := alw (fun q => nomatch q)
theorem aas (a : Str) (b : Int) : decide ((Sum.inr a : Key) = Sum.inl b) = false := alw (fun q => nomatch q)
noncomputable def eO (prog : Program) (w : World) : PySem.KeyKind prog w Key where
 is := DB
 hash := afN w
 inj := fun v a b ha hb => by
   rcases dw ha with ⟨i, t, rfl, rfl⟩ | ⟨x, t, rfl, rfl⟩
   . rcases dw hb with ⟨j, u, rfl, e⟩ | ⟨y, u, rfl, e⟩
     . injection e with e1 _; rw [e1]
     . exact nomatch e
   . rcases dw hb with ⟨j, u, rfl, e⟩ | ⟨y, u, rfl, e⟩
     . exact nomatch e
     . injection e with e1 _; rw [e1]
 byValue := fun k v h => by
   rcases dw h with ⟨i, t, rfl, rfl⟩ | ⟨x, t, rfl, rfl⟩ <;> rfl
 pyHash := fun hv h => by
   rcases dw hv with ⟨i, t, rfl, rfl⟩ | ⟨x, t, rfl, rfl⟩
   . exact wpAny_pyHash_int h
   . exact wpAny_pyHash_str h
 eqBool := fun hu hv h => by
   rcases dw hu with ⟨i, t, rfl, rfl⟩ | ⟨x, t, rfl, rfl⟩
   . rcases dw hv with ⟨j, u, rfl, rfl⟩ | ⟨y, u, rfl, rfl⟩
     . rw [aap] at h; exact wpAny_eqBool_int h
     . rw [aar] at h; exact SeqAt.EqAt.int_str i t y u _ _ _ _ h
   . rcases dw hv with ⟨j, u, rfl, rfl⟩ | ⟨y, u, rfl, rfl⟩
     . rw [aas] at h; exact SeqAt.EqAt.str_int x t j u _ _ _ _ h
     . rw [aaq] at h; exact wpAny_eqBool_str h
 «strs» := fun k x t v h => by
   rcases dw h with ⟨i, u, rfl, e⟩ | ⟨y, u, rfl, e⟩
   . exact nomatch e
   . injection e with e1 _
     subst e1
     cases v <;> rfl
theorem Hw (prog : Program) (w : World) (i : Int) (t : Tok) : (eO prog w).is (.inl i) (.int i t) = true := Om i t
theorem Hx (prog : Program) (w : World) (x : Str) (t : Tok) : (eO prog w).is (.inr x) (.str x t) = true := Oo x t
inductive V where
 | non | bl (b : Bool) | int (i : Int) | str (x : Str) | M5 (b : Array UInt8) | flt (b : UInt64) | ref (a : Addr) | ty (n : String)
 deriving DecidableEq
noncomputable def RelV : V -> Value -> Prop
 | .non, u => u = Value.none
 | .bl b, u => u = Value.bool b
 | .int i, u => ∃ t, u = Value.int i t
 | .str x, u => ∃ t, u = Value.str x t
 | .M5 b, u => ∃ t, u = Value.bytes b t
 | .flt b, u => ∃ t, u = Value.float b t
 | .ref a, u => u = Value.ref a
 | .ty n, u => u = Value.type n
noncomputable abbrev Vals : List V -> List Value -> Prop := Paired RelV
theorem Vals.length {xs : List V} {us : List Value} (r : Vals xs us) : xs.length = us.length := Paired.length r
theorem Vals.get : ∀ {xs : List V} {us : List Value} {i : Nat} {x : V}, Vals xs us -> xs[i]? = some x -> ∃ u, us[i]? = some u /\ RelV x u
 | _, _, _, _, .nil, e => by simp at e
 | _, _, 0, _, .cons r _, e => by simp at e; subst e; exact ⟨_, rfl, r⟩
 | _, _, i + 1, x, .cons _ t, e => by
   obtain ⟨u, h1, h2⟩ := Vals.get (i := i) (x := x) t (by simpa using e)
   exact ⟨u, by simpa using h1, h2⟩
theorem Vals.set {x : V} {u : Value} (r : RelV x u) : ∀ {xs : List V} {us : List Value} (i : Nat), Vals xs us -> Vals (xs.set i x) (us.set i u)
 | _, _, _, .nil => .nil
 | _, _, 0, .cons _ t => .cons r t
 | _, _, i + 1, .cons q t => .cons q (Vals.set r i t)
theorem Vals.append : ∀ {xs ys : List V} {us ws : List Value}, Vals xs us -> Vals ys ws -> Vals (xs ++ ys) (us ++ ws)
 | _, _, _, _, .nil, s => s
 | _, _, _, _, .cons r t, s => .cons r (Vals.append t s)
theorem Vals.take : ∀ {xs : List V} {us : List Value} (n : Nat), Vals xs us -> Vals (xs.take n) (us.take n)
 | _, _, 0, _ => .nil
 | _, _, _ + 1, .nil => .nil
 | _, _, n + 1, .cons r t => .cons r (Vals.take n t)
theorem Vals.drop : ∀ {xs : List V} {us : List Value} (n : Nat), Vals xs us -> Vals (xs.drop n) (us.drop n)
 | _, _, 0, r => r
 | _, _, _ + 1, .nil => .nil
 | _, _, n + 1, .cons _ t => Vals.drop n t
noncomputable def wZ : Option V -> Option Value -> Prop
 | some v, some u => RelV v u
 | none, none => True
 | _, _ => False
noncomputable def KV {κ : Type} : List (κ × V) -> List (κ × Value) -> Prop := Paired fun (p : κ × V) (q : κ × Value) => p.1 = q.1 /\ RelV p.2 q.2
noncomputable def kV : Key -> V
 | .inl i => .int i
 | .inr x => .str x
inductive HO where
 | lst (xs : List V)
 | tup (xs : List V)
 | dK (kvs : List (Key × V)) | dT (kvs : List (List Key × V))
 | set (S : Int -> Bool) (n : Nat)
 | ins (C dx : Addr) (fs : List (Str × V))
 | own (x : Addr)
 | xd (fs : List (Str × V))
 | met (f x : Addr)
 | rng (lo hi : Int)
 | fc (o : Obj) (u : HO)
 | tbl (ps : Array Value)
 | tabs (q : Str)
 | Oq (q : Str)
 | ext (φ : Heap -> Prop)
noncomputable abbrev Hp := Addr -> Option HO
noncomputable def upd (H : Hp) (a : Addr) (o : HO) : Hp := fun b => if b = a then some o else H b
theorem aP {H : Hp} {a : Addr} {o : HO} : upd H a o a = some o := by unfold upd; rw [akJ rfl]
theorem az {H : Hp} {a b : Addr} {o : HO} (h : b ≠ a) : upd H a o b = H b := by unfold upd; rw [akH h]
theorem adn {H : Hp} {a b : Addr} {o u : HO} (h : H a = some o) (h' : H b = some u) (d : o ≠ u) : a ≠ b := by
 intro e; subst e; rw [h] at h'; exact d (akU h')
theorem aK {H : Hp} {a b : Addr} {o : HO} (h : H a = some o) (h' : H b = none) : a ≠ b := by
 intro e; subst e; rw [h] at h'; cases h'
section
variable (P : Program) (w : World)
noncomputable def eV (H : Hp) (h : Heap) (a : Addr) : HO -> Prop
 | .lst xs => xs.length <= sizeLine /\ ∃ (its : List Value) (n : Nat), Vals xs its /\ h.get? a = some { cls := .type "list", data := .seq its.toArray n }
 | .tup xs => xs.length <= sizeLine /\ ∃ its : List Value, Vals xs its /\ IsTup h a its.toArray
 | .dK kvs => kvs.length <= sizeLine /\ (a == sysModules) = false /\ ∃ vs, KV kvs vs /\ h.DictOf (eO P w) a vs
 | .dT kvs => kvs.length <= sizeLine /\ (a == sysModules) = false /\ ∃ xs : List (List Key × Addr × Value),
     Paired (fun (p : List Key × V) (q : List Key × Addr × Value) => p.1 = q.1 /\ H q.2.1 = some (.tup (p.1.map kV)) /\ RelV p.2 q.2.2) kvs xs ∧
     ∃ o es ep, h.get? a = some o /\ o.ExactDict /\ o.data = .dict es ep /\ es.toList = xs.map (entryOfKey (tupleKind (eO P w))) /\ (xs.map (·.1)).Nodup
 | .set S n => h.SetOf (intKind P w) a S n
 | .ins C dx fs => H dx = some (.own a) /\ fs.length <= 1000 /\ dx ≠ a /\ h.get? a = some (PySem.W.instObj C dx) ∧
     ∃ mA, h.Ns1 dx mA /\ (∀ f, wZ (fs.lookup f) (mA f)) /\ PySem.Within mA (fs.map (·.1))
 | .own _ => ∃ o, h.get? a = some o
 | .xd fs => ∃ mA, h.Ns1 a mA /\ ∀ f, wZ (fs.lookup f) (mA f)
 | .rng lo hi => ∃ t u v, h.get? a = some { cls := .type "range", data := .fields #[.int lo t, .int hi u, .int 1 v] }
 | .fc o u => h.get? a = some o /\ eV H h a u
 | .tbl ps => h.get? a = some { cls := .none, data := .fields ps }
 | .tabs q => ∃ ps : Array Value, h.get? a = some { cls := .none, data := .fields ps } /\ TriplesOk ps.toList /\ ∀ pos cv, codeAmong pos ps.toList = some cv -> ∃ c, cv = .ref c /\ H c = some (.Oq q)
 | .Oq q => ∃ o vs t, h.get? a = some o /\ o.data = .fields vs /\ vs[1]? = some (.str q t)
 | .met f x => h.get? a = some (PySem.W.methodObj (.ref f) (.ref x))
 | .ext φ => φ h /\ (∃ o, h.get? a = some o) /\ ∀ h1 h2 : Heap, φ h1 -> (∀ o, h1.get? a = some o -> h2.get? a = some o) -> φ h2
noncomputable def ur (H : Hp) (h : Heap) : Prop := ∀ a o, H a = some o -> eV P w H h a o
end
section
variable {P : Program} {w : World} {H H' : Hp} {h h' : Heap} {a : Addr} {o : HO}
theorem eV.lt (x : eV P w H h a o) : a < h.objs.size := by
 cases o with
 | lst xs => obtain ⟨_, _, _, _, e⟩ := x; exact akT e
 | tup xs => obtain ⟨_, _, _, p⟩ := x; exact p.lt
 | dK kvs => obtain ⟨_, _, _, _, o, _, _, e, _⟩ := x; exact akT e
 | dT kvs => obtain ⟨_, _, _, _, o, _, _, e, _⟩ := x; exact akT e
 | set S n => obtain ⟨o, _, _, _, e, _⟩ := x; exact akT e
 | ins C dx fs => obtain ⟨_, _, _, e, _⟩ := x; exact akT e
 | own y => obtain ⟨_, e⟩ := x; exact akT e
 | xd fs => obtain ⟨_, ⟨_, _, _, e, _⟩, _⟩ := x; exact akT e
 | rng lo hi => obtain ⟨_, _, _, e⟩ := x; exact akT e
 | fc ob u => obtain ⟨e, _⟩ := x; exact akT e
 | tbl ps => exact akT (show h.get? a = some _ from x)
 | tabs q => obtain ⟨_, e, _⟩ := x; exact akT e
 | Oq q => obtain ⟨_, _, _, e, _⟩ := x; exact akT e
 | met f y => exact akT (show h.get? a = some _ from x)
 | ext φ => obtain ⟨_, ⟨_, e⟩, _⟩ := x; exact akT e
theorem Paired.aau {α β : Type} {F G : α -> β -> Prop} : ∀ {l₁ : List α} {l₂ : List β}, Paired F l₁ l₂ -> (∀ a b, F a b -> G a b) -> Paired G l₁ l₂
 | _, _, .nil, _ => .nil
 | _, _, .cons r t, f => .cons (f _ _ r) (Paired.aau t f)
theorem eV.Eg (x : eV P w H h a o) (k : ∀ b u, (b = a \/ H b = some (.own a)) -> h.get? b = some u -> h'.get? b = some u)
   (ho : ∀ b, H b = some (.own a) -> H' b = some (.own a)) (ht : ∀ b xs, H b = some (.tup xs) -> H' b = some (.tup xs)) (j4 : ∀ b q, H b = some (.Oq q) -> H' b = some (.Oq q) := by intro _ _ q; exact q) : eV P w H' h' a o := by
 induction o with
 | lst xs => obtain ⟨z, its, n, r, e⟩ := x; exact ⟨z, its, n, r, k _ _ (.inl rfl) e⟩
 | tup xs => obtain ⟨z, its, r, ob, e, c⟩ := x; exact ⟨z, its, r, ob, k _ _ (.inl rfl) e, c⟩
 | dK kvs => obtain ⟨z, y, vs, r, ob, es, ep, e, c⟩ := x; exact ⟨z, y, vs, r, ob, es, ep, k _ _ (.inl rfl) e, c⟩
 | dT kvs =>
   obtain ⟨z, y, xs, r, ob, es, ep, e, c⟩ := x
   exact ⟨z, y, xs, Paired.aau r fun p q z => ⟨z.1, ht _ _ z.2.1, z.2.2⟩, ob, es, ep, k _ _ (.inl rfl) e, c⟩
 | set S n => obtain ⟨ob, es, ep, t, e, c⟩ := x; exact ⟨ob, es, ep, t, k _ _ (.inl rfl) e, c⟩
 | ins C dx fs =>
   obtain ⟨d, z, ne, e, mA, ⟨od, es, ep, e2, c⟩, r⟩ := x
   exact ⟨ho _ d, z, ne, k _ _ (.inl rfl) e, mA, ⟨od, es, ep, k _ _ (.inr d) e2, c⟩, r⟩
 | own y => obtain ⟨ob, e⟩ := x; exact ⟨ob, k _ _ (.inl rfl) e⟩
 | xd fs => obtain ⟨mA, ⟨od, es, ep, e, c⟩, r⟩ := x; exact ⟨mA, ⟨od, es, ep, k _ _ (.inl rfl) e, c⟩, r⟩
 | rng lo hi => obtain ⟨t, u, v, e⟩ := x; exact ⟨t, u, v, k _ _ (.inl rfl) e⟩
 | fc ob u ih => obtain ⟨e, q⟩ := x; exact ⟨k _ _ (.inl rfl) e, ih q⟩
 | tbl ps =>
   have e : h.get? a = some { cls := .none, data := .fields ps } := x
   show h'.get? a = some { cls := .none, data := .fields ps }
   exact k a _ (.inl rfl) e
 | met f y =>
   have e : h.get? a = some (PySem.W.methodObj (.ref f) (.ref y)) := x
   show h'.get? a = some (PySem.W.methodObj (.ref f) (.ref y))
   exact k a _ (.inl rfl) e
 | tabs q => obtain ⟨ps, e, tr, cs⟩ := x; exact ⟨ps, k _ _ (.inl rfl) e, tr, fun pos cv z => let ⟨c, e1, e2⟩ := cs pos cv z; ⟨c, e1, j4 _ _ e2⟩⟩
 | Oq q => obtain ⟨ob, vs, t, e, r⟩ := x; exact ⟨ob, vs, t, k _ _ (.inl rfl) e, r⟩
 | ext φ => obtain ⟨p, ⟨o, e⟩, st⟩ := x; exact ⟨st _ _ p fun o q => k _ _ (.inl rfl) q, ⟨o, k _ _ (.inl rfl) e⟩, st⟩
theorem ur.lt (x : ur P w H h) (e : H a = some o) : a < h.objs.size := (x a o e).lt
theorem ur.fresh (x : ur P w H h) (e : h.objs.size <= a) : H a = none := by
 cases q : H a with
 | none => rfl
 | some u => exact absurd (ak9 (x.lt q) e) (ame _)
theorem ur.kept (x : ur P w H h) (k : ∀ b u, h.get? b = some u -> h'.get? b = some u) : ur P w H h' := fun a o e =>
 (x a o e).Eg (fun b u _ q => k b u q) (fun _ q => q) fun _ _ q => q
theorem ur.laid (x : ur P w H h) (k : ∀ b u, h.get? b = some u -> h'.get? b = some u) (hp : h.objs.size <= a) (new : eV P w (upd H a o) h' a o) : ur P w (upd H a o) h' := fun b u e => by
 have hn := x.fresh hp
 by_cases hb : b = a
 . subst hb; rw [aP] at e; cases e; exact new
 . rw [az hb] at e
   exact (x b u e).Eg (fun c v _ q => k c v q) (fun c q => by rw [az (aK q hn)]; exact q) (fun c xs q => by rw [az (aK q hn)]; exact q) fun c z q => by rw [az (aK q hn)]; exact q
end
noncomputable def Rd (H : Hp) (a : Addr) (u : HO) : Prop := H a = some u \/ ∃ o, H a = some (.fc o u)
theorem Rd.ok {P : Program} {w : World} {H : Hp} {h : Heap} {a : Addr} {u : HO} (r : Rd H a u) (x : ur P w H h) : eV P w H h a u := by
 rcases r with r | ⟨o, r⟩
 . exact x a u r
 . obtain ⟨_, q⟩ := x a _ r
   exact q
noncomputable def Mut : Option HO -> Prop
 | some (.lst _) => True
 | some (.dK _) => True
 | some (.dT _) => True
 | some (.set _ _) => True
 | some (.ins _ _ _) => True
 | some (.ext _) => True
 | some (.tabs _) => True
 | _ => False
section
variable {P : Program} {w : World} {H : Hp} {h h' : Heap} {x e : Addr} {o' : HO}
theorem ur.write (ok : ur P w H h) (mu : Mut (H x)) (he : e = x \/ H e = some (.own x)) (k : ∀ b u, b ≠ e -> h.get? b = some u -> h'.get? b = some u) (heo : ∃ u, h'.get? e = some u)
   (new : eV P w (upd H x o') h' x o') : ur P w (upd H x o') h' := fun b u q => by
 have adp : ∀ c y, H c = some (.own y) -> c ≠ x := fun c y r z => by subst z; rw [r] at mu; exact mu
 have afP : ∀ c xs, H c = some (.tup xs) -> c ≠ x := fun c xs r z => by subst z; rw [r] at mu; exact mu
 have afQ : ∀ c q, H c = some (.Oq q) -> c ≠ x := fun c q r z => by subst z; rw [r] at mu; exact mu
 by_cases hb : b = x
 . subst hb; rw [aP] at q; cases q; exact new
 . rw [az hb] at q
   by_cases hbe : b = e
   . have q' : H b = some (.own x) := by
       rcases he with z | z
       . exact absurd (hbe.trans z) hb
       . rw [hbe]; exact z
     rw [q] at q'; cases q'
     obtain ⟨v, hv⟩ := heo
     exact ⟨v, by rw [hbe]; exact hv⟩
   . refine (ok b u q).Eg (fun c v hc r => k c v ?_ r) (fun c r => by rw [az (adp c b r)]; exact r) (fun c xs r => by rw [az (afP c xs r)]; exact r) fun c z r => by rw [az (afQ c z r)]; exact r
     rcases hc with rfl | hc
     . exact hbe
     . rintro rfl
       rcases he with z | z
       . exact adp c b hc z
       . rw [hc] at z; cases z; exact hb rfl
end
structure Un (fs ex : List Addr) (H H' : Hp) (h h' : Heap) : Prop where
 keep : ∀ b o, h.get? b = some o -> H b = none -> b ∉ fs -> b ∉ ex -> h'.get? b = some o
 slot : ∀ b o, h.get? b = some o -> H b = none -> b ∈ fs -> b ∉ ex -> ∃ sl, h'.get? b = some { o with slots := sl }
 free : ∀ b o, h.get? b = some o -> H b = none -> b ∉ ex -> H' b = none
 there : ∀ b o, h.get? b = some o -> b ∉ ex -> ∃ o', h'.get? b = some o'
 Eh : ∀ b xs, H b = some (.tup xs) -> H' b = some (.tup xs)
 iO : ∀ b o u, H b = some (.fc o u) -> H' b = some (.fc o u)
 Ei : ∀ b ps, H b = some (.tbl ps) -> ∃ more, H' b = some (.tbl (ps ++ more))
section
variable {fs fs' ex ex' : List Addr} {H H1 H2 : Hp} {h h1 h2 h' : Heap} {a x e : Addr} {o : HO}
theorem Un.any (u : Un fs ex H H1 h h1) {b : Addr} {ob : Obj} (q : h.get? b = some ob) (n : H b = none) (hx : b ∉ ex) : ∃ sl, h1.get? b = some { ob with slots := sl } := by
 by_cases hb : b ∈ fs
 . exact u.slot b ob q n hb hx
 . exact ⟨ob.slots, u.keep b ob q n hb hx⟩
theorem Un.kept (k : ∀ b u, h.get? b = some u -> h'.get? b = some u) : Un fs ex H H h h' :=
 ⟨fun b ob q _ _ _ => k b ob q, fun b ob q _ _ _ => ⟨ob.slots, k b ob q⟩, fun _ _ _ n _ => n, fun b ob q _ => ⟨ob, k b ob q⟩, fun _ _ q => q, fun _ _ _ q => q, fun _ ps q => ⟨#[], by rw [q]; simp⟩⟩
theorem Un.refl : Un fs ex H H h h := Un.kept fun _ _ q => q
theorem Un.laid (k : ∀ b u, h.get? b = some u -> h'.get? b = some u) (hp : h.objs.size <= a) (hn : H a = none) : Un fs ex H (upd H a o) h h' where
 keep := fun b u q _ _ _ => k b u q
 slot := fun b u q _ _ _ => ⟨u.slots, k b u q⟩
 free := fun b u q n _ => by rw [az (ala (ak9 (akT q) hp))]; exact n
 there := fun b u q _ => ⟨u, k b u q⟩
 Eh := fun b xs q => by rw [az (aK q hn)]; exact q
 iO := fun b u xs q => by rw [az (aK q hn)]; exact q
 Ei := fun b ps q => ⟨#[], by rw [az (aK q hn), q]; simp⟩
theorem Un.write (mu : Mut (H x)) (he : e = x \/ H e = some (.own x)) (k : ∀ b u, b ≠ e -> h.get? b = some u -> h'.get? b = some u) (heo : ∃ u, h'.get? e = some u) : Un fs ex H (upd H x o) h h' := by
 have hx : ∀ b, H b = none -> b ≠ x := fun b n z => by subst z; rw [n] at mu; exact mu
 have hb : ∀ b, H b = none -> b ≠ e := fun b n z => by
   subst z
   rcases he with r | r
   . exact hx b n r
   . rw [n] at r; cases r
 have hm : ∀ b u, H b = some u -> ¬ Mut (some u) -> b ≠ x := fun b u q nm z => by subst z; rw [q] at mu; exact nm mu
 refine ⟨fun b u q n _ _ => k b u (hb b n) q, fun b u q n _ _ => ⟨u.slots, k b u (hb b n) q⟩, fun b u q n _ => by rw [az (hx b n)]; exact n, fun b u q _ => ?_,
   fun b xs q => by rw [az (hm b _ q fun z => z)]; exact q, fun b u xs q => by rw [az (hm b _ q fun z => z)]; exact q, fun b ps q => ⟨#[], by rw [az (hm b _ q fun z => z), q]; simp⟩⟩
 by_cases hbe : b = e
 . subst hbe; exact heo
 . exact ⟨u, k b u hbe q⟩
end
noncomputable def trk (h : Heap) (H : Hp) : List Addr := (List.range h.objs.size).filter fun a => (H a).isSome
noncomputable def B7 (h : Heap) (H : Hp) : Heap := PySem.W.hideAll h (trk h H)
theorem Ot (h : Heap) (H : Hp) : (B7 h H).objs.size = h.objs.size := PySem.W.hideAll_size _ _
theorem QI {h : Heap} {H : Hp} {b : Addr} {o : Obj} (e : h.get? b = some o) (n : H b = none) : (B7 h H).get? b = some o :=
 PySem.W.hideAll_get _ e fun hm => by
   have q : (H b).isSome = true := (List.mem_filter.mp hm).2
   rw [n] at q; simp at q
theorem VB {h : Heap} {H : Hp} {b : Addr} {o : Obj} (e : (B7 h H).get? b = some o) : h.get? b = some o /\ H b = none := by
 have e' : h.get? b = some o := PySem.W.of_hideAll (trk h H) e
 refine ⟨e', ?_⟩
 cases q : H b with
 | none => rfl
 | some x =>
   have hm : b ∈ trk h H := List.mem_filter.mpr ⟨alF.mpr (akT e'), by simp [q]⟩
   have z : (B7 h H).get? b = none := PySem.W.hideAll_none (trk h H) hm
   rw [z] at e; cases e
noncomputable def VC (g h : Heap) (L : Addr) : List (Addr × Obj) := (List.range h.objs.size).filterMap fun a => if a = L \/ (g.get? a).isSome = true then none else (h.get? a).map fun o => (a, o)
noncomputable def rest (g h : Heap) (L d : Addr) : List (Addr × Obj) := (VC g h L).filter fun p => decide (p.1 ≠ d)
structure Mod (K : PySem.W.Frag) (mg : Str -> Option Value) (base : Heap) : Prop where
 kin : K.In base
 glob : base.Ns mainGlobals mg
 blt : ∃ mb, base.Ns builtinsNs mb /\ ∀ x : Str, x ≠ "__name__" -> mb x = bootBuiltins x
 nolimit : base.NoLimit
structure Cx where
 prog : Program
 w : World
 K : PySem.W.Frag
 mg : Str -> Option Value
 base : Heap
 A : Around
 N : List Str
 s₀ : Shared
 H₀ : Hp
 env : Env
 outer : List Env
 stack : List Env
 ex : List Addr
 fn : Str -> Bool
 calm : Bool
 pn : List (Addr × Obj)
 xe : Value -> Shared -> Prop
noncomputable def Qz (l : List Env) : List Addr := l.filterMap (·.frame)
noncomputable abbrev Cx.fs (X : Cx) : List Addr := Qz X.outer
noncomputable def ZD (sc : Scope) (x : Str) : Prop := sc.names.lookup x = some .local \/ sc.names.lookup x = some .cell \/ sc.names.lookup x = some .free
noncomputable def Loc (sc : Scope) (x : Str) : Prop := sc.names.lookup x = some .local \/ sc.names.lookup x = some .cell
noncomputable def Look (env : Env) (h : Heap) (m : Str -> Option Value) (x : Str) (u : Value) : Prop :=
 (env.kindOf x = some .local /\ m x = some u) \/ ((env.kindOf x = some .cell \/ env.kindOf x = some .free) /\ ∃ c, env.cells.lookup x = some c /\ h.IsCell c (some u))
structure Cx.Ok (X : Cx) : Prop where
 mod : Mod X.K X.mg X.base
 kind : X.env.scope.kind = .function
 glob : X.env.globals = mainGlobals
 blt : X.env.builtins = builtinsNs
 above : X.s₀.heap.objs.size <= X.env.locals
 inj : ∀ x y c, X.env.cells.lookup x = some c -> X.env.cells.lookup y = some c -> x = y
 has : ∀ x, (X.env.kindOf x = some .cell \/ X.env.kindOf x = some .free) -> ∃ c, X.env.cells.lookup x = some c
 cab : ∀ x c, X.fn x = true -> X.env.cells.lookup x = some c -> X.s₀.heap.objs.size <= c
 hd : X.calm = true -> X.A.handled = none
 frames : X.A.frames = some X.stack
 stk : X.stack = X.outer \/ (X.stack = X.env :: X.outer /\ X.env.frame = some X.env.locals)
 exf : ∀ b ∈ X.ex, b ≠ X.env.locals /\ ∀ x c, X.env.cells.lookup x = some c -> c ≠ b
 bs : ∀ b o, X.base.get? b = some o -> X.s₀.heap.get? b = some o /\ X.H₀ b = none
 Vu : X.base.objs.size <= X.s₀.heap.objs.size
 QJ : ∀ b o, X.base.get? b = some o -> b ∉ X.ex
 VD : ∀ b ∈ X.ex, b ∉ X.fs
 yQ : X.s₀.heap.FunFrames X.base X.outer
 frf : ∀ b ∈ X.fs, X.H₀ b = none
structure Inv (X : Cx) (pins : List (Addr × Obj)) (σ : List (Option V)) (H : Hp) (s : Shared) : Prop where
 ok : X.Ok
 os : s.os = X.s₀.os
 bare : AllBare s.gens
 base : Un X.fs X.ex X.H₀ H X.s₀.heap s.heap
 loc : ∃ m, s.heap.Ns X.env.locals m /\ ∀ (i : Nat) (x : Str) (v : V), X.N[i]? = some x -> σ[i]? = some (some v) -> ZD X.env.scope x -> ∃ u, RelV v u /\ Look X.env s.heap m x u
 cell : ∀ x c, X.env.cells.lookup x = some c -> ∃ v, s.heap.IsCell c v
 free : H X.env.locals = none
 qI : ∀ x c, X.env.cells.lookup x = some c -> H c = none
 pin : ∀ p ∈ X.pn ++ pins, s.heap.get? p.1 = some p.2 /\ H p.1 = none /\ p.1 ≠ X.env.locals /\ p.1 ∉ X.fs /\ ∀ v, p.2.data ≠ .cell v
 dJ : ur X.prog X.w H s.heap
 len : σ.length = X.N.length
section
variable {X : Cx} {pins : List (Addr × Obj)} {σ : List (Option V)} {H H' : Hp} {s : Shared} {h' : Heap}
theorem Cx.Ok.afR (ok : X.Ok) {b : Addr} {o : Obj} (e : X.base.get? b = some o) : b ∉ X.fs := fun hb => by
 have := (ok.yQ.mem hb).1
 rw [e] at this; cases this
theorem Inv.bs (I : Inv X pins σ H s) : ∀ b o, X.base.get? b = some o -> s.heap.get? b = some o /\ H b = none := fun b o e =>
 ⟨I.base.keep b o (I.ok.bs b o e).1 (I.ok.bs b o e).2 (I.ok.afR e) (I.ok.QJ b o e), I.base.free b o (I.ok.bs b o e).1 (I.ok.bs b o e).2 (I.ok.QJ b o e)⟩
theorem Inv.bk (I : Inv X pins σ H s) : ∀ b o, X.base.get? b = some o -> s.heap.get? b = some o := fun b o e => (I.bs b o e).1
theorem Inv.mod (I : Inv X pins σ H s) : Mod X.K X.mg X.base := I.ok.mod
theorem Inv.Hr (I : Inv X pins σ H s) : X.K.In s.heap := I.ok.mod.kin.keeps I.bk
theorem Inv.nolimit (I : Inv X pins σ H s) : s.heap.NoLimit := I.ok.mod.nolimit.keeps I.bk
theorem Inv.lt (I : Inv X pins σ H s) : X.env.locals < s.heap.objs.size := let ⟨_, hn, _⟩ := I.loc; hn.lt
theorem Inv.sz (I : Inv X pins σ H s) : X.s₀.heap.objs.size <= s.heap.objs.size := alq I.ok.above (alj I.lt)
theorem Inv.afS (I : Inv X pins σ H s) {a : Addr} (h : s.heap.objs.size <= a) : a ∉ X.fs := fun hb => by
 obtain ⟨_, o, ho, _⟩ := I.ok.yQ.mem hb
 exact absurd (ak9 (akT ho) (alq I.sz h)) (ame _)
theorem Inv.cne (I : Inv X pins σ H s) : ∀ x c, X.env.cells.lookup x = some c -> c ≠ X.env.locals := fun x c e z => by
 obtain ⟨v, o, ho, hd⟩ := I.cell x c e
 obtain ⟨m, ⟨o', es, ep, VF, VG, _⟩, _⟩ := I.loc
 rw [z, VF] at ho; cases ho; rw [VG] at hd; cases hd
theorem Inv.yQ (I : Inv X pins σ H s) : s.heap.FunFrames X.base X.outer := by
 have all : ∀ (l : List Env), (∀ b ∈ Qz l, b ∈ X.fs) -> X.s₀.heap.FunFrames X.base l -> s.heap.FunFrames X.base l := by
   intro l
   induction l with
   | nil => intro _ _; trivial
   | cons env r ih =>
     intro hs hl
     obtain ⟨hk, ⟨L, o, hf, hn, ho, hd⟩, hr⟩ := hl
     have hL : L ∈ X.fs := hs L (by unfold Qz; rw [ald, hf]; exact akA)
     obtain ⟨sl, e⟩ := I.base.slot L o ho (I.ok.frf L hL) hL fun z => I.ok.VD L z hL
     exact ⟨hk, ⟨L, _, hf, hn, e, hd⟩, ih (fun b hb => hs b (by unfold Qz; rw [ald, hf]; exact akE _ hb)) hr⟩
 exact all X.outer (fun _ hb => hb) I.ok.yQ
theorem Inv.stack (I : Inv X pins σ H s) : s.heap.FunFrames X.base X.stack := by
 rcases I.ok.stk with e | ⟨e, hf⟩
 . rw [e]; exact I.yQ
 . rw [e]
   obtain ⟨m, hn, _⟩ := I.loc
   refine .cons (by rw [I.ok.kind]; decide) hf hn ?_ I.yQ
   exact Heap.get?_none_of_le (alq I.ok.Vu I.ok.above)
theorem Inv.Ej (I : Inv X pins σ H s) : ∀ b ∈ Qz X.stack, b ∈ X.env.locals :: X.fs := fun b hb => by
 rcases I.ok.stk with e | ⟨e, hf⟩
 . rw [e] at hb; exact akE _ hb
 . rw [e] at hb
   unfold Qz at hb
   rw [ald, hf] at hb
   exact hb
theorem Inv.Ek (I : Inv X pins σ H s) : ∀ b ∈ Qz X.stack, H b = none := fun b hb => by
 rcases akB.mp (I.Ej b hb) with e | hb
 . rw [e]; exact I.free
 . obtain ⟨_, o, ho, _⟩ := I.ok.yQ.mem hb
   exact I.base.free b o ho (I.ok.frf b hb) fun z => I.ok.VD b z hb
theorem Inv.step {g' : Array GenState} {t' : Nat} {d' : Drawn} {ch : List Addr} (I : Inv X pins σ H s)
   (ZE : ∀ b ∈ ch, (b ∈ X.ex \/ X.s₀.heap.objs.size <= b) /\ b ≠ X.env.locals /\ (∀ x c, X.env.cells.lookup x = some c -> c ≠ b) /\ ∀ p ∈ X.pn ++ pins, p.1 ≠ b)
   (keep : ∀ b o, b ≠ X.env.locals -> b ∉ X.fs -> b ∉ ch -> s.heap.get? b = some o -> H b = none -> h'.get? b = some o)
   (slot : ∀ b o, b ≠ X.env.locals -> b ∈ X.fs -> b ∉ ch -> s.heap.get? b = some o -> H b = none -> ∃ sl, h'.get? b = some { o with slots := sl }) (free : ∀ b o, b ∉ ch -> s.heap.get? b = some o -> H b = none -> H' b = none)
   (there : ∀ b o, b ∉ ch -> s.heap.get? b = some o -> ∃ o', h'.get? b = some o')
   (Eh : ∀ b xs, H b = some (.tup xs) -> H' b = some (.tup xs)) (iO : ∀ b o u, H b = some (.fc o u) -> H' b = some (.fc o u)) (Ei : ∀ b ps, H b = some (.tbl ps) -> ∃ more, H' b = some (.tbl (ps ++ more)))
   (ns : ∀ m, s.heap.Ns X.env.locals m -> h'.Ns X.env.locals m) (dJ : ur X.prog X.w H' h') (hg : AllBare g') :
   Inv X pins σ H' { s with heap := h', gens := g', drawn := d', toks := t' } := by
 have neL : ∀ b o, X.s₀.heap.get? b = some o -> b ≠ X.env.locals := fun b o e => ala (ak9 (akT e) I.ok.above)
 have neC : ∀ b o, X.s₀.heap.get? b = some o -> b ∉ X.ex -> b ∉ ch := fun b o e hx hb => by
   rcases (ZE b hb).1 with z | z
   . exact hx z
   . exact absurd (ak9 (akT e) z) (ame _)
 have cellK : ∀ x c, X.env.cells.lookup x = some c -> ∀ v, s.heap.IsCell c v -> h'.IsCell c v := fun x c e v ⟨o, ho, hd⟩ => by
   have nch : c ∉ ch := fun z => (ZE c z).2.2.1 x c e rfl
   by_cases hc : c ∈ X.fs
   . obtain ⟨sl, q⟩ := slot c o (I.cne x c e) hc nch ho (I.qI x c e)
     exact ⟨_, q, hd⟩
   . exact ⟨o, keep c o (I.cne x c e) hc nch ho (I.qI x c e), hd⟩
 refine ⟨I.ok, I.os, hg, ⟨fun b o e n hb hx => ?_, fun b o e n hb hx => ?_, fun b o e n hx => ?_, fun b o e hx => ?_, fun b xs e => Eh b xs (I.base.Eh b xs e), fun b o xs e => iO b o xs (I.base.iO b o xs e), fun b ps e => ?_⟩, ?_, fun x c e => ?_, ?_, fun x c e => ?_, fun p hp => ?_, dJ, I.len⟩
 . exact keep b o (neL b o e) hb (neC b o e hx) (I.base.keep b o e n hb hx) (I.base.free b o e n hx)
 . obtain ⟨sl, e1⟩ := I.base.slot b o e n hb hx
   obtain ⟨sl', e2⟩ := slot b _ (neL b o e) hb (neC b o e hx) e1 (I.base.free b o e n hx)
   exact ⟨sl', e2⟩
 . obtain ⟨o', e1⟩ := I.base.there b o e hx
   exact free b o' (neC b o e hx) e1 (I.base.free b o e n hx)
 . obtain ⟨o', e1⟩ := I.base.there b o e hx
   exact there b o' (neC b o e hx) e1
 . obtain ⟨m1, e1⟩ := I.base.Ei b ps e
   obtain ⟨m2, e2⟩ := Ei b _ e1
   exact ⟨m1 ++ m2, by rw [e2, Array.append_assoc]⟩
 . obtain ⟨m, hn, hl⟩ := I.loc
   refine ⟨m, ns m hn, fun i x v e1 e2 e3 => ?_⟩
   obtain ⟨u, r, l⟩ := hl i x v e1 e2 e3
   refine ⟨u, r, ?_⟩
   rcases l with l | ⟨k, c, e, z⟩
   . exact .inl l
   . exact .inr ⟨k, c, e, cellK x c e _ z⟩
 . obtain ⟨v, z⟩ := I.cell x c e
   exact ⟨v, cellK x c e v z⟩
 . obtain ⟨m, ⟨o, _, _, ho, _⟩, _⟩ := I.loc
   exact free _ o (fun z => (ZE _ z).2.1 rfl) ho I.free
 . obtain ⟨v, o, ho, hd⟩ := I.cell x c e
   exact free c o (fun z => (ZE c z).2.2.1 x c e rfl) ho (I.qI x c e)
 . obtain ⟨e, n, ne, nf, d⟩ := I.pin p hp
   have nch : p.1 ∉ ch := fun z => (ZE p.1 z).2.2.2 p hp rfl
   exact ⟨keep p.1 p.2 ne nf nch e n, free p.1 p.2 nch e n, ne, nf, d⟩
theorem Inv.un {t' : Nat} (I : Inv X pins σ H s) (u : Un X.fs [] H H' s.heap h') (dJ : ur X.prog X.w H' h') : Inv X pins σ H' { s with heap := h', toks := t' } := by
 obtain ⟨m, ⟨o, es, ep, ho, r⟩, _⟩ := id I.loc
 obtain ⟨sl, hL⟩ := u.any ho I.free (by simp)
 exact I.step (g' := s.gens) (d' := s.drawn) (ch := []) (fun _ z => nomatch z) (fun b o _ hb _ e n => u.keep b o e n hb (by simp)) (fun b o _ hb _ e n => u.slot b o e n hb (by simp)) (fun b o _ e n => u.free b o e n (by simp)) (fun b o _ e => u.there b o e (by simp)) u.Eh u.iO u.Ei (fun m' hm => by
   obtain ⟨o', es', ep', VF, r'⟩ := hm
   rw [ho] at VF; cases VF
   exact ⟨_, es', ep', hL, r'⟩) dJ I.bare
theorem Inv.call {g' : Array GenState} {t' : Nat} {d' : Drawn} {ch : List Addr} (I : Inv X pins σ H s) (u : Un (Qz X.stack) ch H H' s.heap h') (dJ : ur X.prog X.w H' h') (hg : AllBare g')
   (ZE : ∀ b ∈ ch, (b ∈ X.ex \/ X.s₀.heap.objs.size <= b) /\ b ≠ X.env.locals /\ (∀ x c, X.env.cells.lookup x = some c -> c ≠ b) /\ ∀ p ∈ X.pn ++ pins, p.1 ≠ b) :
   Inv X pins σ H' { s with heap := h', gens := g', drawn := d', toks := t' } := by
 obtain ⟨m, ⟨o, es, ep, ho, r⟩, _⟩ := id I.loc
 obtain ⟨sl, hL⟩ := u.any ho I.free fun z => (ZE _ z).2.1 rfl
 exact I.step (ch := ch) ZE (fun b o hL hb hc e n => u.keep b o e n (fun z => (akB.mp (I.Ej b z)).elim hL hb) hc) (fun b o _ _ hc e n => u.any e n hc) (fun b o hc e n => u.free b o e n hc) (fun b o hc e => u.there b o e hc) u.Eh u.iO u.Ei (fun m' hm => by
   obtain ⟨o', es', ep', VF, r'⟩ := hm
   rw [ho] at VF; cases VF
   exact ⟨_, es', ep', hL, r'⟩) dJ hg
theorem Inv.turned {t' : Nat} {it : Addr} (I : Inv X pins σ H s) (k : ∀ b o, b ≠ it -> s.heap.get? b = some o -> h'.get? b = some o) (hn : H it = none) (hL : it ≠ X.env.locals)
   (h1 : it ∈ X.ex \/ X.s₀.heap.objs.size <= it) (h2 : ∀ x c, X.env.cells.lookup x = some c -> c ≠ it) (h3 : ∀ p ∈ X.pn ++ pins, p.1 ≠ it) : Inv X pins σ H { s with heap := h', toks := t' } := by
 have nit : ∀ b u, H b = some u -> b ≠ it := fun b u e z => by rw [z, hn] at e; cases e
 refine I.step (g' := s.gens) (d' := s.drawn) (ch := [it]) (fun b hb => ?_) (fun b o _ _ hc e _ => k b o (fun z => hc (by simp [z])) e) (fun b o _ _ hc e _ => ⟨o.slots, k b o (fun z => hc (by simp [z])) e⟩) (fun _ _ _ _ n => n)
   (fun b o hc e => ⟨o, k b o (fun z => hc (by simp [z])) e⟩) (fun _ _ e => e) (fun _ _ _ e => e) (fun b ps e => ⟨#[], by rw [e]; simp⟩) (fun m hm => ?_) (fun b u e => ?_) I.bare
 . have e : b = it := by simpa using hb
   subst e
   exact ⟨h1, hL, h2, h3⟩
 . obtain ⟨o, es, ep, ho, r⟩ := hm
   exact ⟨o, es, ep, k _ o (Ne.symm hL) ho, r⟩
 . refine (I.dJ b u e).Eg (fun c v hc q => k c v ?_ q) (fun _ q => q) fun _ _ q => q
   rcases hc with z | z
   . rw [z]; exact nit b u e
   . exact nit c _ z
theorem Inv.tok (I : Inv X pins σ H s) (t : Nat) : Inv X pins σ H { s with toks := t } := I.un (h' := s.heap) (t' := t) Un.refl I.dJ
theorem Inv.kept {t' : Nat} (I : Inv X pins σ H s) (k : ∀ b u, s.heap.get? b = some u -> h'.get? b = some u) : Inv X pins σ H { s with heap := h', toks := t' } := I.un (Un.kept k) (I.dJ.kept k)
theorem Inv.laid {a : Addr} {o : HO} {t' : Nat} (I : Inv X pins σ H s) (k : ∀ b u, s.heap.get? b = some u -> h'.get? b = some u) (hp : s.heap.objs.size <= a) (new : eV X.prog X.w (upd H a o) h' a o) :
   Inv X pins σ (upd H a o) { s with heap := h', toks := t' } := I.un (Un.laid k hp (I.dJ.fresh hp)) (I.dJ.laid k hp new)
theorem Inv.write {x e : Addr} {o : HO} {t' : Nat} (I : Inv X pins σ H s) (mu : Mut (H x)) (he : e = x \/ H e = some (.own x)) (k : ∀ b u, b ≠ e -> s.heap.get? b = some u -> h'.get? b = some u) (heo : ∃ u, h'.get? e = some u)
   (new : eV X.prog X.w (upd H x o) h' x o) : Inv X pins σ (upd H x o) { s with heap := h', toks := t' } := I.un (Un.write mu he k heo) (I.dJ.write mu he k heo new)
theorem Inv.yV {lB : List (Addr × Obj)} (I : Inv X pins σ H s) (h : ∀ p ∈ lB, s.heap.get? p.1 = some p.2 /\ H p.1 = none /\ p.1 ≠ X.env.locals /\ p.1 ∉ X.fs /\ ∀ v, p.2.data ≠ .cell v) : Inv X lB σ H s :=
 ⟨I.ok, I.os, I.bare, I.base, I.loc, I.cell, I.free, I.qI, fun p hp => (akC.mp hp).elim (fun z => I.pin p (akF _ z)) (h p), I.dJ, I.len⟩
theorem Hy {N : List Str} (hN : N.Nodup) {i j : Nat} {x : Str} (a : N[i]? = some x) (b : N[j]? = some x) : i = j := by
 obtain ⟨h1, e1⟩ := ak7.mp a
 obtain ⟨h2, e2⟩ := ak7.mp b
 exact (List.getElem_inj hN).mp (e1.trans e2.symm)
theorem Ou {M : Model} {A : Around} {E : Value -> Shared -> Prop} {i : Nat} {x : Str} {v : V} {u : Value} {Q : Unit -> Shared -> Prop} (I : Inv X pins σ H s) (hN : X.N.Nodup) (hi : X.N[i]? = some x) (hx : Loc X.env.scope x) (r : RelV v u)
   (h : ∀ s', Inv X pins (σ.set i (some v)) H s' -> (∃ a, Heap.SameBut a s.heap s'.heap /\ (a = X.env.locals \/ X.env.cells.lookup x = some a)) -> Q () s') (hf : X.fn x = true \/ X.env.scope.names.lookup x = some .local := by first | exact .inl rfl | exact .inr rfl | assumption) : wpAny M A (storeName X.env x u) Q E s := by
 obtain ⟨m, hn, hl⟩ := id I.loc
 have afV : (X.env.scope.kind == .class || (X.env.scope.kind == .module && X.env.locals != X.env.globals)) = false := by rw [I.ok.kind]; rfl
 have hiσ : i < σ.length := by rw [I.len]; exact (ak7.mp hi).1
 have cne := I.cne
 have tracked : ∀ {a : Addr} {h' : Heap}, (∃ o, s.heap.get? a = some o /\ H a = none) -> Heap.SameBut a s.heap h' -> ur X.prog X.w H h' := fun {a h'} ha hs b ob e => by
   obtain ⟨_, _, Hz⟩ := ha
   refine (I.dJ b ob e).Eg (fun c w' hc q => (hs.2 c ?_).trans q) (fun _ q => q) fun _ _ q => q
   rintro rfl
   rcases hc with rfl | hc
   . rw [Hz] at e; cases e
   . rw [Hz] at hc; cases hc
 rcases hx with hk | hk
 . refine wpAny_storeName_local hk hn (fun h' hn' hs => ?_) afV
   obtain ⟨oL, _, _, hoL, _⟩ := id hn
   refine h _ ⟨I.ok, I.os, I.bare, ⟨fun b o e n hb hx => ?_, fun b o e n hb hx => ?_, I.base.free, fun b o e hx => ?_, I.base.Eh, I.base.iO, I.base.Ei⟩, ⟨_, hn', fun j y v' e1 e2 e3 => ?_⟩, fun y c e => ?_, I.free, I.qI, fun p hp => ?_, tracked ⟨oL, hoL, I.free⟩ hs, by simpa using I.len⟩ ⟨_, hs, .inl rfl⟩
   . exact (hs.2 b (ala (ak9 (akT e) I.ok.above))).trans (I.base.keep b o e n hb hx)
   . obtain ⟨sl, e1⟩ := I.base.slot b o e n hb hx
     exact ⟨sl, (hs.2 b (ala (ak9 (akT e) I.ok.above))).trans e1⟩
   . obtain ⟨o', e1⟩ := I.base.there b o e hx
     exact ⟨o', (hs.2 b (ala (ak9 (akT e) I.ok.above))).trans e1⟩
   . by_cases hj : j = i
     . subst hj
       rw [hi] at e1; cases e1
       rw [List.getElem?_set_self hiσ] at e2
       cases e2
       exact ⟨u, r, .inl ⟨hk, by simp⟩⟩
     . rw [List.getElem?_set_ne (Ne.symm hj)] at e2
       obtain ⟨u', r', q⟩ := hl j y v' e1 e2 e3
       refine ⟨u', r', ?_⟩
       rcases q with ⟨k, e⟩ | ⟨k, c, e, z⟩
       . refine .inl ⟨k, ?_⟩
         have : y ≠ x := fun e => hj (Hy hN e1 (e ▸ hi))
         simp [this, e]
       . exact .inr ⟨k, c, e, z.sameBut hs (cne y c e)⟩
   . obtain ⟨w', z⟩ := I.cell y c e
     exact ⟨w', z.sameBut hs (cne y c e)⟩
   . obtain ⟨e, n, ne, nf, d⟩ := I.pin p hp
     exact ⟨(hs.2 p.1 ne).trans e, n, ne, nf, d⟩
 . have hfn : X.fn x = true := by
     rcases hf with z | z
     . exact z
     . rw [z] at hk; cases hk
   obtain ⟨c, hc⟩ := I.ok.has x (.inl hk)
   obtain ⟨w', z⟩ := I.cell x c hc
   refine wpAny_storeName_cell I.ok.kind hk hc z (fun h' QK hs => ?_)
   obtain ⟨oc, hoc, afX⟩ := id z
   refine h { s with heap := h' } ⟨I.ok, I.os, I.bare, ⟨fun b o e n hb hx => ?_, fun b o e n hb hx => ?_, I.base.free, fun b o e hx => ?_, I.base.Eh, I.base.iO, I.base.Ei⟩, ⟨m, hn.sameBut hs (Ne.symm (cne x c hc)), fun j y v' e1 e2 e3 => ?_⟩, fun y c' e => ?_, I.free, I.qI, fun p hp => ?_, tracked ⟨oc, hoc, I.qI x c hc⟩ hs, by simpa using I.len⟩ ⟨c, hs, .inr hc⟩
   . exact (hs.2 b (ala (ak9 (akT e) (I.ok.cab x c hfn hc)))).trans (I.base.keep b o e n hb hx)
   . obtain ⟨sl, e1⟩ := I.base.slot b o e n hb hx
     exact ⟨sl, (hs.2 b (ala (ak9 (akT e) (I.ok.cab x c hfn hc)))).trans e1⟩
   . obtain ⟨o', e1⟩ := I.base.there b o e hx
     exact ⟨o', (hs.2 b (ala (ak9 (akT e) (I.ok.cab x c hfn hc)))).trans e1⟩
   . by_cases hj : j = i
     . subst hj
       rw [hi] at e1; cases e1
       rw [List.getElem?_set_self hiσ] at e2
       cases e2
       exact ⟨u, r, .inr ⟨.inl hk, c, hc, QK⟩⟩
     . rw [List.getElem?_set_ne (Ne.symm hj)] at e2
       obtain ⟨u', r', q⟩ := hl j y v' e1 e2 e3
       refine ⟨u', r', ?_⟩
       rcases q with q | ⟨k, c', e, z'⟩
       . exact .inl q
       . refine .inr ⟨k, c', e, z'.sameBut hs ?_⟩
         rintro rfl
         exact hj (Hy hN e1 (I.ok.inj _ _ _ e hc ▸ hi))
   . by_cases hcc : c' = c
     . subst hcc; exact ⟨_, QK⟩
     . obtain ⟨w2, z2⟩ := I.cell y c' e
       exact ⟨w2, z2.sameBut hs hcc⟩
   . obtain ⟨e, n, ne, nf, d⟩ := I.pin p hp
     refine ⟨(hs.2 p.1 ?_).trans e, n, ne, nf, d⟩
     intro q
     rw [q, hoc] at e
     have q' : oc = p.2 := akU e
     exact d w' (by rw [← q']; exact afX)
theorem zJ {M : Model} {A : Around} {E : Value -> Shared -> Prop} {i : Nat} {x : Str} {v : V} {u : Value} {Q : Unit -> Shared -> Prop} (I : Inv X pins σ H s) (hN : X.N.Nodup) (hi : X.N[i]? = some x) (hx : Loc X.env.scope x) (r : RelV v u)
   (h : ∀ s', Inv X pins (σ.set i (some v)) H s' -> Q () s') (hf : X.fn x = true \/ X.env.scope.names.lookup x = some .local := by first | exact .inl rfl | exact .inr rfl | assumption) : wpAny M A (storeName X.env x u) Q E s :=
 Ou I hN hi hx r (fun s' I' _ => h s' I') hf
end
noncomputable abbrev XK := Value -> Option Addr -> Hp -> Prop
noncomputable abbrev St := List (Option V)
noncomputable abbrev VK := V -> Hp -> Prop
noncomputable abbrev TE := St -> Hp -> VK -> Prop
noncomputable abbrev TT := St -> Hp -> (Bool -> Hp -> Prop) -> Prop
noncomputable abbrev TA := St -> Hp -> (List V -> Hp -> Prop) -> Prop
structure Ends where
 nx : St -> Hp -> Prop
 rt : VK
 bk : St -> Hp -> Prop := fun _ _ => False
 ct : St -> Hp -> Prop := fun _ _ => False
noncomputable abbrev TS := Ends -> St -> Hp -> Prop
noncomputable def EP (X : Cx) (pins : List (Addr × Obj)) (σ : St) (Q : VK) (u : Value) (s' : Shared) : Prop := ∃ v H', Inv X pins σ H' s' /\ RelV v u /\ Q v H'
noncomputable def TP (X : Cx) (pins : List (Addr × Obj)) (σ : St) (Q : Bool -> Hp -> Prop) (b : Bool) (s' : Shared) : Prop := ∃ H', Inv X pins σ H' s' /\ Q b H'
noncomputable def AP (X : Cx) (pins : List (Addr × Obj)) (σ : St) (Q : List V -> Hp -> Prop) (us : List Value) (s' : Shared) : Prop := ∃ vs H', Inv X pins σ H' s' /\ Vals vs us /\ Q vs H'
noncomputable def SP (X : Cx) (pins : List (Addr × Obj)) (D : Ends) (f : Flow) (s' : Shared) : Prop :=
 match f with
 | .next => ∃ σ' H', Inv X pins σ' H' s' /\ D.nx σ' H'
 | .brk => ∃ σ' H', Inv X pins σ' H' s' /\ D.bk σ' H'
 | .cont => ∃ σ' H', Inv X pins σ' H' s' /\ D.ct σ' H'
 | .ret u => ∃ v σ' H', Inv X pins σ' H' s' /\ RelV v u /\ D.rt v H'
noncomputable def PE (X : Cx) (e : Expr) (t : TE) : Prop :=
 ∀ (pins : List (Addr × Obj)) (s : Shared) (σ : St) (H : Hp) (Q : VK), Inv X pins σ H s -> t σ H Q -> wpAny (model X.prog X.w) X.A (eval e X.env) (EP X pins σ Q) X.xe s
noncomputable def PT (X : Cx) (e : Expr) (t : TT) : Prop :=
 ∀ (pins : List (Addr × Obj)) (s : Shared) (σ : St) (H : Hp) (Q : Bool -> Hp -> Prop), Inv X pins σ H s -> t σ H Q -> wpAny (model X.prog X.w) X.A (isTrue e X.env (eval e X.env)) (TP X pins σ Q) X.xe s
noncomputable def PW (X : Cx) (e : Expr) (t : TT) : Prop :=
 ∀ (whole : Sem Value) (pins : List (Addr × Obj)) (s : Shared) (σ : St) (H : Hp) (Q : Bool -> Hp -> Prop), Inv X pins σ H s -> t σ H Q -> wpAny (model X.prog X.w) X.A (isTrue e X.env whole) (TP X pins σ Q) X.xe s
noncomputable def PA (X : Cx) (es : List Expr) (t : TA) : Prop :=
 ∀ (pos : Pos) (pins : List (Addr × Obj)) (s : Shared) (σ : St) (H : Hp) (Q : List V -> Hp -> Prop), Inv X pins σ H s -> t σ H Q -> wpAny (model X.prog X.w) X.A (spliced (backTo pos (starEach es X.env))) (AP X pins σ Q) X.xe s
noncomputable def PS (X : Cx) (st : Stmt) (t : TS) : Prop :=
 ∀ (pins : List (Addr × Obj)) (s : Shared) (σ : St) (H : Hp) (D : Ends), Inv X pins σ H s -> t D σ H -> wpAny (model X.prog X.w) X.A (exec st X.env) (SP X pins D) X.xe s
noncomputable def J6 (X : Cx) (st : List Stmt) (t : TS) : Prop :=
 ∀ (pins : List (Addr × Obj)) (s : Shared) (σ : St) (H : Hp) (D : Ends), Inv X pins σ H s -> t D σ H -> wpAny (model X.prog X.w) X.A (execs st X.env) (SP X pins D) X.xe s
theorem eB {α : Type} {t : Sem α} {Q Q' : α -> Shared -> Prop} {M : Model} {A : Around} {E : Value -> Shared -> Prop} {s : Shared} (h : wpAny M A t Q E s) (hQ : ∀ a s, Q a s -> Q' a s) : wpAny M A t Q' E s := alM h hQ fun _ _ x => x
section
variable {X : Cx}
noncomputable def afY (i : Nat) : TE := fun σ H Q => ∃ v, σ[i]? = some (some v) /\ Q v H
noncomputable def tC (v : V) : TE := fun _ H Q => Q v H
theorem iC {i : Nat} {x : Str} {pos : Pos} (hN : X.N[i]? = some x) (hv : ZD X.env.scope x) (hd : (x == ("__debug__" : Str)) = false := by decide) (j4 : (x == ("__classdict__" : Str)) = false := by decide) : PE X (.Name x pos) (afY i) := by
 intro pins s σ H Q I h
 obtain ⟨v, e, h⟩ := h
 obtain ⟨m, hn, hl⟩ := I.loc
 obtain ⟨u, r, l⟩ := hl i x v hN e hv
 have fin : EP X pins σ Q u s := ⟨v, H, I, r, h⟩
 rcases l with ⟨hk, hm⟩ | ⟨hk, c, hc, tX⟩
 . exact wpAny_Name (wpAny_loadName_local I.ok.kind hk hn hm fin) hd
 . rcases hk with hk | hk
   . exact wpAny_Name (wpAny_loadName_cell I.ok.kind hk hc tX fin) hd
   . exact wpAny_Name (wpAny_loadName_free I.ok.kind hk hc tX fin j4) hd
theorem J7 {i j pos} : PE X (.Constant (.int i) j pos) (tC (.int i)) := fun _ _ _ H _ I h => wpAny_Constant_int ⟨.int i, H, I.tok _, ⟨_, rfl⟩, h⟩
theorem ZF {b j pos} : PE X (.Constant (.bool b) j pos) (tC (.bl b)) := fun _ _ _ H _ I h => Constant_bool ⟨.bl b, H, I, rfl, h⟩
theorem aay {x j pos} : PE X (.Constant (.str x) j pos) (tC (.str x)) := fun _ _ _ H _ I h => Calls.Constant_str ⟨.str x, H, I.tok _, ⟨_, rfl⟩, h⟩
noncomputable def Gl (X : Cx) (x : Str) : Prop := X.env.kindOf x = some .globalImplicit
theorem yW {E : Value -> Shared -> Prop} {pins : List (Addr × Obj)} {s : Shared} {σ : St} {H : Hp} {x : Str} {u : Value} {pos : Pos} {Q : Value -> Shared -> Prop} (I : Inv X pins σ H s) (hg : Gl X x) (hm : X.mg x = some u) (h : Q u s)
   (hd : (x == ("__debug__" : Str)) = false := by decide) : wpAny (model X.prog X.w) X.A (eval (.Name x pos) X.env) Q E s :=
 Calls.Name_function_global I.ok.kind hg (Calls.loadGlobal_global (by rw [I.ok.glob]; exact I.mod.glob.keeps I.bk) hm h) hd
theorem w6 {E : Value -> Shared -> Prop} {pins : List (Addr × Obj)} {s : Shared} {σ : St} {H : Hp} {x : Str} {u : Value} {pos : Pos} {Q : Value -> Shared -> Prop} (I : Inv X pins σ H s) (hg : Gl X x) (hm : X.mg x = none) (hv : bootBuiltins x = some u) (h : Q u s)
   (hn : x ≠ "__name__" := by decide) (hd : (x == ("__debug__" : Str)) = false := by decide) : wpAny (model X.prog X.w) X.A (eval (.Name x pos) X.env) Q E s := by
 obtain ⟨mb, h1, h2⟩ := I.mod.blt
 exact Calls.Name_function_global I.ok.kind hg (Calls.loadGlobal_builtin (by rw [I.ok.glob]; exact I.mod.glob.keeps I.bk) hm (by rw [I.ok.blt]; exact h1.keeps I.bk) ((h2 x hn).trans hv) h) hd
theorem El {x : Str} {v : V} {u : Value} {pos : Pos} (hg : Gl X x) (hm : X.mg x = some u) (r : RelV v u) (hd : (x == ("__debug__" : Str)) = false := by decide) : PE X (.Name x pos) (tC v) :=
 fun _ _ _ H _ I h => yW I hg hm ⟨v, H, I, r, h⟩ hd
variable {a b : Expr} {ta tb : TE} {pos : Pos}
noncomputable def tB (t : TE) : TT := fun σ H Q => t σ H fun x H1 => ∃ c, x = .bl c /\ Q c H1
theorem aaz {e : Expr} {t : TE} (h : PE X e t) (he : ∀ whole, isTrue e X.env whole = (do let v ← whole; standAt e.pos; holding [v] (truthy v)) := by intro _; rfl) : PT X e (tB t) := by
 intro pins s σ H Q I hw
 refine isTrue_plain (eB (h pins s σ H _ I hw) fun v s1 zz => ?_) (he _)
 obtain ⟨x, H1, I1, r1, q1⟩ := zz
 obtain ⟨d, rfl, q⟩ := q1
 cases r1
 exact wpAny_truthy_bool ⟨H1, I1, q⟩
variable {tA tB' : TT} {rest : List Expr}
noncomputable def afZ (t u : TT) : TT := fun σ H Q => t σ H fun c H1 => if c = true then u σ H1 Q else Q false H1
noncomputable def tOr (t u : TT) : TT := fun σ H Q => t σ H fun c H1 => if c = true then Q true H1 else u σ H1 Q
theorem VH (ha : PT X a tA) : PW X (.BoolOp .And [a] pos) tA := by
 intro wh pins s σ H Q I h
 refine isTrue_and (eB (ha pins s σ H Q I h) fun c s1 e => ?_)
 cases c with
 | true => exact isTrue_and_nil e
 | false => exact e
theorem aaA (ha : PT X a tA) : PW X (.BoolOp .Or [a] pos) tA := by
 intro wh pins s σ H Q I h
 refine isTrue_or (eB (ha pins s σ H Q I h) fun c s1 e => ?_)
 cases c with
 | false => exact isTrue_or_nil e
 | true => exact e
theorem aaB (ha : PT X a tA) (hb : PW X (.BoolOp .And (b :: rest) pos) tB') : PW X (.BoolOp .And (a :: b :: rest) pos) (afZ tA tB') := by
 intro wh pins s σ H Q I h
 refine isTrue_and (eB (ha pins s σ H _ I h) fun c s1 zz => ?_)
 obtain ⟨H1, I1, q1⟩ := zz
 cases c with
 | true => exact hb wh pins s1 σ H1 Q I1 q1
 | false => exact ⟨H1, I1, q1⟩
theorem ZG (ha : PT X a tA) (hb : PW X (.BoolOp .Or (b :: rest) pos) tB') : PW X (.BoolOp .Or (a :: b :: rest) pos) (tOr tA tB') := by
 intro wh pins s σ H Q I h
 refine isTrue_or (eB (ha pins s σ H _ I h) fun c s1 zz => ?_)
 obtain ⟨H1, I1, q1⟩ := zz
 cases c with
 | true => exact ⟨H1, I1, q1⟩
 | false => exact hb wh pins s1 σ H1 Q I1 q1
noncomputable def tIf (t : TT) (ta tb : TE) : TE := fun σ H Q => t σ H fun c H1 => if c = true then ta σ H1 Q else tb σ H1 Q
theorem QL {c : Expr} (hc : PT X c tA) (ha : PE X a ta) (hb : PE X b tb) : PE X (.IfExp c a b pos) (tIf tA ta tb) := by
 intro pins s σ H Q I h
 refine wpAny_IfExp (eB (hc pins s σ H _ I h) fun d s1 zz => ?_)
 obtain ⟨H1, I1, q1⟩ := zz
 cases d with
 | true => exact ha pins s1 σ H1 Q I1 q1
 | false => exact hb pins s1 σ H1 Q I1 q1
end
noncomputable def mC (K : PySem.W.Frag) (H : Hp) (a : Addr) (xs : List V) : Prop :=
 Rd H a (.lst xs) ∨
   ∃ (o : Obj) (its : Array Value) (n : Nat), K.lookup a = some o /\ o.cls = .type "list" /\ o.dict = none /\ o.data = .seq its n /\ its.size <= sizeLine /\ Vals xs its.toList
noncomputable def wX (K : PySem.W.Frag) (H : Hp) (a : Addr) (xs : List V) : Prop :=
 Rd H a (.tup xs) ∨
   ∃ (o : Obj) (its : Array Value) (n : Nat), K.lookup a = some o /\ o.cls = .type "tuple" /\ o.data = .seq its n /\ its.size <= sizeLine /\ Vals xs its.toList
noncomputable def af0 : Value -> Option V
 | .none => some .non
 | .bool b => some (.bl b)
 | .int i _ => some (.int i)
 | .str x _ => some (.str x)
 | .bytes b _ => some (.M5 b)
 | .float b _ => some (.flt b)
 | .ref a => some (.ref a)
 | .type n => some (.ty n)
 | _ => none
theorem RelV.abs {x : V} {u : Value} (r : RelV x u) : af0 u = some x := by
 cases x with
 | non => cases r; rfl
 | bl _ => cases r; rfl
 | int _ => obtain ⟨t, rfl⟩ := r; rfl
 | str _ => obtain ⟨t, rfl⟩ := r; rfl
 | M5 _ => obtain ⟨t, rfl⟩ := r; rfl
 | flt _ => obtain ⟨t, rfl⟩ := r; rfl
 | ref _ => cases r; rfl
 | ty _ => cases r; rfl
theorem RelV.inj {x y : V} {u : Value} (r : RelV x u) (q : RelV y u) : x = y := akU (r.abs.symm.trans q.abs)
theorem Vals.inj {xs ys : List V} {us : List Value} (h : Vals xs us) (q : Vals ys us) : xs = ys := by
 induction h generalizing ys with
 | nil => cases q; rfl
 | cons r _ i => cases q with
   | cons r' t' => rw [r.inj r', i t']
section
variable {X : Cx} {pins : List (Addr × Obj)} {σ : St} {H : Hp} {s : Shared} {a : Addr} {xs ys : List V}
theorem mC.of {K : PySem.W.Frag} (h : H a = some (.lst xs)) : mC K H a xs := .inl (.inl h)
theorem wX.of {K : PySem.W.Frag} (h : H a = some (.tup xs)) : wX K H a xs := .inl (.inl h)
theorem Inv.list (I : Inv X pins σ H s) (h : mC X.K H a xs) : ∃ its : List Value, Vals xs its /\ PlainL s.heap a its.toArray /\ xs.length <= sizeLine := by
 rcases h with h | ⟨o, its, n, hk, hc, hd, hs, hz, r⟩
 . obtain ⟨z, its, n, r, e⟩ := h.ok I.dJ
   exact ⟨its, r, ⟨_, n, e, rfl, rfl, rfl⟩, z⟩
 . refine ⟨its.toList, r, ⟨o, n, I.Hr a o hk, hc, hd, by simpa using hs⟩, ?_⟩
   have e := r.length
   simp only [alJ] at e
   omega
theorem Inv.tuple (I : Inv X pins σ H s) (h : wX X.K H a xs) : ∃ its : List Value, Vals xs its /\ IsTup s.heap a its.toArray /\ xs.length <= sizeLine := by
 rcases h with h | ⟨o, its, n, hk, hc, hs, hz, r⟩
 . obtain ⟨z, its, r, p⟩ := h.ok I.dJ
   exact ⟨its, r, p, z⟩
 . refine ⟨its.toList, r, ⟨o, I.Hr a o hk, hc, n, by simpa using hs⟩, ?_⟩
   have e := r.length
   simp only [alJ] at e
   omega
theorem Inv.HB (I : Inv X pins σ H s) (h : mC X.K H a xs) (h' : mC X.K H a ys) : xs = ys := by
 obtain ⟨its, r, ⟨o, n, e, _, _, d⟩, _⟩ := I.list h
 obtain ⟨its', r', ⟨o', n', e', _, _, d'⟩, _⟩ := I.list h'
 rw [e] at e'; cases e'
 rw [d] at d'
 injection d' with d1 _
 have : its = its' := by simpa using congrArg Array.toList d1
 subst this
 exact r.inj r'
theorem Inv.Ov (I : Inv X pins σ H s) (h : wX X.K H a xs) (h' : wX X.K H a ys) : xs = ys := by
 obtain ⟨its, r, ⟨o, e, _, n, d⟩, _⟩ := I.tuple h
 obtain ⟨its', r', ⟨o', e', _, n', d'⟩, _⟩ := I.tuple h'
 rw [e] at e'; cases e'
 rw [d] at d'
 injection d' with d1 _
 have : its = its' := by simpa using congrArg Array.toList d1
 subst this
 exact r.inj r'
end
noncomputable abbrev Cx.wish (X : Cx) (E : Value -> Shared -> Prop) : Cx := { X with xe := E }
noncomputable abbrev Cx.QM (X : Cx) : Cx := X.wish fun _ _ => False
theorem Cx.Ok.wish {X : Cx} (ok : X.Ok) (E : Value -> Shared -> Prop) : (X.wish E).Ok :=
 ⟨ok.mod, ok.kind, ok.glob, ok.blt, ok.above, ok.inj, ok.has, ok.cab, ok.hd, ok.frames, ok.stk, ok.exf, ok.bs, ok.Vu, ok.QJ, ok.VD, ok.yQ, ok.frf⟩
theorem Cx.Ok.qJ {X : Cx} {E : Value -> Shared -> Prop} (ok : (X.wish E).Ok) : X.Ok :=
 ⟨ok.mod, ok.kind, ok.glob, ok.blt, ok.above, ok.inj, ok.has, ok.cab, ok.hd, ok.frames, ok.stk, ok.exf, ok.bs, ok.Vu, ok.QJ, ok.VD, ok.yQ, ok.frf⟩
section
variable {X : Cx} {pins : List (Addr × Obj)} {σ : St} {H : Hp} {s : Shared} {E : Value -> Shared -> Prop}
theorem Inv.wish (I : Inv X pins σ H s) (E : Value -> Shared -> Prop) : Inv (X.wish E) pins σ H s := ⟨I.ok.wish E, I.os, I.bare, I.base, I.loc, I.cell, I.free, I.qI, I.pin, I.dJ, I.len⟩
theorem Inv.qJ (I : Inv (X.wish E) pins σ H s) : Inv X pins σ H s := ⟨I.ok.qJ, I.os, I.bare, I.base, I.loc, I.cell, I.free, I.qI, I.pin, I.dJ, I.len⟩
theorem SP.qJ {D : Ends} {f : Flow} {s' : Shared} (h : SP (X.wish E) pins D f s') : SP X pins D f s' := by
 cases f with
 | next => obtain ⟨σ', H', I, q⟩ := h; exact ⟨σ', H', I.qJ, q⟩
 | brk => obtain ⟨σ', H', I, q⟩ := h; exact ⟨σ', H', I.qJ, q⟩
 | cont => obtain ⟨σ', H', I, q⟩ := h; exact ⟨σ', H', I.qJ, q⟩
 | ret u => obtain ⟨v, σ', H', I, r, q⟩ := h; exact ⟨v, σ', H', I.qJ, r, q⟩
theorem J6.QM {st : List Stmt} {t : TS} (h : J6 X.QM st t) : J6 X st t := fun pins s σ H D I hw =>
 alM (h pins s σ H D (I.wish _) hw) (fun _ _ q => q.qJ) fun _ _ z => False.elim z
end
section
variable {X : Cx} {st : Stmt} {rest : List Stmt} {t u : TS} {e : Expr} {te : TE} {pos : Pos}
noncomputable def adu : TS := fun D σ H => D.nx σ H
noncomputable def af1 (t u : TS) : TS := fun D σ H => t { D with nx := u D } σ H
theorem VJ : J6 X [] adu := fun _ _ σ H _ I h => wpAny_execs_nil ⟨σ, H, I, h⟩
theorem QN (h1 : PS X st t) (h2 : J6 X rest u) : J6 X (st :: rest) (af1 t u) := by
 intro pins s σ H D I h
 refine wpAny_execs_cons (eB (h1 pins s σ H { D with nx := u D } I h) fun f s1 q => ?_)
 cases f with
 | next =>
   obtain ⟨σ', H', I', q⟩ := q
   exact h2 pins s1 σ' H' D I' q
 | ret v => exact q
 | brk => exact q
 | cont => exact q
noncomputable def aaC : TS := fun D σ H => D.bk σ H
theorem QO : PS X (.Break pos) aaC := fun _ _ σ H _ I h => wpAny_Break ⟨σ, H, I, h⟩
theorem Inv.quiet {pins : List (Addr × Obj)} {σ : St} {H : Hp} {s : Shared} (I : Inv X pins σ H s) : interactive X.env = false := by simp [interactive, I.ok.kind]
noncomputable def adv (te : TE) : TS := fun D σ H => te σ H fun _ H1 => D.nx σ H1
theorem sA (he : PE X e te) (hs : swapsWith e none pos.line X.env = pure false := by rfl) : PS X (.Expr e pos) (adv te) := by
 intro pins s σ H D I h
 exact wpAny_Expr_any (eB (he pins s σ H _ I h) fun v s1 ⟨x, H1, I1, r1, q1⟩ => ⟨σ, H1, I1, q1⟩) I.quiet hs
noncomputable def af2 (te : TE) : TS := fun D σ H => te σ H D.rt
theorem aaD (he : PE X e te) : PS X (.Return (some e) pos) (af2 te) := by
 intro pins s σ H D I h
 exact wpAny_Return_some (eB (he pins s σ H _ I h) fun v s1 ⟨x, H1, I1, r1, q1⟩ => ⟨x, σ, H1, I1, r1, q1⟩)
noncomputable def af3 (c : TT) (t u : TS) : TS := fun D σ H => c σ H fun b H1 => if b = true then t D σ H1 else u D σ H1
theorem ZH {c : Expr} {a b : List Stmt} {tc : TT} (hc : PT X c tc) (ha : J6 X a t) (hb : J6 X b u) : PS X (.If c a b pos) (af3 tc t u) := by
 intro pins s σ H D I h
 refine wpAny_If (eB (hc pins s σ H _ I h) fun d s1 zz => ?_)
 obtain ⟨H1, I1, q1⟩ := zz
 cases d with
 | true => exact ha pins s1 σ H1 D I1 q1
 | false => exact hb pins s1 σ H1 D I1 q1
end
noncomputable abbrev TG := V -> St -> Hp -> (St -> Hp -> Prop) -> Prop
noncomputable abbrev TGs := List V -> St -> Hp -> (St -> Hp -> Prop) -> Prop
noncomputable def PG (X : Cx) (target : Expr) (t : TG) : Prop :=
 ∀ (pins : List (Addr × Obj)) (s : Shared) (σ : St) (H : Hp) (v : V) (u : Value) (Q : St -> Hp -> Prop), Inv X pins σ H s -> RelV v u -> t v σ H Q →
   wpAny (model X.prog X.w) X.A (assign target X.env u) (fun _ s' => ∃ σ' H', Inv X pins σ' H' s' /\ Q σ' H') X.xe s
noncomputable def PGs (X : Cx) (ts : List Expr) (t : TGs) : Prop :=
 ∀ (pins : List (Addr × Obj)) (s : Shared) (σ : St) (H : Hp) (vs : List V) (us : List Value) (Q : St -> Hp -> Prop), Inv X pins σ H s -> Vals vs us -> t vs σ H Q →
   wpAny (model X.prog X.w) X.A (assignInOrder ((assignEach ts X.env).map (·.2)) us) (fun _ s' => ∃ σ' H', Inv X pins σ' H' s' /\ Q σ' H') X.xe s
noncomputable abbrev aaF := V -> V -> V -> Hp -> (Hp -> Prop) -> Prop
noncomputable def adw (X : Cx) (t : aaF) : Prop :=
 ∀ (pins : List (Addr × Obj)) (s : Shared) (σ : St) (H : Hp) (o i v : V) (ov iv u : Value) (Q : Hp -> Prop), Inv X pins σ H s -> RelV o ov -> RelV i iv -> RelV v u -> t o i v H Q →
   wpAny (model X.prog X.w) X.A (setItem ov iv u) (fun _ s' => ∃ H', Inv X pins σ H' s' /\ Q H') X.xe s
noncomputable abbrev TIp := V -> V -> Hp -> VK -> Prop
noncomputable def PIp (X : Cx) (op : Operator) (t : TIp) : Prop :=
 ∀ (pins : List (Addr × Obj)) (s : Shared) (σ : St) (H : Hp) (x y : V) (v u : Value) (Q : VK), Inv X pins σ H s -> RelV x v -> RelV y u -> t x y H Q →
   wpAny (model X.prog X.w) X.A (inplaceOp op v u) (EP X pins σ Q) X.xe s
section
variable {X : Cx} {pos : Pos}
noncomputable def yo (i : Nat) : TG := fun v σ H Q => Q (σ.set i (some v)) H
theorem vq {i : Nat} {x : Str} (hN : X.N.Nodup) (hi : X.N[i]? = some x) (hx : Loc X.env.scope x) (hf : X.fn x = true \/ X.env.scope.names.lookup x = some .local := by first | exact .inl rfl | exact .inr rfl | assumption) : PG X (.Name x pos) (yo i) := by
 intro pins s σ H v u Q I r h
 exact wpAny_assign_Name (zJ I hN hi hx r (fun s' I' => ⟨_, H, I', h⟩) hf)
noncomputable def aaG : TGs := fun vs σ H Q => vs = [] /\ Q σ H
noncomputable def HC (t : TG) (u : TGs) : TGs := fun vs σ H Q => ∃ v r, vs = v :: r /\ t v σ H fun σ' H' => u r σ' H' Q
theorem VL : PGs X [] aaG := by
 intro pins s σ H vs us Q I r h
 obtain ⟨e, h⟩ := h
 subst e
 cases r
 exact assignInOrder_nil ⟨σ, H, I, h⟩
theorem HD {e : Expr} {es : List Expr} {t : TG} {u : TGs} (h1 : PG X e t) (h2 : PGs X es u)
   (hs : (assignEach (e :: es) X.env).map (·.2) = assign e X.env :: (assignEach es X.env).map (·.2) := by rfl) : PGs X (e :: es) (HC t u) := by
 intro pins s σ H vs us Q I r h
 obtain ⟨v, vr, e1, h⟩ := h
 subst e1
 cases r with
 | cons r rr =>
   rw [hs]
   refine assignInOrder_cons (eB (h1 pins s σ H _ _ _ I r h) fun _ s1 zz => ?_)
   obtain ⟨σ1, H1, I1, q1⟩ := zz
   exact h2 pins s1 σ1 H1 _ _ Q I1 rr q1
noncomputable def aaH (K : PySem.W.Frag) (n : Nat) (t : TGs) : TG := fun v σ H Q => ∃ a xs, v = .ref a /\ wX K H a xs /\ xs.length = n /\ t xs σ H Q
theorem aaI {es : List Expr} {k : Nat} {t : TGs} {n : Nat} (hc : X.calm = true) (h : PGs X es t)
   (hn : (assignEach es X.env).length = n := by rfl) (HF : (assignEach es X.env).findIdx? (·.1) = none := by rfl) : PG X (.Tuple es k pos) (aaH X.K n t) := by
 intro pins s σ H v u Q I r hw
 obtain ⟨a, xs, e1, hq, hl, hw⟩ := hw
 subst e1
 cases r
 obtain ⟨its, rv, ht, hz⟩ := I.tuple hq
 refine assign_Tuple_tuple (I.ok.hd hc) ht (by simp [hn, ← hl, rv.length]) HF fun h' hx => ?_
 have I1 : Inv X pins σ H { s with heap := h' } := I.kept (t' := s.toks) fun b o e => hx b o (ala (akT e)) e
 exact h pins _ σ H xs _ Q I1 (by simpa using rv) hw
noncomputable def af4 (to ti : TE) (t : aaF) : TG := fun v σ H Q => to σ H fun o H1 => ti σ H1 fun i H2 => t o i v H2 fun H3 => Q σ H3
theorem aaJ {o i : Expr} {to ti : TE} {t : aaF} (ho : PE X o to) (hi : PE X i ti) (hs : adw X t)
   (ha : ∀ v, assign (.Subscript o i pos) X.env v = (do
     let ov ← holding [v] (eval o X.env)
     let iv ← holding [v, ov] (eval i X.env)
     standAt pos
     holding [v, ov, iv] (setItem ov iv v)
     release [v, ov, iv] []) := by intro _; rfl) : PG X (.Subscript o i pos) (af4 to ti t) := by
 intro pins s σ H v u Q I r h
 rw [ha]
 refine akQ (amt (eB (ho pins s σ H _ I h) fun ov s1 zz => ?_))
 obtain ⟨x, H1, I1, r1, q1⟩ := zz
 refine akQ (amt (eB (hi pins s1 σ H1 _ I1 q1) fun iv s2 zz => ?_))
 obtain ⟨y, H2, I2, r2, q2⟩ := zz
 refine akQ (wpAny_standAt (akQ (amt (eB (hs pins s2 σ H2 x y v ov iv u _ I2 r1 r2 r q2) fun _ s3 zz => ?_))))
 obtain ⟨H3, I3, q3⟩ := zz
 exact wpAny_release ⟨σ, H3, I3, q3⟩
noncomputable def adx (te : TE) (g : TG) : TS := fun D σ H => te σ H fun x H1 => g x σ H1 D.nx
theorem aaK {tg e : Expr} {te : TE} {g : TG} (he : PE X e te) (hg : PG X tg g) (hs : swapsWithSole [tg] e pos.line X.env = pure false := by rfl) (hw : swappedStores [tg] e X.env = pure none := by rfl)
   (h1 : (assignEach [tg] X.env).map (·.2) = [assign tg X.env] := by rfl) : PS X (.Assign [tg] e pos) (adx te g) := by
 intro pins s σ H D I h
 refine wpAny_Assign_stores (eB (he pins s σ H _ I h) fun v s1 zz => ?_) hs hw
 obtain ⟨x, H1, I1, r1, q1⟩ := zz
 rw [h1]
 exact eB (hg pins s1 σ H1 x v _ I1 r1 q1) fun _ s2 q => q
theorem QS {i : Nat} {x : Str} {e : Expr} {te : TE} {pos' : Pos} (hN : X.N.Nodup) (hi : X.N[i]? = some x) (hx : Loc X.env.scope x) (he : PE X e te) (hs : swapsWith e (some (.Name x pos')) pos.line X.env = pure false := by rfl) (hf : X.fn x = true \/ X.env.scope.names.lookup x = some .local := by first | exact .inl rfl | exact .inr rfl | assumption) :
   PS X (.Assign [.Name x pos'] e pos) (adx te (yo i)) := by
 intro pins s σ H D I h
 refine wpAny_Assign_Name (eB (he pins s σ H _ I h) fun v s1 zz => ?_) hs
 obtain ⟨y, H1, I1, r1, q1⟩ := zz
 exact zJ I1 hN hi hx r1 (fun s2 I2 => ⟨_, H1, I2, q1⟩) hf
noncomputable def af5 (i : Nat) (te : TE) (ti : TIp) : TS := fun D σ H => ∃ x, σ[i]? = some (some x) /\ te σ H fun y H1 => ti x y H1 fun z H2 => D.nx (σ.set i (some z)) H2
theorem aaL {i : Nat} {x : Str} {e : Expr} {te : TE} {op : Operator} {ti : TIp} {pos' : Pos} (hN : X.N.Nodup) (hi : X.N[i]? = some x) (hx : Loc X.env.scope x) (he : PE X e te) (ho : PIp X op ti) (hf : X.fn x = true \/ X.env.scope.names.lookup x = some .local := by first | exact .inl rfl | exact .inr rfl | assumption) :
   PS X (.AugAssign (.Name x pos') op e pos) (af5 i te ti) := by
 intro pins s σ H D I h
 obtain ⟨v, e1, h⟩ := h
 obtain ⟨m, hn, hl⟩ := I.loc
 have vis : ZD X.env.scope x := by rcases hx with k | k; exact .inl k; exact .inr (.inl k)
 obtain ⟨u, r, l⟩ := hl i x v hi e1 vis
 refine wpAny_AugAssign_Name ?_
 have go : wpAny (model X.prog X.w) X.A (eval e X.env) (fun w s₂ => wpAny (model X.prog X.w) X.A (inplaceOp op u w) (fun r s₃ => wpAny (model X.prog X.w) X.A (storeName X.env x r) (fun _ => SP X pins D .next) X.xe s₃) X.xe s₂) X.xe s := by
   refine eB (he pins s σ H _ I h) fun w s1 zz => ?_
   obtain ⟨y, H1, I1, r1, q1⟩ := zz
   refine eB (ho pins s1 σ H1 v y u w _ I1 r r1 q1) fun z s2 zz => ?_
   obtain ⟨zv, H2, I2, r2, q2⟩ := zz
   exact zJ I2 hN hi hx r2 (fun s3 I3 => ⟨_, H2, I3, q2⟩) hf
 rcases l with ⟨hk, hm⟩ | ⟨hk, c, hc, tX⟩
 . exact wpAny_loadName_local I.ok.kind hk hn hm go
 . rcases hk with hk | hk
   . exact wpAny_loadName_cell I.ok.kind hk hc tX go
   . rcases hx with k | k
     . have : X.env.scope.names.lookup x = some .free := hk
       rw [k] at this; cases this
     . have : X.env.scope.names.lookup x = some .free := hk
       rw [k] at this; cases this
noncomputable def ipI (f : Int -> Int -> Int) : TIp := fun x y H Q => ∃ i j, x = .int i /\ y = .int j /\ Q (.int (f i j)) H
theorem aaM : PIp X .Add (ipI fun i j => i + j) := by
 intro pins s σ H x y v u Q I r1 r2 h
 obtain ⟨i, j, e1, e2, q⟩ := h
 subst e1; subst e2
 obtain ⟨t, rfl⟩ := r1
 obtain ⟨t', rfl⟩ := r2
 exact iadd_int ⟨.int _, H, I.tok _, ⟨_, rfl⟩, q⟩
end
section
variable {X : Cx} {pos : Pos}
noncomputable def aaN (c : TT) (tb : TS) : TS := fun D σ H => ∃ W : Nat -> St -> Hp -> Prop, (∃ m, W m σ H) /\ ∀ m σ H, W m σ H →
 c σ H fun b H1 => if b = true then ∃ N : St -> Hp -> Prop, (∀ σ' H', N σ' H' -> ∃ m', m' < m /\ W m' σ' H') /\ tb { D with nx := N, ct := N, bk := D.nx } σ H1 else D.nx σ H1
theorem QT {c : Expr} {body : List Stmt} {tc : TT} {tb : TS} (hp : PassesOwn (model X.prog X.w) X.A X.env X.xe) (hc : PT X c tc) (hb : J6 X body tb) : PS X (.While c body [] pos) (aaN tc tb) := by
 intro pins s σ H D I h
 obtain ⟨W, ⟨m0, w0⟩, turn⟩ := h
 refine wpAny_While (codeAny_whileLoop (fun n s' => ∃ σ' H', Inv X pins σ' H' s' /\ W n σ' H') ?_ m0 ⟨σ, H, I, w0⟩)
 rintro n s1 ⟨σ1, H1, I1, w1⟩
 refine alX hp (eB (hc pins s1 σ1 H1 _ I1 (turn n σ1 H1 w1)) fun b s2 zz => ?_)
 obtain ⟨H2, I2, q2⟩ := zz
 cases b with
 | true =>
   obtain ⟨N, hN, q2⟩ := q2
   rw [akJ rfl]
   refine alX hp (eB (hb pins s2 σ1 H2 _ I2 q2) fun f s3 q3 => ?_)
   cases f with
   | next =>
     obtain ⟨σ3, H3, I3, n3⟩ := q3
     obtain ⟨m', hm, w3⟩ := hN σ3 H3 n3
     exact ⟨m', hm, σ3, H3, I3, w3⟩
   | cont =>
     obtain ⟨σ3, H3, I3, n3⟩ := q3
     obtain ⟨m', hm, w3⟩ := hN σ3 H3 n3
     exact ⟨m', hm, σ3, H3, I3, w3⟩
   | brk => exact q3
   | ret v => exact q3
 | false =>
   rw [akH akO]
   exact wpAny_execs_nil ⟨σ1, H2, I2, q2⟩
end
structure It where
 go : Nat -> Hp -> Prop
 ZI : Nat -> Hp -> V -> Hp -> Prop
 stop : Nat -> Hp -> Prop
noncomputable def kH (X : Cx) (pins : List (Addr × Obj)) (H : Hp) (b : Addr) : Prop :=
 H b = none /\ b ≠ X.env.locals /\ b ∉ X.fs /\ (b ∈ X.ex \/ X.s₀.heap.objs.size <= b) /\ (∀ x c, X.env.cells.lookup x = some c -> c ≠ b) /\ ∀ p ∈ X.pn ++ pins, p.1 ≠ b
theorem Inv.Em {X : Cx} {pins : List (Addr × Obj)} {σ : St} {H H' : Hp} {s : Shared} {b : Addr} (I : Inv X pins σ H s) (hb : s.heap.objs.size <= b) (hn : H' b = none) : kH X pins H' b := by
 refine ⟨hn, Nat.ne_of_gt (ak9 I.lt hb), I.afS hb, .inr (alq I.sz hb), fun x c e z => ?_, fun p hp z => ?_⟩
 . obtain ⟨v, q⟩ := I.cell x c e
   exact absurd (ak9 q.lt (by rw [z]; exact hb)) (ame _)
 . exact absurd (ak9 (akT (I.pin p hp).1) (by rw [z]; exact hb)) (ame _)
structure Turn (P : Program) (w : World) (K : PySem.W.Frag) (tg : Expr) (J : It) (fp : List Addr) (it : Addr) (tn : Nat -> Heap -> Prop) : Prop where
 mem : it ∈ fp
 obj : ∀ i h, tn i h -> ∀ b ∈ fp, ∃ o, h.get? b = some o /\ ∀ v, o.data ≠ .cell v
 keep : ∀ i h h', tn i h -> (∀ b ∈ fp, ∀ o, h.get? b = some o -> h'.get? b = some o) -> tn i h'
 item : ∀ (X : Cx), X.prog = P -> X.w = w -> X.K = K -> X.calm = true -> ∀ (i : Nat) (pins : List (Addr × Obj)) (s : Shared) (σ : St) (H : Hp) (E : Value -> Shared -> Prop), Inv X pins σ H s -> (∀ b ∈ fp, kH X pins H b) -> tn i s.heap -> J.go i H →
   wpAny (model P w) X.A (pyNext (.ref it)) (fun r s1 => ∃ u, r = some u ∧
     wpAny (model P w) X.A (letOwnedTupleGo tg (.ref it) u) (fun _ s2 => ∃ x H', Inv X pins σ H' s2 /\ RelV x u /\ J.ZI i H x H' /\ tn (i + 1) s2.heap /\ ∀ b ∈ fp, H' b = none) E s1) E s
 done : ∀ (X : Cx), X.prog = P -> X.w = w -> X.K = K -> X.calm = true -> ∀ (i : Nat) (pins : List (Addr × Obj)) (s : Shared) (σ : St) (H : Hp) (E : Value -> Shared -> Prop), Inv X pins σ H s -> (∀ b ∈ fp, kH X pins H b) -> tn i s.heap -> J.stop i H →
   wpAny (model P w) X.A (pyNext (.ref it)) (fun r s1 => r = none /\ Inv X pins σ H s1) E s
 self : ∀ (A : Around) (i : Nat) (s : Shared) (Q : Value -> Shared -> Prop) (E : Value -> Shared -> Prop), tn i s.heap -> Q (.ref it) s -> wpAny (model P w) A (pyIter (.ref it)) Q E s
noncomputable abbrev TI := St -> Hp -> (It -> Hp -> Prop) -> Prop
noncomputable def PIE (X : Cx) (pins : List (Addr × Obj)) (σ : St) (tg : Expr) (R : It -> Hp -> Prop) (itv : Value) (s2 : Shared) : Prop :=
 ∃ (it : Addr) (fp : List Addr) (tn : Nat -> Heap -> Prop) (J : It) (H' : Hp), itv = .ref it /\ Inv X pins σ H' s2 /\ Turn X.prog X.w X.K tg J fp it tn /\ tn 0 s2.heap /\ (∀ b ∈ fp, kH X pins H' b) /\ R J H'
noncomputable def PI (X : Cx) (tg iter : Expr) (wi : TI) : Prop :=
 ∀ (pins : List (Addr × Obj)) (s : Shared) (σ : St) (H : Hp) (R : It -> Hp -> Prop), Inv X pins σ H s -> wi σ H R →
   wpAny (model X.prog X.w) X.A (eval iter X.env) (fun v s1 => wpAny (model X.prog X.w) X.A (pyIter v) (PIE X pins σ tg R) X.xe s1) X.xe s
theorem QV {M : Model} {A : Around} {E : Value -> Shared -> Prop} {s : Shared} {tg : Expr} {it : Addr} {u : Value} {o : Obj} {n : String} {vs : Array Value} {Q : Unit -> Shared -> Prop} (ho : s.heap.get? it = some o) (hc : o.cls = .type n) (hd : o.data = .fields vs)
   (hn : ["enumerate", "zip", "dict_itemiterator", "dict_reverseitemiterator", "odict_iterator", "itertools.zip_longest", "itertools.pairwise"].contains n = false) (hQ : Q () s) : wpAny M A (letOwnedTupleGo tg (.ref it) u) Q E s := by
 unfold letOwnedTupleGo
 cases tg <;> first
   | exact alh hQ
   | (cases u <;> first
       | exact alh hQ
       | (refine akQ (wpAny_load ho ?_)
          rw [hc, hd]
          show wpAny M A (if (["enumerate", "zip", "dict_itemiterator", "dict_reverseitemiterator", "odict_iterator", "itertools.zip_longest", "itertools.pairwise"].contains n && vs[0]? == some (rawInt _)) = true then _ else _) Q E s
          rw [akH (by intro h; rw [hn, Bool.false_and] at h; cases h)]
          exact alh hQ))
noncomputable def Itl (K : PySem.W.Frag) (a : Addr) : It :=
 ⟨fun i H => ∃ xs x, mC K H a xs /\ xs[i]? = some x, fun i H x H' => H' = H /\ ∀ xs, mC K H a xs -> xs[i]? = some x, fun i H => ∃ xs, mC K H a xs /\ xs.length <= i⟩
noncomputable def Itt (K : PySem.W.Frag) (a : Addr) : It :=
 ⟨fun i H => ∃ xs x, wX K H a xs /\ xs[i]? = some x, fun i H x H' => H' = H /\ ∀ xs, wX K H a xs -> xs[i]? = some x, fun i H => ∃ xs, wX K H a xs /\ xs.length <= i⟩
noncomputable def Itr (lo : Int) (n : Nat) : It := ⟨fun i _ => i < n, fun i H x H' => H' = H /\ x = .int (lo + i), fun i _ => n <= i⟩
theorem Ow {P : Program} {w : World} {K : PySem.W.Frag} {tg : Expr} (a it : Addr) : Turn P w K tg (Itl K a) [it] it (fun i h => h.IsListIter it a i) where
 mem := by simp
 obj := fun i h st b hb => by
   have e : b = it := by simpa using hb
   subst e
   obtain ⟨o, e, c, d⟩ := st
   exact ⟨o, e, fun v z => by rw [d] at z; cases z⟩
 keep := fun i h h' st k => st.at fun o e => k it (by simp) o e
 item := by
   intro X hP hw hK hc i pins s σ H E I hf st hg
   subst hP hw hK
   obtain ⟨xs, x, hq, hx⟩ := hg
   obtain ⟨its, rv, p, hz⟩ := I.list hq
   obtain ⟨u, hu, ru⟩ := rv.get hx
   obtain ⟨f0, f1, f2, f3, f4, f5⟩ := hf it (by simp)
   refine wpAny_pyNext_list_item st p.isList (x := u) (by simpa using hu) fun h' J8 sb => ?_
   have I1 : Inv X pins σ H { s with heap := h' } := I.turned (t' := s.toks) (fun b o hb e => (sb.2 b hb).trans e) f0 f1 f3 f4 f5
   obtain ⟨o, e, c, d⟩ := id J8
   exact ⟨u, rfl, QV (s := { s with heap := h' }) e c d (by decide) ⟨x, H, I1, ru, ⟨rfl, fun ys hy => by rw [I.HB hy hq]; exact hx⟩, J8, fun b hb => (hf b hb).1⟩⟩
 done := by
   intro X hP hw hK hc i pins s σ H E I hf st hg
   subst hP hw hK
   obtain ⟨xs, hq, hx⟩ := hg
   obtain ⟨its, rv, p, hz⟩ := I.list hq
   obtain ⟨f0, f1, f2, f3, f4, f5⟩ := hf it (by simp)
   have hl := rv.length
   exact wpAny_pyNext_list_end (I.ok.hd hc) st p.isList (by simp; omega) fun h' eb => ⟨rfl, I.turned (t' := s.toks) (fun b o hb e => eb b o hb e) f0 f1 f3 f4 f5⟩
 self := fun _ _ _ _ _ st h => wpAny_pyIter_listiter st h
theorem J9 {P : Program} {w : World} {K : PySem.W.Frag} {tg : Expr} (a it : Addr) : Turn P w K tg (Itt K a) [it] it (fun i h => h.IsTupleIter it a i) where
 mem := by simp
 obj := fun i h st b hb => by
   have e : b = it := by simpa using hb
   subst e
   obtain ⟨o, e, c, d⟩ := st
   exact ⟨o, e, fun v z => by rw [d] at z; cases z⟩
 keep := fun i h h' st k => st.at fun o e => k it (by simp) o e
 item := by
   intro X hP hw hK hc i pins s σ H E I hf st hg
   subst hP hw hK
   obtain ⟨xs, x, hq, hx⟩ := hg
   obtain ⟨its, rv, p, hz⟩ := I.tuple hq
   obtain ⟨u, hu, ru⟩ := rv.get hx
   obtain ⟨f0, f1, f2, f3, f4, f5⟩ := hf it (by simp)
   refine wpAny_pyNext_tuple_item st (show s.heap.IsTuple a its.toArray from p) (x := u) (by simpa using hu) fun h' J8 sb => ?_
   have I1 : Inv X pins σ H { s with heap := h' } := I.turned (t' := s.toks) (fun b o hb e => (sb.2 b hb).trans e) f0 f1 f3 f4 f5
   obtain ⟨o, e, c, d⟩ := id J8
   exact ⟨u, rfl, QV (s := { s with heap := h' }) e c d (by decide) ⟨x, H, I1, ru, ⟨rfl, fun ys hy => by rw [I.Ov hy hq]; exact hx⟩, J8, fun b hb => (hf b hb).1⟩⟩
 done := by
   intro X hP hw hK hc i pins s σ H E I hf st hg
   subst hP hw hK
   obtain ⟨xs, hq, hx⟩ := hg
   obtain ⟨its, rv, p, hz⟩ := I.tuple hq
   obtain ⟨f0, f1, f2, f3, f4, f5⟩ := hf it (by simp)
   have hl := rv.length
   exact wpAny_pyNext_tuple_end (I.ok.hd hc) st (show s.heap.IsTuple a its.toArray from p) (by simp; omega) fun h' eb => ⟨rfl, I.turned (t' := s.toks) (fun b o hb e => eb b o hb e) f0 f1 f3 f4 f5⟩
 self := fun _ _ _ _ _ st h => wpAny_pyIter_tupleiter st h
theorem Ka {P : Program} {w : World} {K : PySem.W.Frag} {tg : Expr} (it : Addr) (lo : Int) (n : Nat) : Turn P w K tg (Itr lo n) [it] it (fun i h => IsRangeIter h it (lo + (i : Nat) * 1) ((n : Int) - (i : Nat)) 1) where
 mem := by simp
 obj := fun i h st b hb => by
   have e : b = it := by simpa using hb
   subst e
   exact ⟨_, st, fun v z => by
     have z' : Data.fields _ = Data.cell v := z
     cases z'⟩
 keep := fun i h h' st k => k it (by simp) _ st
 item := by
   intro X hP hw hK hc i pins s σ H E I hf st hg
   subst hP hw hK
   obtain ⟨f0, f1, f2, f3, f4, f5⟩ := hf it (by simp)
   have W := Walks.range (prog := X.prog) (w := X.w) (I.ok.hd hc) it lo 1 n
   refine W.item i s _ _ hg st fun v h' tk hv J8 kk => ?_
   obtain ⟨t, rfl⟩ := hv
   have I1 : Inv X pins σ H { s with heap := h', toks := tk } := I.turned (fun b o hb e => kk b o (by simpa using hb) e) f0 f1 f3 f4 f5
   refine ⟨_, rfl, QV (s := { s with heap := h', toks := tk }) (n := "range_iterator") J8 rfl rfl (by decide) ⟨.int (lo + i), H, I1, ⟨t, ?_⟩, ⟨rfl, rfl⟩, J8, fun b hb => (hf b hb).1⟩⟩
   rw [Int.mul_one]
 done := by
   intro X hP hw hK hc i pins s σ H E I hf st hg
   subst hP hw hK
   obtain ⟨f0, f1, f2, f3, f4, f5⟩ := hf it (by simp)
   exact wpAny_pyNext_range_end (I.ok.hd hc) st (by have : n <= i := hg; omega) fun h' eb => ⟨rfl, I.turned (t' := s.toks) (fun b o hb e => eb b o hb e) f0 f1 f3 f4 f5⟩
 self := fun _ _ _ _ _ st h => wpAny_pyIter_rangeiter st h
section
variable {X : Cx} {tg : Expr}
noncomputable def ady (K : PySem.W.Frag) (tl : TE) : TI := fun σ H R => tl σ H fun x H1 => ∃ a, x = .ref a /\ (∃ xs, mC K H1 a xs) /\ R (Itl K a) H1
noncomputable def af7 (K : PySem.W.Frag) (tl : TE) : TI := fun σ H R => tl σ H fun x H1 => ∃ a, x = .ref a /\ (∃ xs, wX K H1 a xs) /\ R (Itt K a) H1
theorem VM {l : Expr} {tl : TE} (hl : PE X l tl) : PI X tg l (ady X.K tl) := by
 intro pins s σ H R I h
 refine eB (hl pins s σ H _ I h) fun v s1 zz => ?_
 obtain ⟨x, H1, I1, r1, q1⟩ := zz
 obtain ⟨a, e, ⟨xs, hq⟩, q⟩ := q1
 subst e
 cases r1
 obtain ⟨its, rv, p, hz⟩ := I1.list hq
 refine wpAny_pyIter_list p.isList ?_
 refine ⟨s1.heap.objs.size, [s1.heap.objs.size], _, _, H1, rfl, I1.kept (t' := s1.toks) fun b o e => akN _ e, Ow a _, ⟨_, ak3 _ rfl, rfl, rfl⟩, fun b hb => ?_, q⟩
 have e : b = s1.heap.objs.size := by simpa using hb
 subst e
 exact I1.Em (akG _) (I1.dJ.fresh (akG _))
theorem aaO {l : Expr} {tl : TE} (hl : PE X l tl) : PI X tg l (af7 X.K tl) := by
 intro pins s σ H R I h
 refine eB (hl pins s σ H _ I h) fun v s1 zz => ?_
 obtain ⟨x, H1, I1, r1, q1⟩ := zz
 obtain ⟨a, e, ⟨xs, hq⟩, q⟩ := q1
 subst e
 cases r1
 obtain ⟨its, rv, p, hz⟩ := I1.tuple hq
 refine wpAny_pyIter_tuple (show s1.heap.IsTuple a its.toArray from p) ?_
 refine ⟨s1.heap.objs.size, [s1.heap.objs.size], _, _, H1, rfl, I1.kept (t' := s1.toks) fun b o e => akN _ e, J9 a _, ⟨_, ak3 _ rfl, rfl, rfl⟩, fun b hb => ?_, q⟩
 have e : b = s1.heap.objs.size := by simpa using hb
 subst e
 exact I1.Em (akG _) (I1.dJ.fresh (akG _))
theorem QW {pins : List (Addr × Obj)} {σ : St} {H : Hp} {s : Shared} {R : It -> Hp -> Prop} {E : Value -> Shared -> Prop} {lo hi : Int} {t u v : Tok} {tk : Nat} (I : Inv X pins σ H s) (h1 : -(2 ^ 62) <= lo) (h2 : lo < 2 ^ 62) (h3 : -(2 ^ 62) <= hi) (h4 : hi < 2 ^ 62)
   (q : R (Itr lo (hi - lo).toNat) H) : wpAny (model X.prog X.w) X.A (pyIter (.ref s.heap.objs.size)) (PIE X pins σ tg R) E { s with heap := s.heap.push { cls := .type "range", data := .fields #[.int lo t, .int hi u, .int 1 v] }, toks := tk } := by
 refine wpAny_pyIter_range (IsRange.new ..) (small_one h1 h2 h3 h4) ?_
 have I1 : Inv X pins σ H { s with heap := s.heap.push { cls := .type "range", data := .fields #[.int lo t, .int hi u, .int 1 v] }, toks := tk } := I.kept fun b o e => akN _ e
 refine ⟨(s.heap.push { cls := .type "range", data := .fields #[.int lo t, .int hi u, .int 1 v] }).objs.size, [(s.heap.push { cls := .type "range", data := .fields #[.int lo t, .int hi u, .int 1 v] }).objs.size], _, _, H, rfl,
   I1.kept (t' := tk) fun b o e => akN _ e, Ka _ lo (hi - lo).toNat, ?_, fun b hb => ?_, q⟩
 . have e1 : lo + ((0 : Nat) : Int) * 1 = lo := by simp
   have e2 : (((hi - lo).toNat : Nat) : Int) - ((0 : Nat) : Int) = Builtin.Range.rangeSize lo hi 1 := by rw [rangeSize_one]; split <;> omega
   show IsRangeIter _ _ (lo + ((0 : Nat) : Int) * 1) ((((hi - lo).toNat : Nat) : Int) - ((0 : Nat) : Int)) 1
   rw [e1, e2]
   exact ak3 _ rfl
 . have e : b = (s.heap.push { cls := .type "range", data := .fields #[.int lo t, .int hi u, .int 1 v] }).objs.size := by simpa using hb
   subst e
   exact I1.Em (akG _) (I1.dJ.fresh (akG _))
noncomputable def adz (ta : TA) : TI := fun σ H R => ta σ H fun vs H1 => ∃ j : Int, vs = [.int j] /\ -(2 ^ 62) <= j /\ j < 2 ^ 62 /\ R (Itr 0 j.toNat) H1
theorem Ox {a : Expr} {ta : TA} {p pos : Pos} (hg : Gl X "range") (hm : X.mg "range" = none) (ha : PA X [a] ta) (hs : starEach [a] X.env = [(false, eval a X.env)] := by rfl) : PI X tg (.Call (.Name "range" p) [a] [] pos) (adz ta) := by
 intro pins s σ H R I h
 refine Call_ (w6 I hg hm boot_range (amb (eB (ha pos pins s σ H _ I h) fun us s1 zz => ?_) hs rfl))
 obtain ⟨vs, H1, I1, r1, q1⟩ := zz
 obtain ⟨j, e, q1, q2, q⟩ := q1
 subst e
 cases r1 with
 | cons r rr =>
   cases rr
   obtain ⟨t, rfl⟩ := r
   exact call_range_1 (QW I1 (by omega) (by omega) q1 q2 (by simpa using q))
noncomputable def af8 (wi : TI) (g : TG) (tb : TS) : TS := fun D σ H => wi σ H fun J H1 => ∃ W : Nat -> Nat -> St -> Hp -> Prop, (∃ m, W 0 m σ H1) /\ ∀ i m σ H, W i m σ H →
 (J.stop i H /\ D.nx σ H) \/ (J.go i H /\ ∃ N : St -> Hp -> Prop, (∀ σ' H', N σ' H' -> ∃ m', m' < m /\ W (i + 1) m' σ' H') /\ ∀ x H', J.ZI i H x H' -> g x σ H' fun σ2 H2 => tb { D with nx := N, ct := N, bk := D.nx } σ2 H2)
noncomputable def zK (fp : List Addr) (h : Heap) : List (Addr × Obj) := fp.filterMap fun b => (h.get? b).map fun o => (b, o)
theorem jA {fp : List Addr} {h : Heap} {b : Addr} {o : Obj} (hb : b ∈ fp) (e : h.get? b = some o) : (b, o) ∈ zK fp h := List.mem_filterMap.mpr ⟨b, hb, by rw [e]; rfl⟩
theorem Oz {fp : List Addr} {h : Heap} {p : Addr × Obj} (hp : p ∈ zK fp h) : p.1 ∈ fp /\ h.get? p.1 = some p.2 := by
 obtain ⟨b, hb, e⟩ := List.mem_filterMap.mp hp
 cases q : h.get? b with
 | none => rw [q] at e; cases e
 | some o =>
   rw [q] at e
   have e' : (b, o) = p := akU e
   subst e'
   exact ⟨hb, q⟩
theorem Inv.pinned {pins : List (Addr × Obj)} {σ : St} {H : Hp} {s : Shared} {fp : List Addr} (I : Inv X pins σ H s) (hf : ∀ b ∈ fp, kH X pins H b) (ho : ∀ b ∈ fp, ∃ o, s.heap.get? b = some o /\ ∀ v, o.data ≠ .cell v) : Inv X (pins ++ zK fp s.heap) σ H s :=
 I.yV fun p hp => (akC.mp hp).elim (fun z => I.pin p (aky _ z)) fun z => by
   obtain ⟨hb, e⟩ := Oz z
   obtain ⟨f0, f1, f2, _⟩ := hf p.1 hb
   obtain ⟨o, e', d⟩ := ho p.1 hb
   rw [e] at e'; cases e'
   exact ⟨e, f0, f1, f2, d⟩
theorem Inv.qK {pins pl : List (Addr × Obj)} {σ : St} {H : Hp} {s : Shared} (I : Inv X (pins ++ pl) σ H s) : Inv X pins σ H s := I.yV fun p hp => I.pin p (aky _ (akF _ hp))
theorem QX {iter : Expr} {body : List Stmt} {wi : TI} {g : TG} {tb : TS} {pos : Pos} (hp : PassesOwn (model X.prog X.w) X.A X.env X.xe) (hc : X.calm = true) (hi : PI X tg iter wi) (hg : PG X tg g) (hb : J6 X body tb)
   (hs : ∀ x, foldedSetIterable iter X.env x = pure x := by intro _; rfl) : PS X (.For tg iter body [] pos) (af8 wi g tb) := by
 intro pins s σ H D I h
 refine wpAny_For (eB (hi pins s σ H _ I h) fun v s1 h1 => eB h1 fun itv s2 h2 => ?_) hs
 obtain ⟨it, fp, tn, J, H2, e, I2, T, st2, f2, W, ⟨m0, w0⟩, turn⟩ := h2
 subst e
 have stat : ∀ {H' : Hp}, (∀ b ∈ fp, H' b = none) -> ∀ b ∈ fp, kH X pins H' b := fun hn b hb => ⟨hn b hb, (f2 b hb).2⟩
 refine codeAny_forLoop_any (fun n s' => ∃ i σ' H', Inv X pins σ' H' s' /\ tn i s'.heap /\ (∀ b ∈ fp, H' b = none) /\ W i n σ' H') ?_ m0 ⟨0, σ, H2, I2, st2, fun b hb => (f2 b hb).1, w0⟩
 rintro n s3 ⟨i, σ3, H3, I3, st3, fr3, w3⟩
 rcases turn i n σ3 H3 w3 with ⟨stop, qn⟩ | ⟨go, N, hN, step⟩
 . refine alX hp (eB (T.done X rfl rfl rfl hc i pins s3 σ3 H3 X.xe I3 (stat fr3) st3 stop) fun r s4 zz => ?_)
   obtain ⟨hr, I4⟩ := zz
   subst hr
   exact wpAny_execs_nil ⟨σ3, H3, I4, qn⟩
 . refine alX hp (eB (T.item X rfl rfl rfl hc i pins s3 σ3 H3 X.xe I3 (stat fr3) st3 go) fun r s4 zz => ?_)
   obtain ⟨u, hr, h4⟩ := zz
   subst hr
   refine alX hp (eB h4 fun _ s5 zz => ?_)
   obtain ⟨x, H5, I5, r5, y5, st5, fr5⟩ := zz
   have I5' := I5.pinned (stat fr5) (T.obj _ _ st5)
   refine alX hp (eB (hg _ s5 σ3 H5 x u _ I5' r5 (step x H5 y5)) fun _ s6 zz => ?_)
   obtain ⟨σ6, H6, I6, q6⟩ := zz
   refine alX hp (eB (hb _ s6 σ6 H6 _ I6 q6) fun f s7 q7 => ?_)
   have again : ∀ {σ7 : St} {H7 : Hp}, Inv X (pins ++ zK fp s5.heap) σ7 H7 s7 -> N σ7 H7 -> ∃ m, m < n /\ ∃ i σ' H', Inv X pins σ' H' s7 /\ tn i s7.heap /\ (∀ b ∈ fp, H' b = none) /\ W i m σ' H' := fun {σ7 H7} I7 n7 => by
     obtain ⟨m', hm, w7⟩ := hN σ7 H7 n7
     refine ⟨m', hm, i + 1, σ7, H7, I7.qK, T.keep _ _ _ st5 fun b hb o e => (I7.pin (b, o) (aky _ (aky _ (jA hb e)))).1, fun b hb => ?_, w7⟩
     obtain ⟨o, e, d⟩ := T.obj _ _ st5 b hb
     exact (I7.pin (b, o) (aky _ (aky _ (jA hb e)))).2.1
   cases f with
   | next => obtain ⟨σ7, H7, I7, n7⟩ := q7; exact again I7 n7
   | cont => obtain ⟨σ7, H7, I7, n7⟩ := q7; exact again I7 n7
   | brk => obtain ⟨σ7, H7, I7, q7⟩ := q7; exact ⟨σ7, H7, I7.qK, q7⟩
   | ret v => obtain ⟨x7, σ7, H7, I7, r7, q7⟩ := q7; exact ⟨x7, σ7, H7, I7.qK, r7, q7⟩
end
noncomputable abbrev R2 := V -> V -> Hp -> VK -> Prop
noncomputable def yX (X : Cx) (f : Value -> Value -> Sem Value) (r : R2) : Prop :=
 ∀ (pins : List (Addr × Obj)) (s : Shared) (σ : St) (H : Hp) (x y : V) (v u : Value) (Q : VK), Inv X pins σ H s -> RelV x v -> RelV y u -> r x y H Q →
   wpAny (model X.prog X.w) X.A (f v u) (EP X pins σ Q) X.xe s
noncomputable def UnR (X : Cx) (f : Value -> Sem Value) (r : V -> Hp -> VK -> Prop) : Prop :=
 ∀ (pins : List (Addr × Obj)) (s : Shared) (σ : St) (H : Hp) (x : V) (v : Value) (Q : VK), Inv X pins σ H s -> RelV x v -> r x H Q →
   wpAny (model X.prog X.w) X.A (f v) (EP X pins σ Q) X.xe s
noncomputable def qL (X : Cx) (f : Value) (r : List V -> Hp -> VK -> Prop) : Prop :=
 ∀ (pins : List (Addr × Obj)) (s : Shared) (σ : St) (H : Hp) (xs : List V) (us : List Value) (Q : VK), Inv X pins σ H s -> Vals xs us -> r xs H Q →
   wpAny (model X.prog X.w) X.A (call f us) (EP X pins σ Q) X.xe s
noncomputable def aga (X : Cx) (r : V -> Hp -> (Bool -> Hp -> Prop) -> Prop) : Prop :=
 ∀ (pins : List (Addr × Obj)) (s : Shared) (σ : St) (H : Hp) (x : V) (v : Value) (Q : Bool -> Hp -> Prop), Inv X pins σ H s -> RelV x v -> r x H Q →
   wpAny (model X.prog X.w) X.A (truthy v) (TP X pins σ Q) X.xe s
noncomputable def tOp (r : R2) (ta tb : TE) : TE := fun σ H Q => ta σ H fun x H1 => tb σ H1 fun y H2 => r x y H2 Q
noncomputable def tUn (r : V -> Hp -> VK -> Prop) (ta : TE) : TE := fun σ H Q => ta σ H fun x H1 => r x H1 Q
noncomputable def rI (C : Int -> Int -> Prop) (g : Int -> Int -> V) : R2 := fun x y H Q => ∃ i j, x = .int i /\ y = .int j /\ C i j /\ Q (g i j) H
noncomputable def rI0 (g : Int -> Int -> V) : R2 := fun x y H Q => ∃ i j, x = .int i /\ y = .int j /\ Q (g i j) H
noncomputable def rU (g : Int -> V) : V -> Hp -> VK -> Prop := fun x H Q => ∃ i, x = .int i /\ Q (g i) H
section
variable {X : Cx} {a b c : Expr} {ta tb tc : TE} {pos : Pos}
theorem aaP (ha : PE X a ta) (hb : PE X b tb) {pins : List (Addr × Obj)} {s : Shared} {σ : St} {H : Hp} {R : V -> V -> Hp -> Prop} (I : Inv X pins σ H s)
   (h : ta σ H fun x H1 => tb σ H1 fun y H2 => R x y H2) {Q : Value -> Shared -> Prop} {f : Value -> Value -> Sem Value}
   (hf : ∀ v u s2 x y H2, Inv X pins σ H2 s2 -> RelV x v -> RelV y u -> R x y H2 -> wpAny (model X.prog X.w) X.A (f v u) Q X.xe s2) :
   wpAny (model X.prog X.w) X.A (eval a X.env) (fun v s₁ => wpAny (model X.prog X.w) X.A (eval b X.env) (fun u s₂ => wpAny (model X.prog X.w) X.A (f v u) Q X.xe s₂) X.xe s₁) X.xe s := by
 refine eB (ha pins s σ H _ I h) fun v s1 zz => ?_
 obtain ⟨x, H1, I1, r1, q1⟩ := zz
 refine eB (hb pins s1 σ H1 _ I1 q1) fun u s2 zz => ?_
 obtain ⟨y, H2, I2, r2, q2⟩ := zz
 exact hf v u s2 x y H2 I2 r1 r2 q2
theorem M6 {op : Operator} {r : R2} (ho : yX X (binaryOp op) r) (ha : PE X a ta) (hb : PE X b tb) : PE X (.BinOp a op b pos) (tOp r ta tb) := by
 intro pins s σ H Q I h
 exact wpAny_BinOp (aaP ha hb I h fun v u s2 x y H2 I2 rx ry q => ho pins s2 σ H2 x y v u Q I2 rx ry q)
theorem adC {op : UnaryOp} {r : V -> Hp -> VK -> Prop} (ho : UnR X (unaryOp op) r) (ha : PE X a ta) : PE X (.UnaryOp op a pos) (tUn r ta) := by
 intro pins s σ H Q I h
 exact UnaryOp_ (eB (ha pins s σ H _ I h) fun v s1 ⟨x, H1, I1, r1, q1⟩ => ho pins s1 σ H1 x v Q I1 r1 q1)
theorem opI {f : Value -> Value -> Sem Value} {C : Int -> Int -> Prop} {g : Int -> Int -> Int}
   (rule : ∀ (i j : Int) (t u : Tok) (s : Shared) (Q : Value -> Shared -> Prop) (E : Value -> Shared -> Prop), C i j -> Q (.int (g i j) s.toks) { s with toks := s.toks + 1 } -> wpAny (model X.prog X.w) X.A (f (.int i t) (.int j u)) Q E s) :
   yX X f (rI C fun i j => .int (g i j)) := by
 intro pins s σ H x y v u Q I rx ry h
 obtain ⟨i, j, rfl, rfl, hc, q⟩ := h
 obtain ⟨t, rfl⟩ := rx
 obtain ⟨t', rfl⟩ := ry
 exact rule i j t t' s _ _ hc ⟨.int (g i j), H, I.tok _, ⟨_, rfl⟩, q⟩
theorem adD {f : Value -> Value -> Sem Value} {g : Int -> Int -> Int}
   (rule : ∀ (i j : Int) (t u : Tok) (s : Shared) (Q : Value -> Shared -> Prop) (E : Value -> Shared -> Prop), Q (.int (g i j) s.toks) { s with toks := s.toks + 1 } -> wpAny (model X.prog X.w) X.A (f (.int i t) (.int j u)) Q E s) :
   yX X f (rI0 fun i j => .int (g i j)) := by
 intro pins s σ H x y v u Q I rx ry h
 obtain ⟨i, j, rfl, rfl, q⟩ := h
 obtain ⟨t, rfl⟩ := rx
 obtain ⟨t', rfl⟩ := ry
 exact rule i j t t' s _ _ ⟨.int (g i j), H, I.tok _, ⟨_, rfl⟩, q⟩
theorem agb {f : Value -> Value -> Sem Value} {g : Int -> Int -> Bool}
   (rule : ∀ (i j : Int) (t u : Tok) (s : Shared) (Q : Value -> Shared -> Prop) (E : Value -> Shared -> Prop), Q (.bool (g i j)) s -> wpAny (model X.prog X.w) X.A (f (.int i t) (.int j u)) Q E s) :
   yX X f (rI0 fun i j => .bl (g i j)) := by
 intro pins s σ H x y v u Q I rx ry h
 obtain ⟨i, j, rfl, rfl, q⟩ := h
 obtain ⟨t, rfl⟩ := rx
 obtain ⟨t', rfl⟩ := ry
 exact rule i j t t' s _ _ ⟨.bl (g i j), H, I, rfl, q⟩
noncomputable def adE (i j : Int) : Prop := 0 < j /\ j < 1073741824
noncomputable def adF (i j : Int) : Prop := 0 <= j /\ j <= 1000000 /\ i.natAbs < 2 ^ 64
noncomputable def VN (i j : Int) : Prop := (-(2 ^ 64) < i /\ i < 2 ^ 64) \/ (-(2 ^ 64) < j /\ j < 2 ^ 64)
theorem VN.ok {i j : Int} (h : VN i j) : IntMulOk i j := by
 rcases h with ⟨h1, h2⟩ | ⟨h1, h2⟩
 . exact .of_left (intBits_le_64 h1 h2)
 . exact .of_right (intBits_le_64 h1 h2)
theorem aaQ : yX X (binaryOp .Add) (rI0 fun i j => .int (i + j)) := adD fun _ _ _ _ _ _ _ q => add_int q
theorem aaR : yX X (binaryOp .Sub) (rI0 fun i j => .int (i - j)) := adD fun _ _ _ _ _ _ _ q => sub_int q
theorem aaS : yX X (binaryOp .Mult) (rI VN fun i j => .int (i * j)) := opI fun _ _ _ _ _ _ _ hc q => mul_int q hc.ok
theorem VP : yX X (binaryOp .FloorDiv) (rI adE fun i j => .int (i / j)) := opI fun i j _ _ _ _ _ hc q => by
 have h1 : (0 : Int) < j := hc.1
 have h2 : j < 1073741824 := hc.2
 exact floordiv_int (by omega) (by rw [Int.fdiv_eq_ediv_of_nonneg i (by omega)]; exact q) (.inl (PyProof.noPylong_small (by omega)))
theorem aaT : yX X (binaryOp .Mod) (rI (fun _ j => 0 < j) fun i j => .int (i % j)) := opI fun i j _ _ _ _ _ hc q => by
 have h1 : (0 : Int) < j := hc
 exact mod_int' (by omega) (by rw [Int.fmod_eq_emod_of_nonneg i (by omega)]; exact q)
theorem aaU : yX X (binaryOp .Pow) (rI adF fun i j => .int (i ^ j.toNat)) := opI fun _ _ _ _ _ _ _ hc q => pow_int_small hc.1 hc.2.1 hc.2.2 q
theorem unI {f : Value -> Sem Value} {g : Int -> Int}
   (rule : ∀ (i : Int) (t : Tok) (s : Shared) (Q : Value -> Shared -> Prop) (E : Value -> Shared -> Prop), Q (.int (g i) s.toks) { s with toks := s.toks + 1 } -> wpAny (model X.prog X.w) X.A (f (.int i t)) Q E s) :
   UnR X f (rU fun i => .int (g i)) := by
 intro pins s σ H x v Q I rx h
 obtain ⟨i, rfl, q⟩ := h
 obtain ⟨t, rfl⟩ := rx
 exact rule i t s _ _ ⟨.int (g i), H, I.tok _, ⟨_, rfl⟩, q⟩
theorem aaV : UnR X (unaryOp .USub) (rU fun i => .int (-i)) := unI fun _ _ _ _ _ q => neg_int q
end
noncomputable def adG : V -> V -> Bool
 | .non, .non => true | .non, .int _ => true | .int _, .non => true | .non, .bl _ => true | .bl _, .non => true | .non, .str _ => true | .str _, .non => true
 | .int _, .int _ => true | .bl _, .bl _ => true | .str _, .str _ => true | .M5 _, .M5 _ => true
 | .int _, .str _ => true | .str _, .int _ => true | .bl _, .str _ => true | .str _, .bl _ => true
 | _, _ => false
noncomputable def rEq : R2 := fun x y H Q => adG x y = true /\ Q (.bl (decide (x = y))) H
noncomputable def rNe : R2 := fun x y H Q => adG x y = true /\ Q (.bl (!decide (x = y))) H
theorem M7 {i j : Int} : decide (V.int i = V.int j) = (i == j) := by
 rw [Bool.eq_iff_iff]
 simp
theorem QY {i j : Bool} : decide (V.bl i = V.bl j) = (i == j) := by
 rw [Bool.eq_iff_iff]
 simp
theorem M8 {i j : Str} : decide (V.str i = V.str j) = (i == j) := by
 rw [Bool.eq_iff_iff]
 simp
theorem M9 {i j : Array UInt8} : decide (V.M5 i = V.M5 j) = (i.toList == j.toList) := by
 rw [Bool.eq_iff_iff]
 cases i
 cases j
 simp
section
variable {X : Cx} {a b c : Expr} {ta tb tc : TE} {pos : Pos}
theorem cC {pins : List (Addr × Obj)} {σ : St} {H : Hp} {s : Shared} {Q : VK} {k k' : Bool} (I : Inv X pins σ H s) (q : Q (.bl k) H) (e : k = k') : EP X pins σ Q (.bool k') s := by
 subst e
 exact ⟨.bl k, H, I, rfl, q⟩
theorem ZJ : yX X (compareOp .Eq) rEq := by
 intro pins s σ H x y v u Q I rx ry h
 obtain ⟨hs, q⟩ := h
 cases x with
 | non =>
   cases rx
   cases y with
   | non => cases ry; exact PySem.EqNone.eq_none_none (cC I q (by simp))
   | bl j => cases ry; exact PySem.EqNone.eq_none_bool (cC I q (by simp))
   | int j => obtain ⟨t', rfl⟩ := ry; exact PySem.EqNone.eq_none_int (cC I q (by simp))
   | str j => obtain ⟨t', rfl⟩ := ry; exact PySem.EqNone.eq_none_str (cC I q (by simp))
   | _ => exact absurd (show false = true from hs) akO
 | bl i =>
   cases rx
   cases y with
   | non => cases ry; exact PySem.EqNone.eq_bool_none (cC I q (by simp))
   | bl j => cases ry; exact eq_bool (cC I q QY)
   | str j => obtain ⟨t', rfl⟩ := ry; exact PySem.EqMixed.eq_bool_str (cC I q (by simp))
   | _ => exact absurd (show false = true from hs) akO
 | int i =>
   obtain ⟨t, rfl⟩ := rx
   cases y with
   | non => cases ry; exact PySem.EqNone.eq_int_none (cC I q (by simp))
   | int j => obtain ⟨t', rfl⟩ := ry; exact eq_int (cC I q M7)
   | str j => obtain ⟨t', rfl⟩ := ry; exact PySem.EqMixed.eq_int_str (cC I q (by simp))
   | _ => exact absurd (show false = true from hs) akO
 | str i =>
   obtain ⟨t, rfl⟩ := rx
   cases y with
   | non => cases ry; exact PySem.EqNone.eq_str_none (cC I q (by simp))
   | bl j => cases ry; exact PySem.EqMixed.eq_str_bool (cC I q (by simp))
   | int j => obtain ⟨t', rfl⟩ := ry; exact PySem.EqMixed.eq_str_int (cC I q (by simp))
   | str j => obtain ⟨t', rfl⟩ := ry; exact eq_str (cC I q M8)
   | _ => exact absurd (show false = true from hs) akO
 | M5 i =>
   obtain ⟨t, rfl⟩ := rx
   cases y with
   | M5 j => obtain ⟨t', rfl⟩ := ry; exact PySem.W.eq_bytes (cC I q M9)
   | _ => exact absurd (show false = true from hs) akO
 | _ => cases y <;> exact absurd (show false = true from hs) akO
theorem adH : yX X (compareOp .NotEq) rNe := by
 intro pins s σ H x y v u Q I rx ry h
 obtain ⟨hs, q⟩ := h
 cases x with
 | non =>
   cases rx
   cases y with
   | non => cases ry; exact PySem.EqNone.ne_none_none (cC I q (by simp))
   | bl j => cases ry; exact PySem.EqNone.ne_none_bool (cC I q (by simp))
   | int j => obtain ⟨t', rfl⟩ := ry; exact PySem.EqNone.ne_none_int (cC I q (by simp))
   | str j => obtain ⟨t', rfl⟩ := ry; exact PySem.EqNone.ne_none_str (cC I q (by simp))
   | _ => exact absurd (show false = true from hs) akO
 | bl i =>
   cases rx
   cases y with
   | non => cases ry; exact PySem.EqNone.ne_bool_none (cC I q (by simp))
   | bl j => cases ry; exact ne_bool (cC I q (congrArg not QY))
   | str j => obtain ⟨t', rfl⟩ := ry; exact PySem.EqMixed.ne_bool_str (cC I q (by simp))
   | _ => exact absurd (show false = true from hs) akO
 | int i =>
   obtain ⟨t, rfl⟩ := rx
   cases y with
   | non => cases ry; exact PySem.EqNone.ne_int_none (cC I q (by simp))
   | int j => obtain ⟨t', rfl⟩ := ry; exact ne_int (cC I q (congrArg not M7))
   | str j => obtain ⟨t', rfl⟩ := ry; exact PySem.EqMixed.ne_int_str (cC I q (by simp))
   | _ => exact absurd (show false = true from hs) akO
 | str i =>
   obtain ⟨t, rfl⟩ := rx
   cases y with
   | non => cases ry; exact PySem.EqNone.ne_str_none (cC I q (by simp))
   | bl j => cases ry; exact PySem.EqMixed.ne_str_bool (cC I q (by simp))
   | int j => obtain ⟨t', rfl⟩ := ry; exact PySem.EqMixed.ne_str_int (cC I q (by simp))
   | str j => obtain ⟨t', rfl⟩ := ry; exact ne_str (cC I q (congrArg not M8))
   | _ => exact absurd (show false = true from hs) akO
 | M5 i =>
   obtain ⟨t, rfl⟩ := rx
   cases y with
   | M5 j => obtain ⟨t', rfl⟩ := ry; exact PySem.W.ne_bytes (cC I q (congrArg not M9))
   | _ => exact absurd (show false = true from hs) akO
 | _ => cases y <;> exact absurd (show false = true from hs) akO
theorem adI : yX X (compareOp .Lt) (rI0 fun i j => .bl (decide (i < j))) := agb fun _ _ _ _ _ _ _ q => lt_int q
theorem w9 (b : Expr) {op : CmpOp} (h : op ≠ .In := by decide) (h2 : op ≠ .NotIn := by decide) : behindInMarks op b = false := by
 have e1 : (op == CmpOp.In) = false := by cases op <;> first | rfl | exact absurd rfl h
 have e2 : (op == CmpOp.NotIn) = false := by cases op <;> first | rfl | exact absurd rfl h2
 cases b <;> simp [behindInMarks, e1, e2]
theorem vt {op : CmpOp} {r : R2} (ho : yX X (compareOp op) r) (ha : PE X a ta) (hb : PE X b tb) (hm : behindInMarks op b = false) : PE X (.Compare a [op] [b] pos) (tOp r ta tb) := by
 intro pins s σ H Q I h
 exact wpAny_Compare1 (aaP ha hb I h fun v u s2 x y H2 I2 rx ry q => ho pins s2 σ H2 x y v u Q I2 rx ry q) hm
noncomputable def adJ (t : TE) : TT := fun σ H Q => t σ H fun x H' => ∃ k, x = .bl k /\ Q k H'
theorem sC {op : CmpOp} {r : R2} (ho : yX X (compareOp op) r) (ha : PE X a ta) (hb : PE X b tb) (hm : behindInMarks op b = false) : PT X (.Compare a [op] [b] pos) (adJ (tOp r ta tb)) := by
 intro pins s σ H Q I h
 refine wpAny_isTrue_Compare1 (eB (ha pins s σ H _ I h) fun v s1 ⟨x, H1, I1, r1, q1⟩ => eB (hb pins s1 σ H1 _ I1 q1) fun u s2 ⟨y, H2, I2, r2, q2⟩ =>
   eB (ho pins s2 σ H2 x y v u _ I2 r1 r2 q2) fun c s3 ⟨z, H3, I3, r3, k, e, q3⟩ => ?_) hm
 subst e
 cases r3
 exact wpAny_truthy_bool ⟨H3, I3, q3⟩
noncomputable def adK (K : PySem.W.Frag) (x : V) (H : Hp) (k : Bool) : Prop :=
 match x with
 | .non => k = false
 | .bl b => k = b
 | .int i => k = (i != 0)
 | .str y => y.length <= sizeLine /\ k = ((y.length : Int) != 0)
 | .M5 y => y.size <= sizeLine /\ k = ((y.size : Int) != 0)
 | .ref p => (∃ xs, mC K H p xs /\ k = !xs.isEmpty) \/ (∃ xs, wX K H p xs /\ k = !xs.isEmpty) \/ ∃ kvs, H p = some (.dK kvs) /\ k = !kvs.isEmpty
 | _ => False
theorem Kc {κ : Type} {kvs : List (κ × V)} {vs : List (κ × Value)} (r : KV kvs vs) : (!vs.isEmpty) = !kvs.isEmpty := by
 cases r <;> rfl
theorem zL {xs : List V} {its : List Value} (r : Vals xs its) : (!its.toArray.isEmpty) = !xs.isEmpty := by
 cases r <;> simp
theorem zM : (sizeLine : Nat) < 2 ^ 63 := by rw [alb]; decide
theorem aaW : aga X (fun x H Q => ∃ k, adK X.K x H k /\ Q k H) := by
 intro pins s σ H x v Q I rx h
 obtain ⟨k, e, q⟩ := h
 have hl := zM
 have hs : sizeLine = 16777216 := alb
 cases x with
 | non =>
   cases rx
   have e' : k = false := e
   subst e'
   exact truthy_none ⟨H, I, q⟩
 | bl b =>
   cases rx
   have e' : k = b := e
   subst e'
   exact wpAny_truthy_bool ⟨H, I, q⟩
 | int i =>
   obtain ⟨t, rfl⟩ := rx
   have e' : k = (i != 0) := e
   subst e'
   exact PySem.P.truthy_int ⟨H, I, q⟩
 | str y =>
   obtain ⟨t, rfl⟩ := rx
   obtain ⟨hy, e'⟩ : y.length <= sizeLine /\ k = ((y.length : Int) != 0) := e
   subst e'
   exact PySem.P.truthy_str (by omega) ⟨H, I.tok _, q⟩
 | M5 y =>
   obtain ⟨t, rfl⟩ := rx
   obtain ⟨hy, e'⟩ : y.size <= sizeLine /\ k = ((y.size : Int) != 0) := e
   subst e'
   exact PySem.W.truthy_bytes (by omega) ⟨H, I.tok _, q⟩
 | ref p =>
   cases rx
   have e' : (∃ xs, mC X.K H p xs /\ k = !xs.isEmpty) \/ (∃ xs, wX X.K H p xs /\ k = !xs.isEmpty) \/ ∃ kvs, H p = some (.dK kvs) /\ k = !kvs.isEmpty := e
   rcases e' with ⟨xs, hx, e'⟩ | ⟨xs, hx, e'⟩ | ⟨kvs, hx, e'⟩
   . subst e'
     obtain ⟨its, r, pl, hz⟩ := I.list hx
     have hlen := r.length
     exact wpAny_truthy_list pl.isList (by simp only [akI]; omega) ⟨H, I.tok _, by rw [zL r]; exact q⟩
   . subst e'
     obtain ⟨its, r, pl, hz⟩ := I.tuple hx
     have hlen := r.length
     exact truthy_tuple pl (by simp only [akI]; omega) ⟨H, I.tok _, by rw [zL r]; exact q⟩
   . subst e'
     obtain ⟨hz, hS, vs, r, m⟩ : kvs.length <= sizeLine /\ (p == sysModules) = false /\ ∃ vs, KV kvs vs /\ s.heap.DictOf (eO X.prog X.w) p vs := I.dJ p _ hx
     have hlen : kvs.length = vs.length := Paired.length r
     exact wpAny_truthy_dict hS m (by omega) ⟨H, I.tok _, by rw [Kc r]; exact q⟩
 | _ => exact (show False from e).elim
theorem QZ (ha : PE X a ta) (he : ∀ whole, isTrue a X.env whole = (do let v ← whole; standAt a.pos; holding [v] (truthy v))) :
   PT X a (fun σ H Q => ta σ H fun x H' => ∃ k, adK X.K x H' k /\ Q k H') := by
 intro pins s σ H Q I h
 exact isTrue_plain (eB (ha pins s σ H _ I h) fun v s1 ⟨x, H1, I1, r1, q1⟩ => aaW pins s1 σ H1 x v Q I1 r1 q1) (he _)
theorem Kd : yX X (binaryOp .Add) (fun x y H Q => ∃ i j, x = .str i /\ y = .str j /\ i.length + j.length <= sizeLine /\ Q (.str (i ++ j)) H) := by
 intro pins s σ H x y v u Q I rx ry h
 obtain ⟨i, j, rfl, rfl, hz, q⟩ := h
 obtain ⟨t, rfl⟩ := rx
 obtain ⟨t', rfl⟩ := ry
 exact add_str (fun t' tk => ⟨.str (i ++ j), H, I.tok _, ⟨_, rfl⟩, q⟩) hz
theorem vals1 {x : V} {us : List Value} (r : Vals [x] us) : ∃ u, us = [u] /\ RelV x u := by
 cases r with
 | cons r1 r2 => cases r2; exact ⟨_, rfl, r1⟩
theorem vals2 {x y : V} {us : List Value} (r : Vals [x, y] us) : ∃ u w', us = [u, w'] /\ RelV x u /\ RelV y w' := by
 cases r with
 | cons r1 r2 =>
   cases r2 with
   | cons r3 r4 => cases r4; exact ⟨_, _, rfl, r1, r3⟩
theorem OB (hc : X.calm = true) : qL X (.builtin "max") (fun xs H Q => ∃ i j, xs = [.int i, .int j] /\ Q (.int (if j > i then j else i)) H) := by
 intro pins s σ H xs us Q I r h
 obtain ⟨i, j, rfl, q⟩ := h
 obtain ⟨u, w', rfl, ⟨t, rfl⟩, ⟨t', rfl⟩⟩ := vals2 r
 refine max_two_ints (I.ok.hd hc) fun h' tk k => ⟨_, H, I.kept k, ?_, q⟩
 by_cases hj : j > i
 . rw [akJ hj, akJ hj]; exact ⟨_, rfl⟩
 . rw [akH hj, akH hj]; exact ⟨_, rfl⟩
theorem OD (hc : X.calm = true) : qL X (.builtin "min") (fun xs H Q => ∃ i j, xs = [.int i, .int j] /\ Q (.int (if j < i then j else i)) H) := by
 intro pins s σ H xs us Q I r h
 obtain ⟨i, j, rfl, q⟩ := h
 obtain ⟨u, w', rfl, ⟨t, rfl⟩, ⟨t', rfl⟩⟩ := vals2 r
 refine min_two_ints (I.ok.hd hc) fun h' tk k => ⟨_, H, I.kept k, ?_, q⟩
 by_cases hj : j < i
 . rw [akJ hj, akJ hj]; exact ⟨_, rfl⟩
 . rw [akH hj, akH hj]; exact ⟨_, rfl⟩
theorem En : qL X (.type "str") (fun xs H Q => ∃ i, xs = [.int i] /\ i.natAbs.log2 < 1920 /\ Q (.str (toString i)) H) := by
 intro pins s σ H xs us Q I r h
 obtain ⟨i, rfl, hz, q⟩ := h
 obtain ⟨u, rfl, t, rfl⟩ := vals1 r
 exact PySem.P.str_of_int hz ⟨.str _, H, I.tok _, ⟨_, rfl⟩, q⟩
end
structure Ke (h : Heap) (x dx C : Addr) (mA : Str -> Option Value) : Prop where
 obj : h.get? x = some (PySem.W.instObj C dx)
 ns : h.Ns1 dx mA
 ne : dx ≠ x
theorem OG {h : Heap} {dx : Addr} {mA : Str -> Option Value} (n : h.Ns1 dx mA) : ∃ od, h.get? dx = some od /\ ∀ name, PySem.W.lookIn name od = some (mA name) := by
 obtain ⟨o, es, ep, ho, hd, hk, _, hm⟩ := n
 refine ⟨o, ho, fun name => ?_⟩
 have e := hm name
 unfold nsFind findBy at e
 rw [← Array.find?_toList] at e
 unfold PySem.W.lookIn
 rw [hd]
 dsimp only
 split
 . rename_i y q
   rw [q] at e
   exact congrArg some e
 . rename_i q
   rw [q] at e
   have a : es.toList.any (·.refKey) = false := by
     rw [List.any_eq_false]
     intro y hy
     obtain ⟨z, t, agc⟩ := hk y (Array.mem_toList_iff.mp hy)
     simp [DictEntry.refKey, agc]
   have a' : ¬ es.toList.any (·.refKey) = true := by rw [a]; exact akO
   rw [akH a']
   exact congrArg some e
theorem Ke.look {h : Heap} {x dx C : Addr} {mA : Str -> Option Value} (I : Ke h x dx C mA) : ∃ od, PySem.W.InstAt h x (PySem.W.instObj C dx) C (some od) /\ ∀ name, PySem.W.lookIn name od = some (mA name) :=
 let ⟨od, ho, hl⟩ := OG I.ns
 ⟨od, ⟨I.obj, rfl, rfl, ho⟩, hl⟩
section
variable {prog : Program} {w : World} {A : Around} {E : Value -> Shared -> Prop} {s : Shared} {K : PySem.W.Frag} {x dx C f : Addr} {mA : Str -> Option Value} {name : Str} {v : Value}
theorem get_map {expr : Bool} {Q : Value -> Shared -> Prop} (X : K.In s.heap) (I : Ke s.heap x dx C mA) (hg : PySem.W.plainGet K C name = true) (hh : PySem.W.hasDictIn K C = true)
   (ha : PySem.W.findIn K (.ref C) name = some none) (hv : mA name = some v) (hv' : PySem.W.handedIn v = true) (h : Q v { s with toks := s.toks + 1 }) :
   wpAny (model prog w) A (getAttr (.ref x) name expr) Q E s := by
 obtain ⟨od, J, hl⟩ := I.look
 exact PySem.W.get_value X J (PySem.W.plainGet_of hg).1 (PySem.W.findObj_own hh ha rfl (by rw [hl, hv])) hv' h
theorem Q0 {pl : Sem Bool} {Q : Value × List Value -> Shared -> Prop} (X : K.In s.heap) (I : Ke s.heap x dx C mA) (hg : PySem.W.plainGet K C name = true)
   (hf : PySem.W.findIn K (.ref C) name = some (some (.ref f))) (ht : PySem.W.isFn K (.ref f) = true) (hv : mA name = none) (h : Q (.ref f, [.ref x]) s) :
   wpAny (model prog w) A (getMethod (.ref x) name pl) Q E s := by
 obtain ⟨od, J, hl⟩ := I.look
 exact PySem.W.method_fn X J (PySem.W.plainGet_of hg).1 (PySem.W.plainGet_of hg).2 hf (amc.mp ht) (by show (PySem.W.lookIn name od).map (·.isSome) = some false; rw [hl, hv]; rfl) h
theorem VQ {ns : List Str} {Q : Unit -> Shared -> Prop} (X : K.In s.heap) (I : Ke s.heap x dx C mA)
   (hs : PySem.W.findIn K (.ref C) "__setattr__" = some (some (.builtin "object.__setattr__"))) (hp : PySem.W.plainOver K C = true) (ht : PySem.W.takerIn K C name = some none) (hh : PySem.W.hasDictIn K C = true)
   (hw : PySem.Within mA ns) (hsz : ns.length <= sizeLine)
   (h : ∀ h', Ke h' x dx C (fun y => if y = name then some v else mA y) -> Heap.SameBut dx s.heap h' -> Q () { s with heap := h', toks := s.toks + 2 }) :
   wpAny (model prog w) A (setAttr (.ref x) name v) Q E s := by
 obtain ⟨od, J, hl⟩ := I.look
 refine PySem.W.set_plain X J hs (PySem.W.osa_open (s := { s with toks := s.toks + 1 }) (r := none) X J hp ht fun b => ?_)
 obtain ⟨cd, hc, VG⟩ := PySem.W.any_some hh
 have hx : s.heap.get? x = some ⟨.ref C, some dx, .plain, #[]⟩ := I.obj
 refine akQ (alh (akQ (akQ (wpAny_loadPart hx (akQ (PySem.W.Looks.here (s := { s with toks := s.toks + 1 }) (PySem.W.looks_clsIn X hc) ?_))))))
 rw [VG]
 refine alh (a := some dx) (akQ (alh (akQ ?_)))
 refine wpAny_nsSet1 (s := { s with toks := s.toks + 1 }) I.ns fun h' hn2 Vv => ?_
 obtain ⟨oD, esD, epD, hoD, hdD, hcD⟩ := hn2.count (PySem.Within.cons name v hw)
 refine akQ (wpAny_lookBehind hoD (by rw [hdD]; exact pastItsLine_dict (alq hcD (by rw [akZ]; omega))) ?_)
 exact alh (h _ ⟨(Vv.2 _ (Ne.symm I.ne)).trans I.obj, hn2, I.ne⟩ Vv)
theorem Q5 {R : Result -> Shared -> Prop} {vs : List Value} {kw : List (Str × Value)} (X : K.In s.heap) (hm : PySem.W.makesIn K C = true)
   (hi : PySem.W.findIn K (.ref C) "__init__" = some (some (.ref f))) (hf : PySem.W.typeIn K (.ref f) = some (.type "function"))
   (h : codeAny (model prog w) (A.under (.builtin "type.__call__" ⟨.ref C :: vs, kw⟩)) (.call (.ref f) ⟨.ref (s.heap.objs.size + 1) :: vs, kw⟩) (PySem.W.InitBack (s.heap.objs.size + 1) R)
     { s with heap := (s.heap.push PySem.W.emptyDict).push (PySem.W.instObj C s.heap.objs.size) }) :
   codeAny (model prog w) A (.call (.ref C) ⟨vs, kw⟩) R s := by
 obtain ⟨hh, g, d, t, os⟩ := s
 exact PySem.W.make_core (PySem.W.makes_of X hm) (PySem.W.looks_findIn X hi) (fun self => PySem.W.bind_fn X self hf) (.inl rfl) h
end
noncomputable def lC (f : Str) (v : V) : List (Str × V) -> List (Str × V)
 | [] => [(f, v)]
 | (g, x) :: r => if g = f then (g, v) :: r else (g, x) :: lC f v r
theorem yp (f g : Str) (v : V) : ∀ fs : List (Str × V), (lC f v fs).lookup g = if g = f then some v else fs.lookup g
 | [] => by
   show List.lookup g [(f, v)] = _
   by_cases h : g = f
   . have hb : (g == f) = true := amc.mpr h
     simp only [List.lookup, hb, akJ h]
   . have hb : (g == f) = false := alU.mpr h
     simp only [List.lookup, hb, akH h]
 | (k, x) :: r => by
   have ih := yp f g v r
   rw [show lC f v ((k, x) :: r) = (if k = f then (k, v) :: r else (k, x) :: lC f v r) from rfl]
   by_cases hk : k = f
   . rw [akJ hk]
     by_cases h : g = k
     . have hb : (g == k) = true := amc.mpr h
       simp only [List.lookup, hb, akJ (h.trans hk)]
     . have hb : (g == k) = false := alU.mpr h
       simp only [List.lookup, hb, akH (fun e : g = f => h (e.trans hk.symm))]
   . rw [akH hk]
     by_cases h : g = k
     . have hb : (g == k) = true := amc.mpr h
       simp only [List.lookup, hb, akH (fun e : g = f => hk (h.symm.trans e))]
     . have hb : (g == k) = false := alU.mpr h
       simp only [List.lookup, hb]
       exact ih
theorem xg (f : Str) (v : V) : ∀ fs : List (Str × V), f ∈ (lC f v fs).map (·.1) /\ ∀ g, g ∈ fs.map (·.1) -> g ∈ (lC f v fs).map (·.1)
 | [] => ⟨by simp [lC], fun g h => by simp at h⟩
 | (k, x) :: r => by
   obtain ⟨i1, i2⟩ := xg f v r
   rw [show lC f v ((k, x) :: r) = (if k = f then (k, v) :: r else (k, x) :: lC f v r) from rfl]
   by_cases hk : k = f
   . rw [akJ hk]
     subst hk
     exact ⟨by simp, fun g h => by simpa using h⟩
   . rw [akH hk]
     refine ⟨?_, fun g h => ?_⟩
     . rw [akP]
       exact akE _ i1
     . rw [akP] at h ⊢
       rcases akB.mp h with e | e
       . exact akB.mpr (.inl e)
       . exact akE _ (i2 g e)
theorem yq (f : Str) (v : V) : ∀ fs : List (Str × V), (lC f v fs).length <= fs.length + 1
 | [] => by simp [lC]
 | (k, x) :: r => by
   have ih := yq f v r
   rw [show lC f v ((k, x) :: r) = (if k = f then (k, v) :: r else (k, x) :: lC f v r) from rfl]
   by_cases hk : k = f
   . rw [akJ hk, akZ, akZ]; omega
   . rw [akH hk, akZ, akZ]; omega
theorem wZ.some_of {v : V} {o : Option Value} (r : wZ (some v) o) : ∃ u, o = some u /\ RelV v u := by
 cases o with
 | none => exact (show False from r).elim
 | some u => exact ⟨u, rfl, r⟩
theorem wZ.none_of {o : Option Value} (r : wZ none o) : o = none := by
 cases o with
 | none => rfl
 | some u => exact (show False from r).elim
theorem OI {v : V} {u : Value} (r : RelV v u) : PySem.W.handedIn u = true := by
 cases v with
 | non => cases (show u = Value.none from r); rfl
 | bl b => cases (show u = Value.bool b from r); rfl
 | int i => obtain ⟨t, e⟩ := (show ∃ t, u = Value.int i t from r); cases e; rfl
 | str x => obtain ⟨t, e⟩ := (show ∃ t, u = Value.str x t from r); cases e; rfl
 | M5 b => obtain ⟨t, e⟩ := (show ∃ t, u = Value.bytes b t from r); cases e; rfl
 | flt b => obtain ⟨t, e⟩ := (show ∃ t, u = Value.float b t from r); cases e; rfl
 | ref a => cases (show u = Value.ref a from r); rfl
 | ty n => cases (show u = Value.type n from r); rfl
section
variable {P : Program} {w : World} {H H' : Hp} {h h' : Heap} {a C dx : Addr} {fs fs' : List (Str × V)}
theorem Eo (dJ : ur P w H h) (e : H a = some (.ins C dx fs)) : ∃ mA, Ke h a dx C mA /\ (∀ f, wZ (fs.lookup f) (mA f)) /\ PySem.Within mA (fs.map (·.1)) /\ fs.length <= 1000 /\ H dx = some (.own a) := by
 obtain ⟨d, z, ne, ob, mA, n, r, q⟩ := (show eV P w H h a (.ins C dx fs) from dJ a _ e)
 exact ⟨mA, ⟨ob, n, ne⟩, r, q, z, d⟩
end
structure iP (K : PySem.W.Frag) (C : Addr) : Prop where
 pg : PySem.W.plainGet K C Str.empty = true
 hd : PySem.W.hasDictIn K C = true
 po : PySem.W.plainOver K C = true
 sa : PySem.W.findIn K (.ref C) "__setattr__" = some (some (.builtin "object.__setattr__"))
theorem iP.get {K : PySem.W.Frag} {C : Addr} (c : iP K C) (f : Str) : PySem.W.plainGet K C f = true := c.pg
noncomputable def aF (K : PySem.W.Frag) (C : Addr) (f : Str) : Prop := PySem.W.findIn K (.ref C) f = some none
theorem aF.adL {K : PySem.W.Frag} {C : Addr} {f : Str} (n : aF K C f) : PySem.W.takerIn K C f = some none := by
 unfold PySem.W.takerIn
 rw [show PySem.W.findIn K (.ref C) f = some none from n]
 rfl
structure Meth (K : PySem.W.Frag) (C : Addr) (m : Str) (f : Addr) : Prop where
 at_ : PySem.W.findIn K (.ref C) m = some (some (.ref f))
 fn : PySem.W.isFn K (.ref f) = true
 kp : PySem.W.keepIn K (.ref f) = true
section
variable {X : Cx} {pins : List (Addr × Obj)} {σ : St} {H : Hp} {s : Shared} {a C dx : Addr} {fs : List (Str × V)} {f : Str} {v : V} {A : Around} {E : Value -> Shared -> Prop}
theorem Kf {b : Bool} {Q : Value -> Shared -> Prop} (I : Inv X pins σ H s) (e : H a = some (.ins C dx fs)) (c : iP X.K C) (n : aF X.K C f) (l : fs.lookup f = some v)
   (h : ∀ u s', Inv X pins σ H s' -> RelV v u -> Q u s') : wpAny (model X.prog X.w) A (getAttr (.ref a) f b) Q E s := by
 obtain ⟨mA, O, r, _, _, _⟩ := Eo I.dJ e
 obtain ⟨u, hu, ru⟩ := wZ.some_of (v := v) (o := mA f) (by rw [← l]; exact r f)
 exact get_map I.Hr O (c.get f) c.hd n hu (OI ru) (h u _ (I.tok _) ru)
theorem uv {m : Str} {g : Addr} {pl : Sem Bool} {Q : Value × List Value -> Shared -> Prop} (I : Inv X pins σ H s) (e : H a = some (.ins C dx fs)) (c : iP X.K C) (k : Meth X.K C m g) (l : fs.lookup m = none)
   (h : Q (.ref g, [.ref a]) s) : wpAny (model X.prog X.w) A (getMethod (.ref a) m pl) Q E s := by
 obtain ⟨mA, O, r, _, _, _⟩ := Eo I.dJ e
 have hn : mA m = none := wZ.none_of (by rw [← l]; exact r m)
 exact Q0 I.Hr O (c.get m) k.at_ k.fn hn h
theorem Kg {y : V} {u : Value} {Q : Unit -> Shared -> Prop} (I : Inv X pins σ H s) (e : H a = some (.ins C dx fs)) (c : iP X.K C) (n : aF X.K C f) (hl : fs.length < 1000) (ry : RelV y u)
   (h : ∀ s', Inv X pins σ (upd H a (.ins C dx (lC f y fs))) s' -> Q () s') : wpAny (model X.prog X.w) A (setAttr (.ref a) f u) Q E s := by
 obtain ⟨mA, O, r, wi, _, ho⟩ := Eo I.dJ e
 have hz : (fs.map (·.1)).length <= sizeLine := by rw [akD, alb]; omega
 refine VQ I.Hr O c.sa c.po n.adL c.hd wi hz fun h' O' sb => h _ ?_
 have hd : ∃ o, h'.get? dx = some o := let ⟨o, _, _, e', _⟩ := O'.ns; ⟨o, e'⟩
 refine I.write (x := a) (e := dx) (by rw [e]; exact True.intro) (.inr ho) (fun b q hb z => (sb.2 b hb).trans z) hd ?_
 refine ⟨by rw [az O.ne]; exact ho, ?_, O.ne, O'.obj, _, O'.ns, fun g => ?_, fun g hg => ?_⟩
 . have := yq f y fs; omega
 . show wZ ((lC f y fs).lookup g) (if g = f then some u else mA g)
   rw [yp]
   by_cases q : g = f
   . rw [akJ q, akJ q]; exact ry
   . rw [akH q, akH q]; exact r g
 . by_cases q : g = f
   . rw [q]; exact (xg f y fs).1
   . refine (xg f y fs).2 g (wi g fun z => hg ?_)
     show (if g = f then some u else mA g) = none
     rw [akH q]; exact z
theorem Inv.made (I : Inv X pins σ H s) : Inv X pins σ (upd (upd H s.heap.objs.size (.own (s.heap.objs.size + 1))) (s.heap.objs.size + 1) (.ins C s.heap.objs.size []))
   { s with heap := (s.heap.push PySem.W.emptyDict).push (PySem.W.instObj C s.heap.objs.size) } := by
 have e1 : (s.heap.push PySem.W.emptyDict).get? s.heap.objs.size = some PySem.W.emptyDict := ak3 s.heap rfl
 have e2 : ((s.heap.push PySem.W.emptyDict).push (PySem.W.instObj C s.heap.objs.size)).get? (s.heap.objs.size + 1) = some (PySem.W.instObj C s.heap.objs.size) := by
   have := ak3 (s.heap.push PySem.W.emptyDict) (o := PySem.W.instObj C s.heap.objs.size) rfl
   rwa [Heap.size_push] at this
 have e3 : (s.heap.push PySem.W.emptyDict).Ns s.heap.objs.size (fun _ => none) := ⟨PySem.W.emptyDict, #[], _, e1, rfl, (fun e he => absurd he (by simp)), fun _ => rfl⟩
 have I1 := I.laid (a := s.heap.objs.size) (o := .own (s.heap.objs.size + 1)) (h' := s.heap.push PySem.W.emptyDict) (t' := s.toks) (fun b u q => akN _ q) (akG _) ⟨_, e1⟩
 refine I1.laid (a := s.heap.objs.size + 1) (o := .ins C s.heap.objs.size []) (t' := s.toks) (fun b u q => akN _ q) (Nat.le_of_eq (Heap.size_push _ _)) ?_
 have ne : s.heap.objs.size ≠ s.heap.objs.size + 1 := ala (Nat.lt_succ_self _)
 refine ⟨by rw [az ne, aP], akV _, ne, e2, fun _ => none, (Heap.Ns1.of_empty e3).at fun o q => akN _ q, fun _ => True.intro, fun y hy => absurd rfl hy⟩
theorem VR {prog : Program} {w : World} {env : Env} {e : Expr} {f : Str} {pos : Pos} {s : Shared} {Q : Value -> Shared -> Prop} (hb : attributeBase e f env (eval e env) = eval e env)
   (h : wpAny (model prog w) A (eval e env) (fun o s₁ => wpAny (model prog w) A (getAttr o f true) Q E s₁) E s) : wpAny (model prog w) A (eval (.Attribute e f pos) env) Q E s :=
 Attribute_any_ h (by rw [arm_eval_Attribute, hb])
end
noncomputable def agd (K : PySem.W.Frag) (ta : TE) (f : Str) : TE := fun σ H Q => ta σ H fun x H1 => ∃ a C dx fs v, x = .ref a /\ H1 a = some (.ins C dx fs) /\ iP K C /\ aF K C f /\ fs.lookup f = some v /\ Q v H1
noncomputable def age (K : PySem.W.Frag) (ta tv : TE) (f : Str) : TS := fun D σ H => tv σ H fun y H1 => ta σ H1 fun x H2 => ∃ a C dx fs, x = .ref a /\ H2 a = some (.ins C dx fs) /\ iP K C /\ aF K C f /\ fs.length < 1000 ∧
 D.nx σ (upd H2 a (.ins C dx (lC f y fs)))
section
variable {X : Cx} {o e value : Expr} {f : Str} {pos pos' agf : Pos} {ta tv : TE}
theorem Kh (he : PE X e ta) (hb : attributeBase e f X.env (eval e X.env) = eval e X.env) : PE X (.Attribute e f pos) (agd X.K ta f) := by
 intro pins s σ H Q I h
 refine VR hb (eB (he pins s σ H _ I h) fun u s1 zz => ?_)
 obtain ⟨x, H1, I1, rx, a, C, dx, fs, v, ex, ea, c, n, l, q⟩ := zz
 subst ex
 obtain rfl : u = Value.ref a := rx
 exact Kf I1 ea c n l fun u' s2 I2 ru => ⟨v, H1, I2, ru, q⟩
theorem Q6 (ha : PE X o ta) (hv : PE X value tv) (hs : swapsWith value (some (.Attribute o f pos')) pos.line X.env = pure false) : PS X (.Assign [.Attribute o f pos'] value pos) (age X.K ta tv f) := by
 intro pins s σ H D I h
 refine plainObj_wpAny_Assign_Attribute (eB (hv pins s σ H _ I h) fun u s1 ⟨y, H1, I1, ry, q⟩ => eB (ha pins s1 σ H1 _ I1 q) fun ov s2 zz => ?_) hs
 obtain ⟨x, H2, I2, rx, a, C, dx, fs, ex, ea, c, n, l, q2⟩ := zz
 subst ex
 obtain rfl : ov = Value.ref a := rx
 exact Kg I2 ea c n l ry fun s3 I3 => ⟨σ, _, I3, q2⟩
theorem ZK {pl : Sem Bool} {m : Str} {apos : Pos} {args : List Expr} {pins : List (Addr × Obj)} {s : Shared} {σ : St} {H : Hp} {Q : Value -> Shared -> Prop} {te : TE} (he : PE X e te) (I : Inv X pins σ H s)
   (h : te σ H fun x H1 => ∃ a C dx fs g, x = .ref a /\ H1 a = some (.ins C dx fs) /\ iP X.K C /\ Meth X.K C m g /\ fs.lookup m = none ∧
     ∀ s1, Inv X pins σ H1 s1 -> wpAny (model X.prog X.w) X.A (callWith pos (.ref g) [.ref a] (backTo pos (starEach args X.env)) (backToKw pos (keywordEach [] X.env))) Q X.xe s1)
   (ht : eval (.Call (.Attribute e m apos) args [] pos) X.env = (do
     let ov ← eval e X.env
     standAt apos.atName
     let (f, first) ← holding [ov] (getMethod ov m pl)
     callWith pos f first (backTo pos (starEach args X.env)) (backToKw pos (keywordEach [] X.env)))) :
   wpAny (model X.prog X.w) X.A (eval (.Call (.Attribute e m apos) args [] pos) X.env) Q X.xe s := by
 refine al7 (pl := pl) (eB (he pins s σ H _ I h) fun u s1 zz => ?_) ht
 obtain ⟨x, H1, I1, rx, a, C, dx, fs, g, ex, ea, c, k, l, q⟩ := zz
 subst ex
 obtain rfl : u = Value.ref a := rx
 exact uv I1 ea c k l (q s1 I1)
end
section
variable {X : Cx} {pins : List (Addr × Obj)} {σ : St} {H : Hp} {s : Shared} {A : Around} {E : Value -> Shared -> Prop} {Q : Value -> Shared -> Prop} {c : Value} {b : Bool}
end
structure dg (k : Nat) (A : Around) : Prop where
 hd : A.handled = none
 dp : A.depth + 3 * k + 5 < recursionLimit
 un : A.units + 16 * k + 200 < cLine
theorem dg.mono {j k : Nat} {A : Around} (r : dg k A) (h : j <= k) : dg j A := ⟨r.hd, by have := r.dp; omega, by have := r.un; omega⟩
theorem dg.deeper {k : Nat} {A : Around} (r : dg (k + 1) A) (env : Env) : dg k (A.deeper env) :=
 ⟨r.hd, by have := r.dp; show A.depth + 1 + 3 * k + 5 < _; omega, by have := r.un; show A.units + 3 + 16 * k + 200 < _; omega⟩
theorem Kl {A : Around} {C : Addr} {us : List Value} {kw : List (Str × Value)} : (A.under (.builtin "type.__call__" ⟨.ref C :: us, kw⟩)).depth = A.depth + 1 := by
 first | rfl | simp [Around.under, Code.weight, Code.isCreation, Code.isGuard, Code.isCaller, Code.frames, Code.isFrame, guardIds]
theorem Km {A : Around} {C : Addr} {us : List Value} {kw : List (Str × Value)} : (A.under (.builtin "type.__call__" ⟨.ref C :: us, kw⟩)).units = A.units + 1 := by
 first | rfl | simp [Around.under, Code.cUnits, Code.frames, Code.isFrame]
theorem dg.make {k : Nat} {A : Around} (r : dg (k + 1) A) (C : Addr) (us : List Value) (kw : List (Str × Value)) : dg k (A.under (.builtin "type.__call__" ⟨.ref C :: us, kw⟩)) :=
 ⟨r.hd, by have := r.dp; rw [Kl]; omega, by have := r.un; rw [Km]; omega⟩
theorem dg.depth {k : Nat} {A : Around} (r : dg k A) : A.depth < recursionLimit := by have := r.dp; omega
theorem dg.units {k : Nat} {A : Around} (r : dg k A) : A.units + 64 < cLine := by have := r.un; omega
noncomputable def Kn : TA := fun _ H Q => Q [] H
noncomputable def HG (ta : TE) (tr : TA) : TA := fun σ H Q => ta σ H fun x H1 => tr σ H1 fun xs H2 => Q (x :: xs) H2
section
variable {X : Cx} {e : Expr} {es : List Expr} {te : TE} {t : TA} {pos : Pos}
theorem dM : PA X [] Kn := fun _ _ _ _ H Q I h => Calls.spliced_nil ⟨[], H, I, .nil, h⟩
theorem b8 (ha : PE X e te) (hr : PA X es t) (hs : starEach (e :: es) X.env = (false, eval e X.env) :: starEach es X.env := by rfl) : PA X (e :: es) (HG te t) := by
 intro pos pins s σ H Q I h
 rw [hs]
 show wpAny _ _ (spliced ((false, eval e X.env) :: backTo pos (starEach es X.env))) _ _ s
 refine Calls.spliced_cons (eB (ha pins s σ H _ I h) fun u s1 zz => ?_)
 obtain ⟨x, H1, I1, r1, q1⟩ := zz
 exact eB (hr pos pins s1 σ H1 _ I1 q1) fun us s2 ⟨xs, H2, I2, r2, q2⟩ => ⟨x :: xs, H2, I2, .cons r1 r2, q2⟩
noncomputable def agg (t : TA) : TE := fun σ H Q => t σ H fun xs H1 => xs.length <= sizeLine /\ ∀ p, H1 p = none -> Q (.ref p) (upd H1 p (.tup xs))
noncomputable def agh (t : TA) : TE := fun σ H Q => t σ H fun xs H1 => xs.length <= sizeLine /\ ∀ p, H1 p = none -> Q (.ref p) (upd H1 p (.lst xs))
theorem aaX {x1} (h : PA X es t) : PE X (.Tuple es x1 pos) (agg t) := by
 intro pins s σ H Q I hq
 refine wpAny_Tuple_spliced (eB (h pos pins s σ H _ I hq) fun us s1 ⟨xs, H1, I1, r, z, q⟩ => ⟨by rw [← r.length]; exact z, ?_⟩)
 have hf : H1 s1.heap.objs.size = none := I1.dJ.fresh (akG _)
 refine ⟨.ref s1.heap.objs.size, upd H1 s1.heap.objs.size (.tup xs), I1.laid (t' := s1.toks) (fun b u e => akN _ e) (akG _) ?_, rfl, q _ hf⟩
 exact ⟨z, us, r, ⟨_, ak3 _ rfl, rfl, _, rfl⟩⟩
theorem aaY (h : PA X es t) : PE X (.List es pos) (agh t) := by
 intro pins s σ H Q I hq
 refine wpAny_List_spliced (eB (h pos pins s σ H _ I hq) fun us s1 ⟨xs, H1, I1, r, z, q⟩ => ⟨by rw [← r.length]; exact z, ?_⟩)
 have hf : H1 s1.heap.objs.size = none := I1.dJ.fresh (akG _)
 refine ⟨.ref s1.heap.objs.size, upd H1 s1.heap.objs.size (.lst xs), I1.laid (t' := s1.toks) (fun b u e => akN _ e) (akG _) ?_, rfl, q _ hf⟩
 exact ⟨z, us, 0, r, ak3 _ rfl⟩
end
noncomputable abbrev Sp := List V -> Hp -> VK -> XK -> Prop
noncomputable abbrev QB := List Env -> Hp -> Shared -> XK -> Value -> Shared -> Prop
structure Ko (P : Program) (w : World) (K : PySem.W.Frag) (mg : Str -> Option Value) (base : Heap) (A : Around) (outer : List Env) (s : Shared) (H : Hp) : Prop where
 frames : A.frames = some outer
 mod : Mod K mg base
 bs : ∀ b o, base.get? b = some o -> s.heap.get? b = some o /\ H b = none
 Vu : base.objs.size <= s.heap.objs.size
 yQ : s.heap.FunFrames base outer
 frf : ∀ b ∈ Qz outer, H b = none
 dJ : ur P w H s.heap
 bare : AllBare s.gens
noncomputable def CE (outer : List Env) (P : Program) (w : World) (H : Hp) (s : Shared) (Q : VK) (u : Value) (s' : Shared) : Prop :=
 ∃ v H', s'.os = s.os /\ AllBare s'.gens /\ Un (Qz outer) [] H H' s.heap s'.heap /\ ur P w H' s'.heap /\ RelV v u /\ Q v H'
noncomputable def CR (CX : QB) (outer : List Env) (P : Program) (w : World) (H : Hp) (s : Shared) (Q : VK) (E : XK) (r : Result) (s' : Shared) : Prop :=
 match r with
 | .ok (.ret u) => CE outer P w H s Q u s'
 | .ok _ => False
 | .error e => CX outer H s E e s'
structure bN (P : Program) (w : World) (K : PySem.W.Frag) (mg : Str -> Option Value) (base : Heap) (CX : QB) (k : Nat) (f : Addr) (fd : FuncData) (ps : List Str) (sp : Sp) : Prop where
 len : ∀ vs H Q E, sp vs H Q E -> vs.length = ps.length
 run : ∀ (A : Around) (outer : List Env) (s : Shared) (H : Hp) (args : Args) (us : List Value) (vs : List V) (Q : VK) (E : XK), dg k A -> Ko P w K mg base A outer s H -> BindsTo s fd args (ps.zip us) -> Vals vs us -> sp vs H Q E →
   codeAny (model P w) A (.call (.ref f) args) (CR CX outer P w H s Q E) s
theorem bN.imp {P : Program} {w : World} {K : PySem.W.Frag} {mg : Str -> Option Value} {base : Heap} {CX : QB} {k : Nat} {f : Addr} {fd : FuncData} {ps : List Str} {sp sp' : Sp} (F : bN P w K mg base CX k f fd ps sp)
   (h : ∀ vs H Q E, sp' vs H Q E -> sp vs H Q E) : bN P w K mg base CX k f fd ps sp' :=
 ⟨fun vs H Q E q => F.len vs H Q E (h _ _ _ _ q), fun A outer s H args us vs Q E hr he hb hv hs => F.run A outer s H args us vs Q E hr he hb hv (h _ _ _ _ hs)⟩
theorem Ko.make {P : Program} {w : World} {K : PySem.W.Frag} {mg : Str -> Option Value} {base : Heap} {A : Around} {outer : List Env} {s : Shared} {H : Hp} (e : Ko P w K mg base A outer s H) (C : Addr) (us : List Value) (kw : List (Str × Value)) :
   Ko P w K mg base (A.under (.builtin "type.__call__" ⟨.ref C :: us, kw⟩)) outer s H := ⟨by first | exact e.frames | (simpa [Around.under, Code.envs, Code.isFrame, pushEnvs] using e.frames), e.mod, e.bs, e.Vu, e.yQ, e.frf, e.dJ, e.bare⟩
section
variable {X : Cx} {pins : List (Addr × Obj)} {σ : St} {H : Hp} {s s' : Shared}
theorem Inv.adM (I : Inv X pins σ H s) : Ko X.prog X.w X.K X.mg X.base X.A X.stack s H :=
 ⟨I.ok.frames, I.ok.mod, I.bs, alq I.ok.Vu I.sz, I.stack, I.Ek, I.dJ, I.bare⟩
theorem Inv.after {Q : VK} {u : Value} (I : Inv X pins σ H s) (h : CE X.stack X.prog X.w H s Q u s') : EP X pins σ Q u s' := by
 obtain ⟨v, H', os, bare, un, dJ, r, q⟩ := h
 obtain ⟨hh, g, d, t, os'⟩ := s'
 obtain rfl : os' = s.os := os
 exact ⟨v, H', I.call (h' := hh) (g' := g) (d' := d) (t' := t) (ch := []) un dJ bare (fun b z => absurd z (by simp)), r, q⟩
end
noncomputable def Q7 (sp : Sp) (yr : List V) (E : XK) (t : TA) : TE := fun σ H Q => t σ H fun vs H1 => sp (vs ++ yr) H1 Q E
noncomputable def ZL (C : Addr) (m : Str) (sp : Sp) (yr : List V) (E : XK) (ta : TE) (t : TA) : TE := fun σ H Q => ta σ H fun x H1 => ∃ a dx fs, x = .ref a /\ H1 a = some (.ins C dx fs) /\ fs.lookup m = none ∧
 t σ H1 fun vs H2 => sp (x :: (vs ++ yr)) H2 Q E
noncomputable def adN (C : Addr) (sp : Sp) (yr : List V) (E : XK) (t : TA) : TE := fun σ H Q => t σ H fun vs H1 => ∀ x dx, H1 x = none -> H1 dx = none -> dx ≠ x →
 sp (.ref x :: (vs ++ yr)) (upd (upd H1 dx (.own x)) x (.ins C dx [])) (fun v H2 => v = .non /\ Q (.ref x) H2) E
noncomputable def Binds (K : PySem.W.Frag) (fd : FuncData) (ps : List Str) (ds : List Value) : Prop :=
 ∀ (s : Shared) (us : List Value), K.In s.heap -> (us ++ ds).length = ps.length -> BindsTo s fd ⟨us, []⟩ (ps.zip (us ++ ds))
theorem Binds.all {K : PySem.W.Frag} {fd : FuncData} {ps : List Str} (h : ∀ us : List Value, us.length = ps.length -> bindArgs fd ⟨us, []⟩ = pure (ps.zip us)) : Binds K fd ps [] := fun s us _ hl => by
 rw [akK] at hl ⊢
 exact .of_eq (h us hl)
noncomputable def Passes (CX : QB) (X : Cx) (E : XK) : Prop := ∀ (pins : List (Addr × Obj)) (σ : St) (H : Hp) (s : Shared) (e : Value) (s' : Shared), Inv X pins σ H s -> CX X.stack H s E e s' -> X.xe e s'
section
variable {X : Cx} {CX : QB} {k : Nat} {f C : Addr} {fd : FuncData} {ps : List Str} {sp : Sp} {yr : List V} {ds : List Value} {E : XK} {x m : Str} {p pos apos : Pos} {e o : Expr} {es : List Expr} {ta : TE} {t : TA}
theorem zN {pins : List (Addr × Obj)} {σ : St} {H : Hp} {s : Shared} {Q : VK} {us : List Value} {vs : List V} (F : bN X.prog X.w X.K X.mg X.base CX k f fd ps sp) (hr : dg k X.A) (hb : Binds X.K fd ps ds) (hd : Vals yr ds) (hx : Passes CX X E)
   (I : Inv X pins σ H s) (r : Vals vs us) (h : sp (vs ++ yr) H Q E) : wpAny (model X.prog X.w) X.A (call (.ref f) us) (EP X pins σ Q) X.xe s := by
 have r2 : Vals (vs ++ yr) (us ++ ds) := r.append hd
 have hl : (us ++ ds).length = ps.length := by rw [← r2.length]; exact F.len _ _ _ _ h
 refine wpAny_call (codeAny_mono (F.run X.A X.stack s H ⟨us, []⟩ (us ++ ds) (vs ++ yr) Q E hr I.adM (hb s us I.Hr hl) r2 h) fun r s' hq => ?_)
 cases r with
 | error e => exact hx pins σ H s e s' I hq
 | ok fl =>
   cases fl with
   | ret u => exact I.after hq
   | next => exact False.elim hq
   | brk => exact False.elim hq
   | cont => exact False.elim hq
theorem Nb (F : bN X.prog X.w X.K X.mg X.base CX k f fd ps sp) (hr : dg k X.A) (hg : Gl X x) (hm : X.mg x = some (.ref f)) (hk : PySem.W.keepIn X.K (.ref f) = true) (hb : Binds X.K fd ps ds) (hd : Vals yr ds) (hx : Passes CX X E)
   (ha : PA X (e :: es) t) (tU : (x == ("__debug__" : Str)) = false := by decide) (he : starEach (e :: es) X.env = (false, eval e X.env) :: starEach es X.env := by rfl) (hpl : (backTo pos (starEach es X.env)).any (·.1) = false := by rfl) :
   PE X (.Call (.Name x p) (e :: es) [] pos) (Q7 sp yr E t) := by
 intro pins s σ H Q I h
 refine alP (yW I hg hm ?_ tU)
 refine ami (h₀ := X.base) I.ok.mod.kin hk (eB (ha pos pins s σ H _ I h) fun us s1 ⟨vs, H1, I1, r, q⟩ => ⟨I1.Hr, ?_⟩) he hpl
 exact zN F hr hb hd hx I1 r q
theorem Q8 (F : bN X.prog X.w X.K X.mg X.base CX k f fd ps sp) (hr : dg k X.A) (hg : Gl X x) (hm : X.mg x = some (.ref f)) (hk : PySem.W.keepIn X.K (.ref f) = true) (hb : Binds X.K fd ps ds) (hd : Vals yr ds) (hx : Passes CX X E)
   (tU : (x == ("__debug__" : Str)) = false := by decide) : PE X (.Call (.Name x p) [] [] pos) (Q7 sp yr E Kn) := by
 intro pins s σ H Q I h
 refine alP (yW I hg hm ?_ tU)
 exact PySem.W.callWith_K0 I.Hr hk (zN (us := []) F hr hb hd hx I .nil h)
theorem Nf {pl : Sem Bool} (he : PE X o ta) (c : iP X.K C) (hm : Meth X.K C m f) (F : bN X.prog X.w X.K X.mg X.base CX k f fd ps sp) (hr : dg k X.A) (hb : Binds X.K fd ps ds) (hd : Vals yr ds) (hx : Passes CX X E) (ha : PA X (e :: es) t)
   (HF : starEach (e :: es) X.env = (false, eval e X.env) :: starEach es X.env := by rfl) (hpl : (backTo pos (starEach es X.env)).any (·.1) = false := by rfl)
   (ht : eval (.Call (.Attribute o m apos) (e :: es) [] pos) X.env = (do
     let ov ← eval o X.env
     standAt apos.atName
     let (f, first) ← holding [ov] (getMethod ov m pl)
     callWith pos f first (backTo pos (starEach (e :: es) X.env)) (backToKw pos (keywordEach [] X.env))) := by rfl) :
   PE X (.Call (.Attribute o m apos) (e :: es) [] pos) (ZL C m sp yr E ta t) := by
 intro pins s σ H Q I h
 refine al7 (pl := pl) (eB (he pins s σ H _ I h) fun u s1 zz => ?_) ht
 obtain ⟨x, H1, I1, rx, a, dx, fs, ex, ea, l, q⟩ := zz
 subst ex
 obtain rfl : u = Value.ref a := rx
 refine uv I1 ea c hm l ?_
 refine ami (first := [.ref a]) (h₀ := X.base) I.ok.mod.kin hm.kp (eB (ha pos pins s1 σ H1 _ I1 q) fun us s2 ⟨vs, H2, I2, r, q2⟩ => ⟨I2.Hr, ?_⟩) HF hpl
 exact zN (us := .ref a :: us) (vs := .ref a :: vs) F hr hb hd hx I2 (.cons rfl r) q2
theorem Q9 {pl : Sem Bool} (he : PE X o ta) (c : iP X.K C) (hm : Meth X.K C m f) (F : bN X.prog X.w X.K X.mg X.base CX k f fd ps sp) (hr : dg k X.A) (hb : Binds X.K fd ps ds) (hd : Vals yr ds) (hx : Passes CX X E)
   (ht : eval (.Call (.Attribute o m apos) [] [] pos) X.env = (do
     let ov ← eval o X.env
     standAt apos.atName
     let (f, first) ← holding [ov] (getMethod ov m pl)
     callWith pos f first (backTo pos (starEach [] X.env)) (backToKw pos (keywordEach [] X.env))) := by rfl) :
   PE X (.Call (.Attribute o m apos) [] [] pos) (ZL C m sp yr E ta Kn) := by
 intro pins s σ H Q I h
 refine al7 (pl := pl) (eB (he pins s σ H _ I h) fun u s1 zz => ?_) ht
 obtain ⟨x, H1, I1, rx, a, dx, fs, ex, ea, l, q⟩ := zz
 subst ex
 obtain rfl : u = Value.ref a := rx
 refine uv I1 ea c hm l ?_
 exact PySem.W.callWith_K0 (first := [.ref a]) I1.Hr hm.kp (zN (us := [.ref a]) (vs := [.ref a]) F hr hb hd hx I1 (.cons rfl .nil) q)
structure Mk (K : PySem.W.Frag) (C f : Addr) : Prop where
 makes : PySem.W.makesIn K C = true
 init : PySem.W.findIn K (.ref C) "__init__" = some (some (.ref f))
 fn : PySem.W.isFn K (.ref f) = true
 kp : PySem.W.keepIn K (.ref C) = true
theorem Ra {pins : List (Addr × Obj)} {σ : St} {H : Hp} {s : Shared} {Q : VK} {us : List Value} {vs : List V} (M : Mk X.K C f) (F : bN X.prog X.w X.K X.mg X.base CX k f fd ps sp) (hr : dg (k + 1) X.A) (hb : Binds X.K fd ps ds) (hd : Vals yr ds)
   (hx : Passes CX X E) (I : Inv X pins σ H s) (r : Vals vs us)
   (h : ∀ x dx, H x = none -> H dx = none -> dx ≠ x -> sp (.ref x :: (vs ++ yr)) (upd (upd H dx (.own x)) x (.ins C dx [])) (fun v H2 => v = .non /\ Q (.ref x) H2) E) :
   wpAny (model X.prog X.w) X.A (call (.ref C) us) (EP X pins σ Q) X.xe s := by
 have hq := h (s.heap.objs.size + 1) s.heap.objs.size (I.dJ.fresh (alL _)) (I.dJ.fresh (akG _)) (ala (Nat.lt_succ_self _))
 have I2 := Inv.made (C := C) I
 have r2 : Vals (V.ref (s.heap.objs.size + 1) :: (vs ++ yr)) (Value.ref (s.heap.objs.size + 1) :: (us ++ ds)) := .cons rfl (r.append hd)
 have hl : (Value.ref (s.heap.objs.size + 1) :: us ++ ds).length = ps.length := by
   have e := r2.length
   rw [F.len _ _ _ _ hq] at e
   exact e.symm
 refine wpAny_call (Q5 (f := f) I.Hr M.makes M.init (amc.mp M.fn) (codeAny_mono (F.run _ X.stack _ _ ⟨Value.ref (s.heap.objs.size + 1) :: us, []⟩ (Value.ref (s.heap.objs.size + 1) :: (us ++ ds)) _ _ E (hr.make C us [])
   (I2.adM.make C us []) (hb _ (Value.ref (s.heap.objs.size + 1) :: us) I2.Hr hl) r2 hq) fun r s' hq' => ?_))
 cases r with
 | error e => exact hx pins σ _ _ e s' I2 hq'
 | ok fl =>
   cases fl with
   | ret u =>
     obtain ⟨v, H', I3, rv, ev, q3⟩ := I2.after hq'
     subst ev
     exact ⟨rv, ⟨V.ref (s.heap.objs.size + 1), H', I3, rfl, q3⟩⟩
   | next => exact False.elim hq'
   | brk => exact False.elim hq'
   | cont => exact False.elim hq'
theorem Ep (M : Mk X.K C f) (F : bN X.prog X.w X.K X.mg X.base CX k f fd ps sp) (hr : dg (k + 1) X.A) (hg : Gl X x) (hm : X.mg x = some (.ref C)) (hb : Binds X.K fd ps ds) (hd : Vals yr ds) (hx : Passes CX X E)
   (ha : PA X (e :: es) t) (tU : (x == ("__debug__" : Str)) = false := by decide) (he : starEach (e :: es) X.env = (false, eval e X.env) :: starEach es X.env := by rfl) (hpl : (backTo pos (starEach es X.env)).any (·.1) = false := by rfl) :
   PE X (.Call (.Name x p) (e :: es) [] pos) (adN C sp yr E t) := by
 intro pins s σ H Q I h
 refine alP (yW I hg hm ?_ tU)
 refine ami (h₀ := X.base) I.ok.mod.kin M.kp (eB (ha pos pins s σ H _ I h) fun us s1 ⟨vs, H1, I1, r, q⟩ => ⟨I1.Hr, ?_⟩) he hpl
 exact Ra M F hr hb hd hx I1 r q
end
noncomputable def PK (X : Cx) (kws : List Keyword) (t : TA) : Prop :=
 ∀ (pos : Pos) (pins : List (Addr × Obj)) (s : Shared) (σ : St) (H : Hp) (Q : List V -> Hp -> Prop), Inv X pins σ H s -> t σ H Q -> wpAny (model X.prog X.w) X.A (evalAll ((backToKw pos (keywordEach kws X.env)).map (·.2))) (AP X pins σ Q) X.xe s
section
variable {X : Cx} {CX : QB} {k : Nat} {f C : Addr} {fd : FuncData} {ps ks : List Str} {sp : Sp} {E : XK} {x m : Str} {p pos apos agi : Pos} {e o : Expr} {es : List Expr} {kws : List Keyword} {te ta : TE} {t tk : TA} {nm : Option Str}
theorem Rb : PK X [] Kn := fun _ _ _ _ H Q I h => wpAny_evalAll_nil ⟨[], H, I, .nil, h⟩
theorem Ng (ha : PE X e te) (hr : PK X kws t) : PK X (⟨nm, e, agi⟩ :: kws) (HG te t) := by
 intro pos pins s σ H Q I h
 show wpAny _ _ (evalAll ((do let v ← eval e X.env; standAt pos; pure v) :: (backToKw pos (keywordEach kws X.env)).map (·.2))) _ _ s
 refine wpAny_evalAll_cons (akQ (eB (ha pins s σ H _ I h) fun u s1 ⟨x, H1, I1, r1, q1⟩ => akQ (wpAny_standAt (alh ?_))))
 exact eB (hr pos pins s1 σ H1 _ I1 q1) fun us s2 ⟨xs, H2, I2, r2, q2⟩ => ⟨x :: xs, H2, I2, .cons r1 r2, q2⟩
variable {g : List Value -> List Value -> List Value} {gV : List V -> List V -> List V}
end
structure aM (N P : List Str) (sc : Scope) : Prop where
 kind : sc.kind = .function
 co : sc.isCoroutine = false
 gen : sc.isGenerator = false
 nd : N.Nodup
 pre : N.take P.length = P
 par : ∀ x ∈ P, sc.names.lookup x = some .local \/ sc.names.lookup x = some .cell
 aaZ : ∀ y ∈ sc.names, y.2 ≠ .free
theorem DC {kindOf : Str -> Option NameKind} {x : Str} : ∀ {binds : List (Str × Value)} {m : Str -> Option Value}, (∀ v, (x, v) ∉ binds) -> bindL kindOf binds m x = m x
 | [], _, _ => rfl
 | (n, v) :: r, m, h => by
   unfold bindL
   rw [DC fun w hw => h w (akE _ hw)]
   split
   . have : x ≠ n := by rintro rfl; exact h v akA
     simp [this]
   . rfl
theorem DE {kindOf : Str -> Option NameKind} {x : Str} : ∀ {binds : List (Str × Value)} {m : Str -> Option Value}, (∀ v, (x, v) ∉ binds) -> bindC kindOf binds m x = m x
 | [], _, _ => rfl
 | (n, v) :: r, m, h => by
   unfold bindC
   rw [DE fun w hw => h w (akE _ hw)]
   split
   . rfl
   . have : x ≠ n := by rintro rfl; exact h v akA
     simp [this]
theorem DF {kindOf : Str -> Option NameKind} {x : Str} {v : Value} : ∀ {P : List Str} {vs : List Value} {i : Nat} {m : Str -> Option Value}, P.Nodup -> P[i]? = some x -> vs[i]? = some v -> kindOf x = some .local →
   bindL kindOf (P.zip vs) m x = some v
 | [], _, _, _, _, h, _, _ => by simp at h
 | _ :: _, [], _, _, _, _, h, _ => by simp at h
 | p :: P, w :: vs, 0, m, nd, h1, h2, hk => by
   simp at h1 h2; subst h1; subst h2
   show bindL kindOf ((p, w) :: P.zip vs) m p = _
   unfold bindL
   rw [DC fun v hv => (alk.mp nd).1 (List.of_mem_zip hv).1, akJ hk]
   simp
 | p :: P, w :: vs, i + 1, m, nd, h1, h2, hk => by
   show bindL kindOf ((p, w) :: P.zip vs) m x = _
   unfold bindL
   exact DF (i := i) (List.nodup_cons.mp nd).2 (by simpa using h1) (by simpa using h2) hk
theorem DG {kindOf : Str -> Option NameKind} {x : Str} {v : Value} : ∀ {P : List Str} {vs : List Value} {i : Nat} {m : Str -> Option Value}, P.Nodup -> P[i]? = some x -> vs[i]? = some v -> kindOf x ≠ some .local →
   bindC kindOf (P.zip vs) m x = some v
 | [], _, _, _, _, h, _, _ => by simp at h
 | _ :: _, [], _, _, _, _, h, _ => by simp at h
 | p :: P, w :: vs, 0, m, nd, h1, h2, hk => by
   simp at h1 h2; subst h1; subst h2
   show bindC kindOf ((p, w) :: P.zip vs) m p = _
   unfold bindC
   rw [DE fun v hv => (alk.mp nd).1 (List.of_mem_zip hv).1, akH hk]
   simp
 | p :: P, w :: vs, i + 1, m, nd, h1, h2, hk => by
   show bindC kindOf ((p, w) :: P.zip vs) m x = _
   unfold bindC
   exact DG (i := i) (List.nodup_cons.mp nd).2 (by simpa using h1) (by simpa using h2) hk
noncomputable def start (N : List Str) (vs : List V) : St := vs.map some ++ List.replicate (N.length - vs.length) none
noncomputable def yR (CX : QB) (P : Program) (w : World) (K : PySem.W.Frag) (mg : Str -> Option Value) (base : Heap) (N : List Str) (qual : Str) (scope : Scope) (f : Addr) (cd : Value) (A : Around) (outer : List Env) (s : Shared) (H : Hp) (E : XK) : Cx where
 prog := P
 w := w
 K := K
 mg := mg
 base := base
 A := A.deeper (envOfC qual scope s.heap.objs.size f cd)
 N := N
 s₀ := s
 H₀ := H
 env := envOfC qual scope s.heap.objs.size f cd
 outer := outer
 stack := envOfC qual scope s.heap.objs.size f cd :: outer
 ex := []
 calm := true
 fn := fun _ => true
 pn := []
 xe := fun e s' => wpAny (model P w) (A.deeper (envOfC qual scope s.heap.objs.size f cd)) (leaving (envOfC qual scope s.heap.objs.size f cd) e) (fun _ s'' => CX outer H s E e s'') (fun e' s'' => CX outer H s E e' s'') s'
theorem HJ {sc : Scope} {n : Nat} {x : Str} (h : sc.names.lookup x = some .cell) : ∃ c, (cellsFrom n sc.names []).lookup x = some c := by
 have q := PySem.W.cellsFrom_some sc.names n [] (.inl h)
 exact Option.isSome_iff_exists.mp q
theorem OJ {CX : QB} {P : Program} {w : World} {K : PySem.W.Frag} {mg : Str -> Option Value} {base : Heap} {N ps : List Str} {qual : Str} {scope : Scope} {f : Addr} {cd : Value} {A : Around} {outer : List Env} {s s1 : Shared} {H : Hp} {E : XK} {us : List Value} {vs : List V}
   (S : aM N ps scope) (hd : A.handled = none) (e0 : Ko P w K mg base A outer s H) (hl : vs.length = ps.length) (r : Vals vs us)
   (x : InCallC s s.heap.objs.size (bindL (envOfC qual scope s.heap.objs.size f cd).kindOf (ps.zip us) fun _ => none) (cellsFrom (s.heap.objs.size + 1) scope.names []) (bindC (envOfC qual scope s.heap.objs.size f cd).kindOf (ps.zip us) fun _ => none) s1) :
   Inv (yR CX P w K mg base N qual scope f cd A outer s H E) [] (start N vs) H s1 := by
 have hpl : ps.length <= N.length := by have := congrArg List.length S.pre; rw [alx] at this; omega
 obtain ⟨h1, tk, rfl, hk⟩ := x.done
 have noA : ∀ b : Addr, b ∉ (yR CX P w K mg base N qual scope f cd A outer s H E).ex := fun b z => absurd (show b ∈ ([] : List Addr) from z) (by simp)
 refine ⟨⟨e0.mod, S.kind, rfl, rfl, akG _, fun y z c h1 h2 => ?_, fun y hy => ?_, fun y c _ h => ?_, fun _ => hd, Around.frames_deeper e0.frames, .inr ⟨rfl, rfl⟩, fun b z => absurd z (noA b), e0.bs, e0.Vu, fun b _ _ => noA b, fun b z => absurd z (noA b), e0.yQ, e0.frf⟩,
   rfl, e0.bare, Un.kept hk, ⟨_, x.toInCall.ns, fun i y v h1 h2 h3 => ?_⟩, fun y c h => ⟨_, x.cell y c h⟩, e0.dJ.fresh (akG _), fun y c h => ?_, fun p hp => absurd (show p ∈ ([] : List (Addr × Obj)) from hp) (by simp), e0.dJ.kept hk, ?_⟩
 . exact name_of_addr x.apart (alu h1) (alu h2)
 . have hy : scope.names.lookup y = some .cell \/ scope.names.lookup y = some .free := hy
   rcases hy with hy | hy
   . exact HJ hy
   . exact absurd rfl (S.aaZ _ (alu hy))
 . exact alj (x.above y c (alu h))
 . have hi : i < vs.length := by
     unfold start at h2
     by_cases hi : i < vs.length
     . exact hi
     . rw [List.getElem?_append_right (by simpa using hi)] at h2
       rw [List.getElem?_replicate] at h2
       split at h2 <;> cases h2
   have ha : vs[i]? = some v := by
     unfold start at h2
     rw [List.getElem?_append_left (by simpa using hi), List.getElem?_map] at h2
     cases e : vs[i]? with
     | none => rw [e] at h2; cases h2
     | some a => rw [e] at h2; cases h2; rfl
   obtain ⟨u, hu, rv⟩ := r.get ha
   have hp : ps[i]? = some y := by
     rw [← S.pre, List.getElem?_take_of_lt (by omega)]; exact h1
   have ndP : ps.Nodup := by rw [← S.pre]; exact S.nd.sublist (List.take_sublist _ _)
   refine ⟨u, rv, ?_⟩
   rcases S.par y (alr hp) with k | k
   . exact .inl ⟨k, DF ndP hp hu k⟩
   . obtain ⟨c, e⟩ := HJ (n := s.heap.objs.size + 1) k
     refine .inr ⟨.inl k, c, e, ?_⟩
     have q := x.cell y c e
     rw [DG ndP hp hu (by show scope.names.lookup y ≠ _; rw [k]; decide)] at q
     exact q
 . exact e0.dJ.fresh (alj (x.above y c (alu h)))
 . unfold start
   show _ = N.length
   rw [ak1, akD, alQ]
   omega
theorem ZM {CX : QB} {P : Program} {w : World} {K : PySem.W.Frag} {mg : Str -> Option Value} {base : Heap} {k : Nat} {f : Addr} {name qual : Str} {params : Arguments} {body : List Stmt} {scope : Scope} {dV kV doc pm dF ct oc : Value} {an od : Option Addr}
   {QC : Array (Option Value)} {N ps : List Str} {sp : Sp} (lk : K.lookup f = some ⟨oc, od, .func (PySem.W.fnOf name qual params body scope dV kV doc pm an dF ct), QC⟩) (j4 : PySem.W.codeIn K dF qual = true) (S : aM N ps scope)
   (len : ∀ vs H Q E, sp vs H Q E -> vs.length = ps.length)
   (HK : ∀ (A : Around) (outer : List Env) (s : Shared) (H : Hp) (vs : List V) (Q : VK) (E : XK), dg k (A.deeper (envOfC qual scope s.heap.objs.size f dF)) -> sp vs H Q E →
     ∃ t, J6 (yR CX P w K mg base N qual scope f dF A outer s H E) body t /\ t { nx := fun _ H' => Q .non H', rt := Q } (start N vs) H) :
   bN P w K mg base CX (k + 1) f (PySem.W.fnOf name qual params body scope dV kV doc pm an dF ct) ps sp := by
 refine ⟨len, fun A outer s H args us vs Q E hr e0 hb r Vw => ?_⟩
 have hl := len _ _ _ _ Vw
 have KX : K.In s.heap := e0.mod.kin.keeps fun b o e => (e0.bs b o e).1
 have lim : s.heap.NoLimit := e0.mod.nolimit.keeps fun b o e => (e0.bs b o e).1
 have zO : ∀ y ∈ ps.zip us, scope.names.lookup y.1 = some .local \/ (scope.names.lookup y.1 = some .cell /\ ((cellsFrom (s.heap.objs.size + 1) scope.names []).lookup y.1).isSome = true) := fun ⟨n, v⟩ hy => by
   rcases S.par n (List.of_mem_zip hy).1 with q | q
   . exact .inl q
   . exact .inr ⟨q, PySem.W.cellsFrom_some _ _ _ (.inl q)⟩
 refine codeAny_call_function hr.depth (KX _ _ lk) rfl S.co S.gen rfl (PySem.W.codeRec_of KX j4) (hb _ _ _ _ ?_)
 refine wpAny_newFunctionEnv_cells S.kind zO fun env he s1 x => ?_
 subst he
 refine ⟨lim.keeps x.toInCall.keep, codeAny_func ?_⟩
 obtain ⟨t, ht, hq⟩ := HK A outer s H vs Q E (hr.deeper _) Vw
 have I : Inv (yR CX P w K mg base N qual scope f dF A outer s H E) [] (start N vs) H s1 := OJ S hr.hd e0 hl r x
 refine alM (ht [] s1 (start N vs) H _ I hq) (fun fl s' hs => ?_) fun e s' hs => hs
 have fin : ∀ {σ' : St} {H' : Hp} {v : V} {u : Value}, Inv (yR CX P w K mg base N qual scope f dF A outer s H E) [] σ' H' s' -> RelV v u -> Q v H' -> CE outer P w H s Q u s' :=
   fun {σ' H' v u} J rv q => ⟨v, H', J.os, J.bare, J.base, J.dJ, rv, q⟩
 cases fl with
 | ret u =>
   obtain ⟨v, σ', H', J, rv, q⟩ := hs
   exact fin J rv q
 | next =>
   obtain ⟨σ', H', J, q⟩ := hs
   exact fin (v := V.non) (u := Value.none) J rfl q
 | brk =>
   obtain ⟨_, _, _, q⟩ := hs
   exact False.elim q
 | cont =>
   obtain ⟨_, _, _, q⟩ := hs
   exact False.elim q
section
variable {X : Cx} {x : Str} {p pos : Pos} {e : Expr} {es : List Expr} {t : TA} {id T : String} {r : List V -> Hp -> VK -> Prop}
noncomputable def tCB (r : List V -> Hp -> VK -> Prop) (t : TA) : TE := fun σ H Q => t σ H fun vs H1 => r vs H1 Q
theorem qN (hc : qL X (.builtin id) r) (hg : Gl X x) (hm : X.mg x = none) (hv : bootBuiltins x = some (.builtin id)) (ha : PA X (e :: es) t) (hn : x ≠ "__name__" := by decide) (tU : (x == ("__debug__" : Str)) = false := by decide)
   (he : starEach (e :: es) X.env = (false, eval e X.env) :: starEach es X.env := by rfl) (hpl : (backTo pos (starEach es X.env)).any (·.1) = false := by rfl) : PE X (.Call (.Name x p) (e :: es) [] pos) (tCB r t) := by
 intro pins s σ H Q I h
 refine alP (w6 I hg hm hv ?_ hn tU)
 exact PyProof.Rows.callWith_builtin1 (eB (ha pos pins s σ H _ I h) fun us s1 ⟨vs, H1, I1, r1, q1⟩ => hc pins s1 σ H1 vs us Q I1 r1 q1) he hpl
theorem lg (hc : qL X (.type T) r) (hg : Gl X x) (hm : X.mg x = none) (hv : bootBuiltins x = some (.type T)) (ha : PA X (e :: es) t) (hn : x ≠ "__name__" := by decide) (tU : (x == ("__debug__" : Str)) = false := by decide)
   (he : starEach (e :: es) X.env = (false, eval e X.env) :: starEach es X.env := by rfl) (hpl : (backTo pos (starEach es X.env)).any (·.1) = false := by rfl) : PE X (.Call (.Name x p) (e :: es) [] pos) (tCB r t) := by
 intro pins s σ H Q I h
 refine alP (w6 I hg hm hv ?_ hn tU)
 exact amb (eB (ha pos pins s σ H _ I h) fun us s1 ⟨vs, H1, I1, r1, q1⟩ => hc pins s1 σ H1 vs us Q I1 r1 q1) he hpl
end
end L2
namespace HT
open PySem PyProof.Rows
section
open PySem.SeqAt
open PySem.AutoSeq1 (wpAny_loadPart')
open PySem.MeetsSeq PySem.MeetsSeq2 PySem.MeetsSeq3
end
section
variable {prog : Program} {w : World} {A : Around} {E : Value -> Shared -> Prop} {s : Shared}
noncomputable def Er (n d : Nat) : Option Int -> Nat
 | none => d
 | some v => if v < 0 then (v + (n : Int)).toNat else min v.toNat n
end
end HT
namespace L2
open PySem PySem.Spec PyProof.Rows
noncomputable abbrev TO := St -> Hp -> (Option Int -> Hp -> Prop) -> Prop
noncomputable def PO (X : Cx) (e : Option Expr) (t : TO) : Prop :=
 ∀ (pins : List (Addr × Obj)) (s : Shared) (σ : St) (H : Hp) (Q : Option Int -> Hp -> Prop), Inv X pins σ H s -> t σ H Q →
   wpAny (model X.prog X.w) X.A (evalPart e X.env) (fun u s' => ∃ o H', Inv X pins σ H' s' /\ IsPart u o /\ Q o H') X.xe s
noncomputable def VW : TO := fun _ H Q => Q none H
noncomputable def adP (t : TE) : TO := fun σ H Q => t σ H fun x H1 => ∃ i, x = .int i /\ Q (some i) H1
theorem intsAre_of {ns : List Int} : ∀ {us : List Value}, Vals (ns.map V.int) us -> IntsAre us ns := by
 induction ns with
 | nil => intro us r; rw [amj] at r; cases r; exact .nil
 | cons n ns ih =>
   intro us r
   rw [akP] at r
   cases r with
   | cons r1 r2 =>
     obtain ⟨t, e⟩ := r1
     subst e
     exact .cons n t (ih r2)
section
variable {X : Cx} {e : Expr} {te : TE} {lo hi : Option Expr} {tl th : TO} {pos p2 : Pos}
theorem VX : PO X none VW := by
 intro pins s σ H Q I h
 rw [evalPart_none]
 exact alh ⟨none, H, I, .none, h⟩
theorem VY (h : PE X e te) : PO X (some e) (adP te) := by
 intro pins s σ H Q I hw
 rw [evalPart_some]
 refine eB (h pins s σ H _ I hw) fun u s1 zz => ?_
 obtain ⟨x, H1, I1, r1, q1⟩ := zz
 obtain ⟨i, rfl, q⟩ := q1
 obtain ⟨t, rfl⟩ := r1
 exact ⟨some i, H1, I1, .int i t, q⟩
noncomputable def SlR (X : Cx) (r : V -> Option Int -> Option Int -> Hp -> VK -> Prop) : Prop :=
 ∀ (pins : List (Addr × Obj)) (s : Shared) (σ : St) (H : Hp) (x : V) (v vl vu : Value) (lo hi : Option Int) (sl : Addr) (Q : VK), Inv X pins σ H s -> RelV x v -> s.heap.IsSliceOf sl vl vu .none -> IsPart vl lo -> IsPart vu hi -> r x lo hi H Q →
   ∃ T id, typeLookup (.type T) "__getitem__" = pure (some (.builtin id)) /\ s.TypeIs v T /\ wpAny (model X.prog X.w) X.A (getItem v (.ref sl)) (EP X pins σ Q) X.xe s
noncomputable def tSl (r : V -> Option Int -> Option Int -> Hp -> VK -> Prop) (te : TE) (tl th : TO) : TE := fun σ H Q => te σ H fun x H1 => tl σ H1 fun l H2 => th σ H2 fun u H3 => r x l u H3 Q
theorem Rc {r : V -> Option Int -> Option Int -> Hp -> VK -> Prop} (hr : SlR X r) (he : PE X e te) (hl : PO X lo tl) (hu : PO X hi th) : PE X (.Subscript e (.Slice lo hi none p2) pos) (tSl r te tl th) := by
 intro pins s σ H Q I h
 refine Subscript_ (eB (he pins s σ H _ I h) fun v s1 zz => ?_)
 obtain ⟨x, H1, I1, r1, q1⟩ := zz
 refine wpAny_Slice (eB (hl pins s1 σ H1 _ I1 q1) fun vl s2 ⟨l, H2, I2, pl, q2⟩ => eB (hu pins s2 σ H2 _ I2 q2) fun vu s3 zz => ?_)
 obtain ⟨u, H3, I3, pu, q3⟩ := zz
 rw [evalPart_none]
 refine alh ?_
 have I4 : Inv X pins σ H3 { s3 with heap := s3.heap.push { cls := .type "slice", data := .fields #[vl, vu, .none] } } := I3.kept (t' := s3.toks) fun b ob q => akN _ q
 obtain ⟨T, id, hT, ht, hg⟩ := hr pins { s3 with heap := s3.heap.push { cls := .type "slice", data := .fields #[vl, vu, .none] } } σ H3 x v vl vu l u s3.heap.objs.size Q I4 r1 (Heap.IsSliceOf.new ..) pl pu q3
 show wpAny (model X.prog X.w) X.A (subscriptTail e (.Slice lo hi none p2) v (.ref s3.heap.objs.size)) (EP X pins σ Q) X.xe { s3 with heap := s3.heap.push { cls := .type "slice", data := .fields #[vl, vu, .none] } }
 exact tail_any (ops := [.ref s3.heap.objs.size, v]) ht hT hg (by with_unfolding_all rfl)
noncomputable def OL (xs : List V) (lo hi : Option Int) : List V := (xs.drop (HT.Er xs.length 0 lo)).take (HT.Er xs.length xs.length hi - HT.Er xs.length 0 lo)
theorem HL (xs : List V) (lo hi : Option Int) : (OL xs lo hi).length <= xs.length := by
 unfold OL
 rw [alx, List.length_drop]
 omega
end
noncomputable def Rf (n : Nat) (i : Int) : Option Nat := if 0 <= i then (if i < n then some i.toNat else none) else if -(n : Int) <= i then some (i + n).toNat else none
noncomputable def Hs {α : Type} (xs : List α) (i : Int) : Option α := (Rf xs.length i).bind fun j => xs[j]?
theorem Es {n : Nat} {i : Int} {j : Nat} (h : Rf n i = some j) : seqIndex? i n = some j /\ j < n /\ -(n : Int) <= i /\ i < n := by
 unfold Rf at h
 by_cases h0 : 0 <= i
 . rw [akJ h0] at h
   by_cases h1 : i < n
   . rw [akJ h1] at h
     have e : i.toNat = j := akU h
     exact ⟨by rw [seqIndex_of h0 h1, e], by omega, by omega, h1⟩
   . rw [akH h1] at h; cases h
 . rw [akH h0] at h
   by_cases h1 : -(n : Int) <= i
   . rw [akJ h1] at h
     have e : (i + n).toNat = j := akU h
     exact ⟨by rw [seqIndex_neg (by omega) h1, e], by omega, h1, by omega⟩
   . rw [akH h1] at h; cases h
theorem Nh {α : Type} {xs : List α} {i : Int} {v : α} (h : Hs xs i = some v) : ∃ j, seqIndex? i xs.length = some j /\ xs[j]? = some v /\ j < xs.length /\ -(xs.length : Int) <= i /\ i < xs.length := by
 unfold Hs at h
 cases e : Rf xs.length i with
 | none => rw [e] at h; cases h
 | some j =>
   rw [e] at h
   obtain ⟨h1, h2, h3, h4⟩ := Es e
   exact ⟨j, h1, h, h2, h3, h4⟩
theorem bE {α : Type} {xs : List α} {j : Nat} {v : α} (h : xs[j]? = some v) : Hs xs (j : Int) = some v := by
 have hj : j < xs.length := (ak7.mp h).1
 have e : Rf xs.length (j : Int) = some j := by
   unfold Rf
   rw [akJ (by omega), akJ (by omega)]; simp
 unfold Hs; rw [e]; exact h
noncomputable def vv (b : Expr) : Prop := ∀ o i, subscripted b false o i = operate [o, i] (getItem o i)
noncomputable def IxR (X : Cx) (r : R2) : Prop :=
 ∀ (value slice : Expr) (pins : List (Addr × Obj)) (s : Shared) (σ : St) (H : Hp) (x y : V) (v u : Value) (Q : VK), Inv X pins σ H s -> RelV x v -> RelV y u -> r x y H Q →
   subscripted slice false v u = operate [v, u] (getItem v u) -> wpAny (model X.prog X.w) X.A (subscriptTail value slice v u) (EP X pins σ Q) X.xe s
noncomputable def MtR (X : Cx) (id : String) (r : V -> List V -> Hp -> VK -> Prop) : Prop :=
 ∀ (pins : List (Addr × Obj)) (s : Shared) (σ : St) (H : Hp) (x : V) (xs : List V) (v : Value) (us : List Value) (Q : VK), Inv X pins σ H s -> RelV x v -> Vals xs us -> r x xs H Q →
   wpAny (model X.prog X.w) X.A (call (.builtin id) (v :: us)) (EP X pins σ Q) X.xe s
section
variable {X : Cx} {a b : Expr} {ta tb : TE} {pos : Pos}
theorem HM {r : R2} (hr : IxR X r) (ha : PE X a ta) (hb : PE X b tb) (hs : vv b) : PE X (.Subscript a b pos) (tOp r ta tb) := by
 intro pins s σ H Q I h
 exact Subscript_ (aaP ha hb I h fun v u s2 x y H2 I2 rx ry q => hr a b pins s2 σ H2 x y v u Q I2 rx ry q (hs _ _))
noncomputable def agk (K : PySem.W.Frag) : R2 := fun x y H Q => ∃ p xs i v, x = .ref p /\ y = .int i /\ mC K H p xs /\ Hs xs i = some v /\ Q v H
noncomputable def agl (K : PySem.W.Frag) : R2 := fun x y H Q => ∃ p xs i v, x = .ref p /\ y = .int i /\ wX K H p xs /\ Hs xs i = some v /\ Q v H
theorem Ni : IxR X (agk X.K) := by
 intro value slice pins s σ H x y v u Q I rx ry h hs
 obtain ⟨p, xs, i, z, rfl, rfl, hq, he, q⟩ := h
 cases rx
 obtain ⟨t, rfl⟩ := ry
 obtain ⟨its, r, pl, hz⟩ := I.list hq
 obtain ⟨j, h1, h2, h3, h4, h5⟩ := Nh he
 obtain ⟨w, ew, VZ⟩ := r.get h2
 have hl := r.length
 have hn := zM
 have fin : EP X pins σ Q w s := ⟨z, H, I, VZ, q⟩
 by_cases h0 : 0 <= i
 . have hj : i.toNat = j := by
     rw [seqIndex_of h0 h5] at h1
     exact akU h1
   exact item_listR pl.isList h0 (by omega) (by rw [hj]; simpa using ew) fin hs
 . have hj : (i + (its.toArray.size : Int)).toNat = j := by
     rw [seqIndex_neg (by omega) h4] at h1
     rw [akI, ← hl]
     exact akU h1
   exact subscriptTail_builtinR (x := w) pl.isList.typeIs slot_list_getitem.lookup
     (wpAny_getItem_list_neg (Q := fun r s' => r = w /\ EP X pins σ Q r s') pl.isList (by omega) (by rw [List.size_toArray] <;> omega) (by omega) (by rw [hj]; simpa using ew) ⟨rfl, fin⟩) hs
theorem Kp : IxR X (agl X.K) := by
 intro value slice pins s σ H x y v u Q I rx ry h hs
 obtain ⟨p, xs, i, z, rfl, rfl, hq, he, q⟩ := h
 cases rx
 obtain ⟨t, rfl⟩ := ry
 obtain ⟨its, r, pl, hz⟩ := I.tuple hq
 obtain ⟨j, h1, h2, h3, h4, h5⟩ := Nh he
 obtain ⟨w, ew, VZ⟩ := r.get h2
 have hl := r.length
 have hn := zM
 have fin : EP X pins σ Q w s := ⟨z, H, I, VZ, q⟩
 exact subscriptTail_builtinR (x := w) pl.typeIs slot_tuple_getitem.lookup
   (getItem_tuple (j := j) (Q := fun r s' => r = w /\ EP X pins σ Q r s') pl (by omega) (by omega) (by rw [List.size_toArray, ← hl]; exact h1) (by simpa using ew) ⟨rfl, fin⟩) hs
theorem Kq (its : List Value) (n j : Nat) (u : Value) : Obj.mapSeq (·.setIfInBounds j u) { cls := .type "list", data := .seq its.toArray n } = { cls := .type "list", data := .seq (its.set j u).toArray n } := by
 simp [Obj.mapSeq]
theorem Inv.lst {pins : List (Addr × Obj)} {σ : St} {H : Hp} {s : Shared} {p : Addr} {xs : List V} (I : Inv X pins σ H s) (h : H p = some (.lst xs)) :
   ∃ (its : List Value) (n : Nat), Vals xs its /\ s.heap.get? p = some { cls := .type "list", data := .seq its.toArray n } /\ xs.length <= sizeLine := by
 obtain ⟨z, its, n, r, e⟩ := I.dJ p _ h
 exact ⟨its, n, r, e, z⟩
theorem Inv.aa0 {pins : List (Addr × Obj)} {σ : St} {H : Hp} {s : Shared} {p : Addr} {xs ys : List V} {its its' : List Value} {n n' : Nat} {f : Obj -> Obj} (I : Inv X pins σ H s) (h : H p = some (.lst xs))
   (ho : s.heap.get? p = some { cls := .type "list", data := .seq its.toArray n }) (hf : f { cls := .type "list", data := .seq its.toArray n } = { cls := .type "list", data := .seq its'.toArray n' }) (r : Vals ys its') (hz : ys.length <= sizeLine) (t : Nat) :
   Inv X pins σ (upd H p (.lst ys)) { s with heap := s.heap.update p f, toks := t } := by
 have e : (s.heap.update p f).get? p = some { cls := .type "list", data := .seq its'.toArray n' } := by
   rw [Heap.get?_update_self f ho (by rw [hf] <;> rfl), hf]
 refine I.write (x := p) (e := p) (by rw [h]; trivial) (.inl rfl) (fun b u hb q => (Heap.get?_update_other _ _ (Ne.symm hb)).trans q) ⟨_, e⟩ ?_
 exact ⟨hz, its', n', r, e⟩
noncomputable def adQ : V -> V -> V -> Hp -> (Hp -> Prop) -> Prop := fun o i v H Q => ∃ p xs k j, o = .ref p /\ i = .int k /\ H p = some (.lst xs) /\ Rf xs.length k = some j /\ Q (upd H p (.lst (xs.set j v)))
theorem set_list : adw X adQ := by
 intro pins s σ H o i v ov iv u Q I ro ri rv h
 obtain ⟨p, xs, k, j, rfl, rfl, hp, hj, q⟩ := h
 cases ro
 obtain ⟨t, rfl⟩ := ri
 obtain ⟨its, n, r, ho, hz⟩ := I.lst hp
 obtain ⟨h1, h2, h3, h4⟩ := Es hj
 have hl := r.length
 have hn := zM
 have I' : Inv X pins σ (upd H p (.lst (xs.set j v))) { s with heap := s.heap.update p (Obj.mapSeq (·.setIfInBounds j u)) } :=
   I.aa0 hp ho (Kq its n j u) (r.set rv j) (by rw [List.length_set]; exact hz) s.toks
 by_cases h0 : 0 <= k
 . have hk : k.toNat = j := by
     rw [seqIndex_of h0 h4] at h1
     exact akU h1
   exact PySem.W.ki_setAt ho h0 (by omega) (by rw [akI, ← hl]; exact h4) (by rw [hk]; exact ⟨_, I', q⟩)
 . have hk : (k + (its.toArray.size : Int)).toNat = j := by
     rw [seqIndex_neg (by omega) h3] at h1
     rw [akI, ← hl]
     exact akU h1
   exact PySem.W.ki_setBack ho (by omega) (by rw [akI, ← hl]; exact h3) (by omega) (by rw [hk]; exact ⟨_, I', q⟩)
theorem Et (lo hi : Option Int) (n : Nat) : (sliceBounds lo hi none n).1 = ((HT.Er n 0 lo : Nat) : Int) /\ (sliceBounds lo hi none n).2.1 = ((HT.Er n n hi : Nat) : Int) /\ (sliceBounds lo hi none n).2.2 = 1 := by
 refine ⟨?_, ?_, rfl⟩
 . cases lo with
   | none => simp [sliceBounds, HT.Er]
   | some i =>
     simp only [sliceBounds, HT.Er, Option.getD_none, show (1 : Int) > 0 by decide, al8]
     by_cases h : i < 0
     . simp only [h, al8] <;> omega
     . simp only [h, alZ] <;> omega
 . cases hi with
   | none => simp [sliceBounds, HT.Er]
   | some i =>
     simp only [sliceBounds, HT.Er, Option.getD_none, show (1 : Int) > 0 by decide, al8]
     by_cases h : i < 0
     . simp only [h, al8] <;> omega
     . simp only [h, alZ] <;> omega
theorem B8 (its : List Value) (lo hi : Option Int) : slicePick its.toArray lo hi none = ((its.drop (HT.Er its.length 0 lo)).take (HT.Er its.length its.length hi - HT.Er its.length 0 lo)).toArray := by
 obtain ⟨h1, h2, h3⟩ := Et lo hi its.toArray.size
 unfold slicePick
 rw [h1, h2, h3]
 simp only [sliceRange_one, pick_run, akI] <;> rfl
noncomputable def agm (K : PySem.W.Frag) : V -> Option Int -> Option Int -> Hp -> VK -> Prop := fun x lo hi H Q => ∃ a xs, x = .ref a /\ mC K H a xs /\ ∀ p, H p = none -> Q (.ref p) (upd H p (.lst (OL xs lo hi)))
theorem V0 : SlR X (agm X.K) := by
 intro pins s σ H x v vl vu lo hi sl Q I rx hs pl pu h
 obtain ⟨a, xs, rfl, hx, q⟩ := h
 cases rx
 obtain ⟨its, r, ht, hz⟩ := I.list hx
 have hlen := r.length
 refine ⟨"list", _, slot_list_getitem.lookup, ht.isList.typeIs, ?_⟩
 refine wpAny_getItem_list_slice ht.isList hs pl pu .none (by simp) ?_ (by rw [akI] <;> omega)
 rw [B8, ← hlen]
 refine ⟨.ref s.heap.objs.size, _, I.laid (t' := s.toks) (o := .lst (OL xs lo hi)) (fun b ob q => akN _ q) (akG _) ?_, rfl, q _ (I.dJ.fresh (akG _))⟩
 exact ⟨alq (HL xs lo hi) hz, _, 0, (r.drop (HT.Er xs.length 0 lo)).take (HT.Er xs.length xs.length hi - HT.Er xs.length 0 lo), ak3 _ rfl⟩
noncomputable def tY : V -> Bool
 | .non => true
 | .bl _ => true
 | .int _ => true
 | .str _ => true
 | _ => false
noncomputable def Rg : V -> V -> Bool
 | .non, .non => true
 | .bl a, .bl b => a == b
 | .bl a, .int b => (if a then 1 else 0) == b
 | .int a, .bl b => a == (if b then 1 else 0)
 | .int a, .int b => a == b
 | .str a, .str b => a == b
 | _, _ => false
theorem aa1 {A : Around} {s : Shared} {y x : V} {u v : Value} (ry : RelV y u) (rx : RelV x v) (fy : tY y = true) (fx : tY x = true) : SeqAt.EqAt A s u v (Rg y x) := by
 cases y with
 | non =>
   cases ry
   cases x with
   | non => cases rx; exact SeqAt.EqAt.same _
   | bl b => cases rx; exact SeqAt.EqAt.none_bool b
   | int b => obtain ⟨t, rfl⟩ := rx; exact SeqAt.EqAt.none_int b t
   | str b => obtain ⟨t, rfl⟩ := rx; exact SeqAt.EqAt.none_str b t
   | _ => exact absurd (show false = true from fx) akO
 | bl a =>
   cases ry
   cases x with
   | non => cases rx; exact SeqAt.EqAt.bool_none a
   | bl b => cases rx; exact SeqAt.EqAt.bool_bool a b
   | int b => obtain ⟨t, rfl⟩ := rx; exact SeqAt.EqAt.bool_int a b t
   | str b => obtain ⟨t, rfl⟩ := rx; exact SeqAt.EqAt.bool_str a b t
   | _ => exact absurd (show false = true from fx) akO
 | int a =>
   obtain ⟨t', rfl⟩ := ry
   cases x with
   | non => cases rx; exact SeqAt.EqAt.int_none a t'
   | bl b => cases rx; exact SeqAt.EqAt.int_bool a t' b
   | int b => obtain ⟨t, rfl⟩ := rx; exact SeqAt.EqAt.int_int a t' b t
   | str b => obtain ⟨t, rfl⟩ := rx; exact SeqAt.EqAt.int_str a t' b t
   | _ => exact absurd (show false = true from fx) akO
 | str a =>
   obtain ⟨t', rfl⟩ := ry
   cases x with
   | non => cases rx; exact SeqAt.EqAt.str_none a t'
   | bl b => cases rx; exact SeqAt.EqAt.str_bool a t' b
   | int b => obtain ⟨t, rfl⟩ := rx; exact SeqAt.EqAt.str_int a t' b t
   | str b => obtain ⟨t, rfl⟩ := rx; exact SeqAt.EqAt.str_str a t' b t
   | _ => exact absurd (show false = true from fx) akO
 | _ => exact absurd (show false = true from fy) akO
noncomputable def Kr (x : V) (u : Value) : Bool := match u with
 | .none => Rg .non x
 | .bool b => Rg (.bl b) x
 | .int i _ => Rg (.int i) x
 | .str z _ => Rg (.str z) x
 | _ => false
theorem Rh {x y : V} {u : Value} (r : RelV y u) (f : tY y = true) : Kr x u = Rg y x := by
 cases y with
 | non => cases r; rfl
 | bl b => cases r; rfl
 | int i => obtain ⟨t, rfl⟩ := r; rfl
 | str z => obtain ⟨t, rfl⟩ := r; rfl
 | _ => exact absurd (show false = true from f) akO
theorem vz {x : V} : ∀ {xs : List V} {us : List Value}, Vals xs us -> xs.all tY = true -> us.any (Kr x) = xs.any fun y => Rg y x
 | _, _, .nil, _ => rfl
 | y :: xs, u :: us, .cons r t, f => by
   rw [List.all_cons, alf] at f
   rw [alT, alT, Rh r f.1, vz t f.2]
theorem qO {A : Around} {s : Shared} {x : V} {v : Value} (rx : RelV x v) (fx : tY x = true) : ∀ {xs : List V} {us : List Value}, Vals xs us -> xs.all tY = true -> ∀ u ∈ us, SeqAt.EqAt A s u v (Kr x u)
 | _, _, .nil, _ => fun u hu => by cases hu
 | y :: xs, u :: us, .cons r t, f => fun u' hu => by
   rw [List.all_cons, alf] at f
   rcases akB.mp hu with rfl | hu
   . rw [Rh r f.1]; exact aa1 r rx f.1 fx
   . exact qO rx fx t f.2 u' hu
noncomputable def ZN (x : V) (xs : List V) : Bool := xs.any fun y => Rg y x
noncomputable def rIn (K : PySem.W.Frag) (neg : Bool) : R2 := fun x y H Q => ∃ p xs, y = .ref p /\ (mC K H p xs \/ wX K H p xs) /\ tY x = true /\ xs.all tY = true /\ Q (.bl (if neg then !ZN x xs else ZN x xs)) H
theorem sE : yX X (compareOp .In) (rIn X.K false) := by
 intro pins s σ H x y v u Q I rx ry h
 obtain ⟨p, xs, rfl, hq, fx, fs, q⟩ := h
 cases ry
 rcases hq with hq | hq
 . obtain ⟨its, r, pl, hz⟩ := I.list hq
   refine SeqAt.in_listAt (Kr x) pl.isList (fun w hw => qO rx fx r fs w (by simpa using hw)) ⟨.bl _, H, I, rfl, ?_⟩
   rw [show its.toArray.any (Kr x) = its.any (Kr x) by simp, vz r fs]
   exact q
 . obtain ⟨its, r, pl, hz⟩ := I.tuple hq
   refine SeqAt.in_tupleAt (Kr x) pl (fun w hw => qO rx fx r fs w (by simpa using hw)) ⟨.bl _, H, I, rfl, ?_⟩
   rw [show its.toArray.any (Kr x) = its.any (Kr x) by simp, vz r fs]
   exact q
theorem vA : yX X (compareOp .NotIn) (rIn X.K true) := by
 intro pins s σ H x y v u Q I rx ry h
 obtain ⟨p, xs, rfl, hq, fx, fs, q⟩ := h
 cases ry
 rcases hq with hq | hq
 . obtain ⟨its, r, pl, hz⟩ := I.list hq
   refine SeqAt.notIn_listAt (Kr x) pl.isList (fun w hw => qO rx fx r fs w (by simpa using hw)) ⟨.bl _, H, I, rfl, ?_⟩
   rw [show its.toArray.any (Kr x) = its.any (Kr x) by simp, vz r fs]
   exact q
 . obtain ⟨its, r, pl, hz⟩ := I.tuple hq
   refine SeqAt.notIn_tupleAt (Kr x) pl (fun w hw => qO rx fx r fs w (by simpa using hw)) ⟨.bl _, H, I, rfl, ?_⟩
   rw [show its.toArray.any (Kr x) = its.any (Kr x) by simp, vz r fs]
   exact q
theorem Eu : qL X (.builtin "len") (fun xs H Q => ∃ p ys, xs = [.ref p] /\ (mC X.K H p ys \/ wX X.K H p ys) /\ Q (.int ys.length) H) := by
 intro pins s σ H xs us Q I r h
 obtain ⟨p, ys, rfl, hq, q⟩ := h
 obtain ⟨u, rfl, rx⟩ := vals1 r
 cases rx
 have hn := zM
 rcases hq with hq | hq
 . obtain ⟨its, r', pl, hz⟩ := I.list hq
   have hlen := r'.length
   exact Calls.call_len_list pl.isList (by simp only [akI] <;> omega) ⟨.int ys.length, H, I.tok _, ⟨s.toks + 1, by rw [akI, hlen]⟩, q⟩
 . obtain ⟨its, r', pl, hz⟩ := I.tuple hq
   have hlen := r'.length
   exact len_tuple pl (by simp only [akI] <;> omega) ⟨.int ys.length, H, I.tok _, ⟨s.toks + 1, by rw [akI, hlen]⟩, q⟩
theorem oV : qL X (.type "list") (fun xs H Q => ∃ p ys, xs = [.ref p] /\ (mC X.K H p ys \/ wX X.K H p ys) /\ ∀ l, H l = none -> Q (.ref l) (upd H l (.lst ys))) := by
 intro pins s σ H xs us Q I r h
 obtain ⟨p, ys, rfl, hq, q⟩ := h
 obtain ⟨u, rfl, rx⟩ := vals1 r
 cases rx
 have fin : ∀ (its : List Value), Vals ys its -> ys.length <= sizeLine -> ∀ (h' : Heap) (c' : Nat), (∀ b o', s.heap.get? b = some o' -> h'.get? b = some o') →
     h'.get? s.heap.objs.size = some { cls := .type "list", dict := none, data := .seq its.toArray c', slots := #[] } -> EP X pins σ Q (.ref s.heap.objs.size) { s with heap := h' } := fun its r' hz h' c' kp e =>
   ⟨.ref s.heap.objs.size, _, I.laid (t' := s.toks) kp (akG _) (show eV X.prog X.w _ h' _ (.lst ys) from ⟨hz, its, c', r', e⟩), rfl, q _ (I.dJ.fresh (akG _))⟩
 rcases hq with hq | hq
 . obtain ⟨its, r', pl, hz⟩ := I.list hq
   have hlen := r'.length
   obtain ⟨o, ho, hc, n, hd⟩ := pl.isList
   exact call_list_seq p (.inl rfl) ho hc hd (fun h' c' kp e => fin its r' hz h' c' kp e) (by simp only [akI] <;> omega)
 . obtain ⟨its, r', pl, hz⟩ := I.tuple hq
   have hlen := r'.length
   obtain ⟨o, ho, hc, n, hd⟩ := pl
   exact call_list_seq p (.inr rfl) ho hc hd (fun h' c' kp e => fin its r' hz h' c' kp e) (by simp only [akI] <;> omega)
theorem B9 : qL X (.type "tuple") (fun xs H Q => ∃ p ys, xs = [.ref p] /\ ((mC X.K H p ys /\ ∀ l, H l = none -> Q (.ref l) (upd H l (.tup ys))) \/ (wX X.K H p ys /\ Q (.ref p) H))) := by
 intro pins s σ H xs us Q I r h
 obtain ⟨p, ys, rfl, h⟩ := h
 obtain ⟨u, rfl, rx⟩ := vals1 r
 cases rx
 rcases h with ⟨hq, q⟩ | ⟨hq, q⟩
 . obtain ⟨its, r', pl, hz⟩ := I.list hq
   have hlen := r'.length
   refine call_tuple_list pl.isList (fun h' kp => ?_) (by simp only [akI] <;> omega)
   have I1 : Inv X pins σ H { s with heap := h' } := I.kept (t' := s.toks) kp
   have I2 : Inv X pins σ (upd H h'.objs.size (.tup ys)) { s with heap := h'.push { cls := .type "tuple", data := .seq its.toArray } } :=
     I1.laid (t' := s.toks) (fun b o e => akN _ e) (akG _) (show eV X.prog X.w _ _ _ (.tup ys) from ⟨hz, its, r', IsTup.new _ _⟩)
   exact ⟨.ref h'.objs.size, _, I2, rfl, q _ (I1.dJ.fresh (akG _))⟩
 . obtain ⟨its, r', pl, hz⟩ := I.tuple hq
   exact call_tuple_same pl ⟨.ref p, H, I, rfl, q⟩
noncomputable def tyV (K : PySem.W.Frag) (T : String) (x : V) (H : Hp) : Prop := match x with
 | .str _ => T = "str"
 | .int _ => T = "int"
 | .ref p => (T = "list" /\ ∃ xs, mC K H p xs) \/ (T = "tuple" /\ ∃ o, K.lookup p = some o /\ o.cls = .type "tuple" /\ o.dict = none) ∨
     (T = "dict" /\ ((∃ kvs, H p = some (.dK kvs)) \/ ∃ kvs, H p = some (.dT kvs))) \/ (T = "set" /\ ∃ S n, H p = some (.set S n))
 | _ => False
theorem aa2 {pins : List (Addr × Obj)} {σ : St} {H : Hp} {s : Shared} {T : String} {x : V} {v : Value} (I : Inv X pins σ H s) (r : RelV x v) (ty : tyV X.K T x H) :
   s.TypeIs v T /\ ∀ a, v = .ref a -> ∃ ob, s.heap.get? a = some ob /\ ob.dict = none := by
 cases x with
 | str z =>
   obtain ⟨t, rfl⟩ := r
   cases (show T = "str" from ty)
   exact ⟨typeIs_str s z t, fun _ e => nomatch e⟩
 | int i =>
   obtain ⟨t, rfl⟩ := r
   cases (show T = "int" from ty)
   exact ⟨typeIs_int s i t, fun _ e => nomatch e⟩
 | ref p =>
   cases r
   rcases ty with ⟨rfl, xs, hq⟩ | ⟨rfl, o, hk, hc, hd⟩ | ⟨rfl, hk⟩ | ⟨rfl, S, n, hk⟩
   . obtain ⟨its, _, pl, _⟩ := I.list hq
     refine ⟨pl.isList.typeIs, fun a e => ?_⟩
     cases e
     obtain ⟨o, n, e, c, hd, _⟩ := pl
     exact ⟨o, e, hd⟩
   . refine ⟨⟨o, I.Hr p o hk, hc⟩, fun a e => ?_⟩
     cases e
     exact ⟨o, I.Hr _ o hk, hd⟩
   . have z : ∃ o, s.heap.get? p = some o /\ o.ExactDict := by
       rcases hk with ⟨kvs, hk⟩ | ⟨kvs, hk⟩
       . obtain ⟨_, _, _, _, o, _, _, e, ex, _⟩ := I.dJ p _ hk
         exact ⟨o, e, ex⟩
       . obtain ⟨_, _, _, _, o, _, _, e, ex, _⟩ := I.dJ p _ hk
         exact ⟨o, e, ex⟩
     obtain ⟨o, e, ex⟩ := z
     refine ⟨⟨o, e, ex.1⟩, fun a e2 => ?_⟩
     cases e2
     exact ⟨o, e, ex.2.1⟩
   . obtain ⟨o, _, _, _, e, ex, _⟩ := I.dJ p _ hk
     refine ⟨⟨o, e, ex.1⟩, fun a e2 => ?_⟩
     cases e2
     exact ⟨o, e, ex.2.1⟩
 | _ => exact False.elim ty
noncomputable def tBM (K : PySem.W.Frag) (T : String) (r : V -> List V -> Hp -> VK -> Prop) (to : TE) (t : TA) : TE := fun σ H Q => to σ H fun x H1 => tyV K T x H1 /\ t σ H1 fun xs H2 => r x xs H2 Q
variable {o e : Expr} {es : List Expr} {to : TE} {t : TA} {name : Str} {apos HN : Pos} {T id : String} {r : V -> List V -> Hp -> VK -> Prop}
theorem zP (pa : PlainAttrs T) (slot : Slot T name id) (hty : typeOf (.builtin id) = pure (.type "method_descriptor")) (hm : MtR X id r) (ho : PE X o to) (ha : PA X (e :: es) t)
   (j5 : attributeBase o name X.env (eval o X.env) = eval o X.env := by rfl)
   (qP : ((backTo HN (starEach (e :: es) X.env)).all (fun x => !x.1) && (backToKw HN (keywordEach [] X.env)).all (fun x => x.1.isSome)
     && decide ((e :: es).length + ([] : List Keyword).length + (if ([] : List Keyword).isEmpty then 0 else 1) < 30)) = true := by rfl)
   (hline : (apos.endLine == HN.line) = true := by rfl) (hs : starEach (e :: es) X.env = (false, eval e X.env) :: starEach es X.env := by rfl) (Ks : (backTo HN (starEach es X.env)).any (·.1) = false := by rfl) :
   PE X (.Call (.Attribute o name apos) (e :: es) [] HN) (tBM X.K T r to t) := by
 intro pins s σ H Q I h
 refine wpAny_Call_method_late j5 qP hline rfl (eB (ho pins s σ H _ I h) fun v s1 zz => ?_)
 obtain ⟨x, H1, I1, r1, ty, q1⟩ := zz
 obtain ⟨h1, h2⟩ := aa2 I1 r1 ty
 refine ⟨T, id, pa, slot, hty, h1, h2, ?_⟩
 have hA := ha HN pins s1 σ H1 _ I1 q1
 rw [hs] at hA ⊢
 refine Calls.callWith_builtin (by show (false || (backTo HN (starEach es X.env)).any (·.1)) = false; rw [Ks] <;> rfl) (Calls.evalArgs_plain ?_)
 exact eB hA fun us s2 ⟨vs, H2, I2, r2, q2⟩ => hm pins s2 σ H2 x vs v us Q I2 r1 r2 q2
end
noncomputable def MtM (X : Cx) (id : String) (r : V -> List V -> Hp -> VK -> Prop) : Prop :=
 ∀ (pins : List (Addr × Obj)) (s : Shared) (σ : St) (H : Hp) (x : V) (xs : List V) (v : Value) (us : List Value) (Q : VK), Inv X pins σ H s -> RelV x v -> Vals xs us -> r x xs H Q →
   wpAny (model X.prog X.w) X.A (call (.builtin id) (v :: us)) (EP X pins σ Q) X.xe s
theorem Vals.one {x : V} {us : List Value} (h : Vals [x] us) : ∃ u, us = [u] /\ RelV x u := by
 cases h with
 | cons r h => cases h; exact ⟨_, rfl, r⟩
theorem Vals.eraseIdx : ∀ {xs : List V} {us : List Value} (i : Nat), Vals xs us -> Vals (xs.eraseIdx i) (us.eraseIdx i)
 | _, _, _, .nil => .nil
 | _, _, 0, .cons _ t => t
 | _, _, i + 1, .cons r t => .cons r (Vals.eraseIdx i t)
theorem Vals.rep {xs : List V} {us : List Value} (h : Vals xs us) : ∀ k : Nat, Vals (List.replicate k xs).flatten (List.replicate k us).flatten
 | 0 => .nil
 | k + 1 => by
   rw [alK, alK, al0, al0]
   exact Vals.append h (Vals.rep h k)
theorem DH {α : Type} : ∀ (l : List α) (i : Nat), (l.eraseIdx i).length <= l.length
 | [], _ => akG _
 | _ :: _, 0 => alL _
 | _ :: r, i + 1 => Nat.succ_le_succ (DH r i)
theorem foldl_rep (its : List Value) : ∀ (k : Nat) (acc : List Value),
   List.foldl (fun x1 x2 => x1 ++ x2) acc.toArray (List.replicate k its.toArray) = (acc ++ (List.replicate k its).flatten).toArray
 | 0, acc => by simp
 | k + 1, acc => by
   have e : acc.toArray ++ its.toArray = (acc ++ its).toArray := by simp
   have e2 : (acc ++ its) ++ (List.replicate k its).flatten = acc ++ (List.replicate (k + 1) its).flatten := by
     rw [alK, al0, akx]
   rw [← e2, ← foldl_rep its k (acc ++ its), ← e, alK, alS]
section
variable {X : Cx} {pins : List (Addr × Obj)} {σ : St} {H : Hp} {s : Shared} {l b : Addr} {xs ys zs : List V}
theorem Inv.Ri {its its' : List Value} {n : Nat} {f : Array Value -> Array Value} {t' : Nat} (I : Inv X pins σ H s) (hH : H l = some (.lst xs))
   (e : s.heap.get? l = some { cls := .type "list", data := .seq its.toArray n }) (hf : f its.toArray = its'.toArray) (hv : Vals ys its') (hz : ys.length <= sizeLine) :
   Inv X pins σ (upd H l (.lst ys)) { s with heap := s.heap.update l (Obj.mapSeq f), toks := t' } := by
 have q := PySem.IsL.update e f
 rw [hf] at q
 refine I.write (x := l) (e := l) (by rw [hH]; exact trivial) (.inl rfl) (fun b' u hb hu => (Heap.get?_update_other s.heap (Obj.mapSeq f) (Ne.symm hb)).trans hu) ⟨_, q⟩ ?_
 exact ⟨hz, its', _, hv, q⟩
theorem Inv.adS {its : List Value} {t' : Nat} (I : Inv X pins σ H s) (hv : Vals ys its) (hz : ys.length <= sizeLine) :
   Inv X pins σ (upd H s.heap.objs.size (.lst ys)) { s with heap := s.heap.push { cls := .type "list", data := .seq its.toArray }, toks := t' } :=
 I.laid (fun _ _ q => akN _ q) (akG _) ⟨hz, its, 0, hv, ak3 _ rfl⟩
theorem Inv.fresh (I : Inv X pins σ H s) : H s.heap.objs.size = none := I.dJ.fresh (akG _)
theorem Inv.OO (I : Inv X pins σ H s) (hH : H l = some (.lst xs)) : xs.length <= sizeLine /\ ∃ (its : List Value) (n : Nat), Vals xs its /\ xs.length = its.length /\ s.heap.get? l = some { cls := .type "list", data := .seq its.toArray n } := by
 obtain ⟨z, its, n, r, e⟩ := I.dJ l _ hH
 exact ⟨z, its, n, r, r.length, e⟩
theorem vC {n : Nat} (h : n <= sizeLine) : Builtin.List.listTooLong n = false := by
 unfold Builtin.List.listTooLong
 exact alw (by omega)
end
section
variable {X : Cx}
noncomputable def V1 : V -> List V -> Hp -> VK -> Prop := fun x vs H Q => ∃ l xs y, x = .ref l /\ vs = [y] /\ H l = some (.lst xs) /\ xs.length < sizeLine /\ Q .non (upd H l (.lst (xs ++ [y])))
theorem xh : MtM X "list.append" V1 := by
 intro pins s σ H x vs v us Q I rx rv h
 obtain ⟨l, xs, y, rfl, rfl, hH, hz, q⟩ := h
 cases rx
 obtain ⟨u, rfl, ru⟩ := rv.one
 obtain ⟨z, its, n, r, hl, e⟩ := I.OO hH
 refine amd F.slot_list_append ⟨_, e, rfl⟩ F.entry_list_append (F.args_list_append_2 _ _) (PySem.list_append l its.toArray n u (by rw [akI]; omega)) ⟨e, ?_⟩
 refine ⟨.non, _, I.Ri (its' := its ++ [u]) hH e (by simp) (r.append (.cons ru .nil)) ?_, rfl, q⟩
 rw [ak1, List.length_singleton]
 omega
noncomputable def V2 : V -> List V -> Hp -> VK -> Prop := fun x vs H Q => ∃ l b xs zs, x = .ref l /\ vs = [.ref b] /\ H l = some (.lst xs) /\ H b = some (.lst zs) /\ xs.length + zs.length <= sizeLine /\ Q .non (upd H l (.lst (xs ++ zs)))
theorem OQ : MtM X "list.extend" V2 := by
 intro pins s σ H x vs v us Q I rx rv h
 obtain ⟨l, b, xs, zs, rfl, rfl, hH, hB, hz, q⟩ := h
 cases rx
 obtain ⟨u, rfl, ru⟩ := rv.one
 cases ru
 obtain ⟨z, its, n, r, hl, e⟩ := I.OO hH
 obtain ⟨z2, qE, n2, r2, hl2, e2⟩ := I.OO hB
 have hsz : its.toArray.size + qE.toArray.size <= sizeLine := by rw [akI, akI]; omega
 have zQ : ¬ (!its.toArray.isEmpty && Builtin.List.listTooLong (its.toArray.size + qE.toArray.size)) = true := by
   rw [vC hsz, Bool.and_false]
   exact akO
 refine amd F.slot_list_extend ⟨_, e, rfl⟩ F.entry_list_extend (F.args_list_extend_2 _ _)
   (AutoSeq1.list_extend_list_list_0 l its.toArray n b qE.toArray n2 zQ (by rw [akI]; omega) (by omega)) ⟨e, e2, ?_⟩
 refine ⟨.non, _, I.Ri (its' := its ++ qE) hH e (by simp) (r.append r2) ?_, rfl, q⟩
 rw [ak1]
 omega
noncomputable def aa3 : V -> List V -> Hp -> VK -> Prop := fun x vs H Q => ∃ l xs i k y, x = .ref l /\ vs = [.int i] /\ H l = some (.lst xs) /\ -(2 ^ 63) <= i /\ i < 2 ^ 63 /\ seqIndex? i xs.length = some k /\ xs[k]? = some y /\ Q y (upd H l (.lst (xs.eraseIdx k)))
theorem Rj : MtM X "list.pop" aa3 := by
 intro pins s σ H x vs v us Q I rx rv h
 obtain ⟨l, xs, i, k, y, rfl, rfl, hH, h1, h2, hk, hy, q⟩ := h
 cases rx
 obtain ⟨u, rfl, ru⟩ := rv.one
 obtain ⟨t, rfl⟩ := ru
 obtain ⟨z, its, n, r, hl, e⟩ := I.OO hH
 obtain ⟨w, hw, VZ⟩ := r.get hy
 refine amd F.slot_list_pop ⟨_, e, rfl⟩ F.entry_list_pop (F.args_list_pop_2 _ _)
   (MeetsSeq.list_pop_at l its.toArray n i t k w (fitsIndex_both h1 h2) (by rw [akI, ← hl]; exact hk) (by rw [← alY]; exact hw) (by rw [akI]; omega)) ⟨e, ?_⟩
 refine ⟨y, _, I.Ri (its' := its.eraseIdx k) hH e ?_ (r.eraseIdx k) ?_, VZ, q⟩
 . show its.toArray.eraseIdxIfInBounds k = (its.eraseIdx k).toArray
   rw [List.eraseIdxIfInBounds_toArray]
 . have := DH xs k
   omega
theorem len_rep {α : Type} (xs : List α) (k : Nat) : (List.replicate k xs).flatten.length = k * xs.length := by
 induction k with
 | zero => simp
 | succ k ih => rw [alK, al0, ak1, ih, Nat.succ_mul, Nat.add_comm]
end
section
variable {prog : Program} {w : World} {A : Around} {E : Value -> Shared -> Prop} {s : Shared}
set_option maxRecDepth 100000 in
end
section
variable {X : Cx}
end
end L2
namespace Att
open PySem PySem.W PySem.Calls PyProof.Rows
theorem yS {P : Params} {h : Heap} : ∀ (ns : List Int) (vs : List Value), WellAll P h vs (ns.map WData.int) -> IntsAre vs ns := by
 intro ns
 induction ns with
 | nil =>
   intro vs w
   rw [List.map_nil] at w
   cases w
   exact .nil
 | cons n ns ih =>
   intro vs w
   rw [List.map_cons] at w
   cases w with
   | cons a b =>
     cases a
     exact .cons _ _ (ih _ b)
theorem OS {l : OpenLaw} {n : Nat} (hn : l.most = some n) {P : Params} {h : Heap} {args : List WData} {vals : List Value}
   (V3 : l.row.toRowW.claim.pre args = true) (ZO : WellAll P h vals args) :
   ∃ a vs ns, vals = [Value.ref a] /\ args = [WData.list (ns.map WData.int)] /\ h.get? a = some { cls := .type "list", data := .seq vs.toArray } /\ IntsAre vs ns /\ ns.length <= n := by
 have hsh : WShape.hasAll [] args [.list .int] = true := (pre_splitW V3).1
 have hc : l.pre.holds [] { args := args } = true := (pre_splitW V3).2
 obtain ⟨d, r, rfl, h1, h2⟩ := hasAllW_cons hsh
 obtain rfl := hasAllW_nil h2
 obtain ⟨xs, rfl, h3⟩ := hasW_list h1
 obtain ⟨ns, rfl⟩ := items_int h3
 have hlen : ns.length <= n := by
   unfold OpenLaw.pre at hc
   have h4 : (WTm.not (.lt (.lit (.int (n : Int))) (.len (.arg 0)))).holds [] { args := [.list (ns.map .int)] } = true := by
     have h4 := (holds_andW hc).1
     rw [hn] at h4
     exact h4
   have h5 := condW_of h4 (w_not (w_lt w_lit (w_len_list (w_arg rfl))))
   rw [List.length_map] at h5
   refine Nat.le_of_not_lt fun q => ?_
   have q' : (n : Int) < ((ns.length : Nat) : Int) := by omega
   first
     | (rw [decide_eq_true q'] at h5; exact absurd h5 (by decide))
     | (simp at h5; omega)
 cases ZO with
 | cons w1 w2 =>
   cases w2
   cases w1 with
   | list ho agn => exact ⟨_, _, ns, rfl, rfl, ho, yS ns _ agn, hlen⟩
theorem OU (l : OpenLaw) (args : List WData) : l.row.toRowW.claim.post args (.bool true) args = true :=
 postW_of (r := l.row.toRowW) (X := (true == true))
   (show WShape.has [] (.bool true) .bool = true by first | rfl | decide | simp [WShape.has, WShape.arms, WShape.armsAll])
   (show (WTm.eq .res (.lit (.bool true))).value [] { args := args, res := some (.bool true), after := args } = some (.bool (true == true)) from w_eq_bool (w_res rfl) w_lit) rfl
theorem HP {l : OpenLaw} {n : Nat} {q : Program} {loose : List Str} {XP : (Str -> Option Value) -> Heap -> Prop} {YP : World -> Heap -> Prop} {d : DefRec}
   (hn : l.most = some n) (hdf : d.params.defaults = [])
   (call : ∀ (w : World) (s₀ s₁ : Shared) (mg mb : Str -> Option Value) (fa : Addr) (o : Obj) (pm cd doc : Value) (a : Addr) (vs : List Value) (ns : List Int),
     Ground q loose [] XP w s₀ mg mb s₁.heap -> YP w s₁.heap →
     s₁.heap.get? fa = some o -> o.data = .func (docDef d.name d.params d.body d.scope pm cd doc) -> s₁.heap.CodeRec cd d.name -> mg d.name = some (.ref fa) →
     s₁.heap.get? a = some { cls := .type "list", data := .seq vs.toArray } -> IntsAre vs ns -> ns.length <= n -> s₁.gens = #[] →
     codeAny (model l.prog w) callerA (.call (.ref fa) ⟨[.ref a], []⟩) (fun r s' => r = .ok (.ret (.bool true)) /\ OldK s₁.heap s'.heap /\ s'.os = s₁.os /\ AllBare s'.gens) s₁) :
   WalkO q loose XP YP l.row.toRowW d [] (fun f vs => PySem.call f vs) := by
 intro w s₀ s₁ mg mb G Y fa o pm cd doc dV kV ho hd j4 hD hmg hg args vals as V3 hlay hrd ZO hlo
 obtain rfl : dV = .none := Dflts.none hD hdf
 obtain rfl : kV = .none := Dflts.noKw hD
 obtain ⟨a, vs, ns, rfl, rfl, aa5, hints, hlen⟩ := OS hn V3 ZO
 refine enter_call (codeAny_mono (call w s₀ s₁ mg mb fa o pm cd doc a vs ns G Y ho (fd_plain hd) j4 hmg aa5 hints hlen hg) fun r s' hq => ?_)
 obtain ⟨rfl, h2, h3, h4⟩ := hq
 exact ⟨.inl ⟨.bool true, .bool true, [], rfl, fun _ => rfl, .bool true, OU l _, fun _ => ⟨List.Pairwise.nil, fun _ hm => (nomatch hm)⟩⟩, h2, h3, h4⟩
section
variable {prog : Program} {w : World} {A : Around} {E : Value -> Shared -> Prop} {s : Shared} {K : Frag}
noncomputable def ledger (h : Heap) (L d : Addr) : List (Addr × Obj) := (List.range h.objs.size).filterMap fun a => if a = L \/ a = d then none else (h.get? a).map fun o => (a, o)
end
end Att
namespace L2
open PySem PySem.Spec PyProof.Rows
theorem DI : ∀ {vs : List Value} {ns : List Int}, IntsAre vs ns -> Vals (ns.map V.int) vs
 | _, _, .nil => .nil
 | _, _, .cons n t h => .cons ⟨t, rfl⟩ (DI h)
noncomputable def inClass (s : Stmt) (j : Nat) : Stmt := match s with
 | .ClassDef _ _ _ body _ _ _ _ _ _ _ => body.getD j (.Pass ⟨0, 0, 0, 0⟩)
 | _ => .Pass ⟨0, 0, 0, 0⟩
noncomputable def yZ (s : Stmt) : Arguments := match s with
 | .FunctionDef _ a _ _ _ _ _ _ _ _ => a
 | _ => { posonlyargs := [], args := [], vararg := none, kwonlyargs := [], kw_defaults := [], kwarg := none, defaults := [] }
noncomputable def dS (s : Stmt) : List Stmt := match s with
 | .FunctionDef _ _ b _ _ _ _ _ _ _ => b
 | _ => []
noncomputable def ao (s : Stmt) : Scope := match s with
 | .FunctionDef _ _ _ _ _ _ sc _ _ _ => sc
 | _ => { kind := .function, names := [], isGenerator := false, isCoroutine := false }
noncomputable abbrev fO : QB := fun _ _ _ _ _ _ => False
noncomputable abbrev E0 : XK := fun _ _ _ => False
theorem tZ {X : Cx} : Passes fO X E0 := fun _ _ _ _ _ _ _ h => h.elim
structure ki (K : PySem.W.Frag) (x qual : Str) (st : Stmt) (f : Addr) (fd : FuncData) : Prop where
 ex : ∃ (oc : Value) (od : Option Addr) (kV doc pm : Value) (an : Option Addr) (dF ct : Value) (QC : Array (Option Value)),
   fd = PySem.W.fnOf x qual (yZ st) (dS st) (ao st) .none kV doc pm an dF ct /\ K.lookup f = some ⟨oc, od, .func fd, QC⟩ /\ PySem.W.codeIn K dF qual = true
 kp : PySem.W.keepIn K (.ref f) = true
section
variable {P : Program} {w : World} {K : PySem.W.Frag} {mg : Str -> Option Value} {base : Heap}
theorem ki.ok {x qual : Str} {st : Stmt} {f : Addr} {fd : FuncData} {N ps : List Str} {k : Nat} {sp : Sp} (F : ki K x qual st f fd) (S : aM N ps (ao st)) (len : ∀ vs H Q E, sp vs H Q E -> vs.length = ps.length)
   (HK : ∀ (dF : Value) (A : Around) (outer : List Env) (s : Shared) (H : Hp) (vs : List V) (Q : VK) (E : XK), dg k (A.deeper (envOfC qual (ao st) s.heap.objs.size f dF)) -> sp vs H Q E →
     ∃ t, J6 (yR fO P w K mg base N qual (ao st) f dF A outer s H E).QM (dS st) t /\ t { nx := fun _ H' => Q .non H', rt := Q } (start N vs) H) : bN P w K mg base fO (k + 1) f fd ps sp := by
 obtain ⟨oc, od, kV, doc, pm, an, dF, ct, QC, rfl, lk, j4⟩ := F.ex
 refine ZM lk j4 S len fun A outer s H vs Q E hr Vw => ?_
 obtain ⟨t, h, q⟩ := HK dF A outer s H vs Q E hr Vw
 exact ⟨t, h.QM, q⟩
theorem ki.binds {x qual : Str} {st : Stmt} {f : Addr} {fd : FuncData} {ps : List Str} (F : ki K x qual st f fd)
   (h : ∀ (kV doc pm : Value) (an : Option Addr) (dF ct : Value) (us : List Value), us.length = ps.length -> bindArgs (PySem.W.fnOf x qual (yZ st) (dS st) (ao st) .none kV doc pm an dF ct) ⟨us, []⟩ = pure (ps.zip us)) : Binds K fd ps [] := by
 obtain ⟨oc, od, kV, doc, pm, an, dF, ct, QC, rfl, lk, j4⟩ := F.ex
 exact .all (h kV doc pm an dF ct)
theorem bF {x qual : Str} {st : Stmt} {f : Addr} {oc : Value} {od an : Option Addr} {QC : Array (Option Value)} {kV doc pm dF ct : Value} (l : K.lookup f = some ⟨oc, od, .func (PySem.W.fnOf x qual (yZ st) (dS st) (ao st) .none kV doc pm an dF ct), QC⟩)
   (c : PySem.W.codeIn K dF qual = true) (k : PySem.W.keepIn K (.ref f) = true) : ki K x qual st f (PySem.W.fnOf x qual (yZ st) (dS st) (ao st) .none kV doc pm an dF ct) := ⟨⟨oc, od, kV, doc, pm, an, dF, ct, QC, rfl, l, c⟩, k⟩
end
theorem cI {n : Nat} (h : n <= 1000) : n < sizeLine := alR h (by decide)
section
variable {X : Cx}
end
theorem Ku {A B : Prop} (h : B) : if false = true then A else B := by
 rw [akH akO]
 exact h
theorem Kv {A B : Prop} (h : A) : if true = true then A else B := by
 rw [akJ rfl]
 exact h
noncomputable def aG (H H' : Hp) : Prop := ∀ b o, H b = some o -> H' b = some o
theorem aG.refl (H : Hp) : aG H H := fun _ _ h => h
theorem aG.trans {H H1 H2 : Hp} (a : aG H H1) (b : aG H1 H2) : aG H H2 := fun c o h => b c o (a c o h)
theorem aG.free {H H' : Hp} (e : aG H H') {l : Addr} (h : H' l = Option.none) : H l = Option.none := by
 cases q : H l with
 | none => rfl
 | some o =>
   rw [e l o q] at h
   cases h
theorem aG.seq {K : PySem.W.Frag} {H H' : Hp} {a : Addr} {xs : List V} (e : aG H H') (h : mC K H a xs) : mC K H' a xs := by
 rcases h with (h | ⟨o, h⟩) | h
 . exact .inl (.inl (e _ _ h))
 . exact .inl (.inr ⟨o, e _ _ h⟩)
 . exact .inr h
section
variable {κ : Type} [DecidableEq κ]
noncomputable def Ew (kvs : List (κ × V)) (k : κ) : Option V := (kvs.find? fun kv => decide (kv.1 = k)).map (·.2)
noncomputable def putK (kvs : List (κ × V)) (k : κ) (v : V) : List (κ × V) :=
 if (kvs.any fun kv => decide (kv.1 = k)) = true then kvs.map (fun kv => if kv.1 = k then (kv.1, v) else kv) else kvs ++ [(k, v)]
theorem zR {p : κ × V} {r : List (κ × V)} {k : κ} (e : p.1 = k) : Ew (p :: r) k = some p.2 := by simp [Ew, List.find?_cons, e]
theorem vD {p : κ × V} {r : List (κ × V)} {k : κ} (e : ¬ p.1 = k) : Ew (p :: r) k = Ew r k := by simp [Ew, List.find?_cons, e]
theorem HQ (k : κ) : ∀ kvs : List (κ × V), (kvs.any fun kv => decide (kv.1 = k)) = (Ew kvs k).isSome
 | [] => rfl
 | p :: r => by
   rw [alT]
   by_cases e : p.1 = k
   . simp only [zR e, al1 e, Bool.true_or, Option.isSome_some]
   . rw [vD e, alw e, Bool.false_or]; exact HQ k r
theorem yt (kvs : List (κ × V)) (k : κ) (v : V) : (putK kvs k v).length <= kvs.length + 1 := by
 unfold putK
 split
 . rw [akD]; omega
 . rw [ak1, akZ, List.length_nil]; omega
theorem wZ.OV {o : Option V} {u : Option Value} (r : wZ o u) : o.isSome = u.isSome := by
 cases o with
 | none => cases u with
   | none => rfl
   | some _ => exact (show False from r).elim
 | some _ => cases u with
   | none => exact (show False from r).elim
   | some _ => rfl
theorem KV.any {kvs : List (κ × V)} {vs : List (κ × Value)} (r : KV kvs vs) (k : κ) : (kvs.any fun kv => decide (kv.1 = k)) = vs.any fun kv => decide (kv.1 = k) := by
 unfold KV at r
 induction r with
 | nil => rfl
 | cons h t ih => rw [alT, alT, ih, h.1]
theorem KV.repl {kvs : List (κ × V)} {vs : List (κ × Value)} (r : KV kvs vs) (k : κ) {y : V} {u : Value} (ry : RelV y u) :
   KV (kvs.map fun kv => if kv.1 = k then (kv.1, y) else kv) (vs.map fun kv => if kv.1 = k then (kv.1, u) else kv) := by
 unfold KV at r ⊢
 induction r with
 | nil => exact .nil
 | @cons p q ps qs h t ih =>
   rw [akP, akP]
   refine .cons ?_ ih
   obtain ⟨h1, h2⟩ := h
   by_cases e : p.1 = k
   . rw [akJ e, akJ (h1.symm.trans e)]; exact ⟨h1, ry⟩
   . rw [akH e, akH (fun z => e (h1.trans z))]; exact ⟨h1, h2⟩
theorem KV.put {kvs : List (κ × V)} {vs : List (κ × Value)} (r : KV kvs vs) (k : κ) {y : V} {u : Value} (ry : RelV y u) : KV (putK kvs k y) (stored vs k u) := by
 unfold putK stored
 rw [r.any k]
 by_cases e : (vs.any fun kv => decide (kv.1 = k)) = true
 . rw [akJ e, akJ e]; exact r.repl k ry
 . rw [akH e, akH e]; exact Paired.snoc r ⟨rfl, ry⟩
theorem KV.keys {kvs : List (κ × V)} {vs : List (κ × Value)} (r : KV kvs vs) : kvs.map (·.1) = vs.map (·.1) := by
 unfold KV at r
 induction r with
 | nil => rfl
 | cons h t ih => rw [akP, akP, ih, h.1]
theorem KV.length {kvs : List (κ × V)} {vs : List (κ × Value)} (r : KV kvs vs) : kvs.length = vs.length := Paired.length r
end
theorem ZP {P : Program} {w : World} {k : Key} {u : Value} (r : RelV (kV k) u) : (eO P w).is k u = true := by
 cases k with
 | inl i => obtain ⟨t, e⟩ := (show ∃ t, u = Value.int i t from r); subst e; exact Hw P w i t
 | inr x => obtain ⟨t, e⟩ := (show ∃ t, u = Value.str x t from r); subst e; exact Hx P w x t
theorem DJ {P : Program} {w : World} : ∀ {ks : List Key} {us : List Value}, Vals (ks.map kV) us -> ItemsAre (eO P w) ks us
 | [], _, r => by rw [amj] at r; cases r; exact .nil
 | k :: ks, _, r => by
   rw [akP] at r
   cases r with
   | cons h t => exact .cons (ZP h) (DJ t)
noncomputable abbrev KT (H : Hp) : List (List Key × V) -> List (List Key × Addr × Value) -> Prop := Paired fun p q => p.1 = q.1 /\ H q.2.1 = some (.tup (p.1.map kV)) /\ RelV p.2 q.2.2
theorem KT.val {H : Hp} {kvs : List (List Key × V)} {xs : List (List Key × Addr × Value)} (r : KT H kvs xs) (k : List Key) : wZ (Ew kvs k) ((atKey xs k).map (·.2)) := by
 induction r with
 | nil => exact True.intro
 | @cons p q ps qs h t ih =>
   obtain ⟨h1, _, h2⟩ := h
   by_cases e : p.1 = k
   . have e' : q.1 = k := h1.symm.trans e
     have b : atKey (q :: qs) k = some q.2 := by simp [atKey, List.find?_cons, e']
     rw [zR e, b]; exact h2
   . have e' : ¬ q.1 = k := fun z => e (h1.trans z)
     have b : atKey (q :: qs) k = atKey qs k := by simp [atKey, List.find?_cons, e']
     rw [vD e, b]; exact ih
theorem KT.repl {H : Hp} {kvs : List (List Key × V)} {xs : List (List Key × Addr × Value)} (r : KT H kvs xs) (k : List Key) {y : V} {u : Value} (ry : RelV y u) :
   KT H (kvs.map fun kv => if kv.1 = k then (kv.1, y) else kv) (xs.map (putAt k u)) := by
 induction r with
 | nil => exact .nil
 | @cons p q ps qs h t ih =>
   rw [akP, akP]
   refine .cons ?_ ih
   obtain ⟨h1, h2, h3⟩ := h
   unfold putAt
   by_cases e : p.1 = k
   . rw [akJ e, akJ (h1.symm.trans e)]; exact ⟨h1, h2, ry⟩
   . rw [akH e, akH (fun z => e (h1.trans z))]; exact ⟨h1, h2, h3⟩
theorem KT.put {H : Hp} {kvs : List (List Key × V)} {xs : List (List Key × Addr × Value)} (r : KT H kvs xs) (k : List Key) {b : Addr} {y : V} {u : Value} (hb : H b = some (.tup (k.map kV))) (ry : RelV y u) :
   KT H (putK kvs k y) (storedH xs k b u) := by
 have e : (kvs.any fun kv => decide (kv.1 = k)) = (atKey xs k).isSome := by
   rw [HQ, (r.val k).OV, Option.isSome_map]
 unfold putK storedH
 rw [e]
 by_cases q : (atKey xs k).isSome = true
 . rw [akJ q, akJ q]; exact r.repl k ry
 . rw [akH q, akH q]; exact Paired.snoc r ⟨rfl, hb, ry⟩
theorem KT.keeps {H H' : Hp} {kvs : List (List Key × V)} {xs : List (List Key × Addr × Value)} (r : KT H kvs xs) (ht : ∀ b ys, H b = some (.tup ys) -> H' b = some (.tup ys)) : KT H' kvs xs :=
 Paired.aau r fun _ _ z => ⟨z.1, ht _ _ z.2.1, z.2.2⟩
section
variable {P : Program} {w : World} {H : Hp} {h : Heap} {a : Addr}
theorem ZQ {u : HO} (ok : ur P w H h) (e : Rd H a u) : eV P w H h a u := e.ok ok
theorem adU {kvs : List (Key × V)} (ok : ur P w H h) (e : Rd H a (.dK kvs)) : kvs.length <= sizeLine /\ (a == sysModules) = false /\ ∃ vs, KV kvs vs /\ h.DictOf (eO P w) a vs :=
 show eV P w H h a (.dK kvs) from ZQ ok e
theorem ZR {kvs : List (Key × V)} (ok : ur P w H h) (e : H a = some (.dK kvs)) : kvs.length <= sizeLine /\ (a == sysModules) = false /\ ∃ vs, KV kvs vs /\ h.DictOf (eO P w) a vs := adU ok (.inl e)
theorem Rk {ks : List Key} (ok : ur P w H h) (e : H a = some (.tup (ks.map kV))) : (tupleKind (eO P w)).is h ks a := by
 obtain ⟨_, its, r, o, h1, h2, n, h3⟩ := (show eV P w H h a (.tup (ks.map kV)) from ok a _ e)
 exact ⟨o, its.toArray, n, h1, h2, h3, by simpa using DJ r⟩
theorem adV {kvs : List (List Key × V)} (ok : ur P w H h) (e : Rd H a (.dT kvs)) : kvs.length <= sizeLine /\ (a == sysModules) = false ∧
   ∃ xs, KT H kvs xs /\ h.DictOfH (tupleKind (eO P w)) a xs := by
 obtain ⟨z, y, xs, r, o, es, ep, h1, h2, h3, h4, h5⟩ := (show eV P w H h a (.dT kvs) from ZQ ok e)
 refine ⟨z, y, xs, r, o, es, ep, h1, h2, h3, h4, fun x hx => ?_, h5⟩
 have all : ∀ {l : List (List Key × V)} {m : List (List Key × Addr × Value)}, KT H l m -> ∀ x ∈ m, (tupleKind (eO P w)).is h x.1 x.2.1 := by
   intro l m q
   induction q with
   | nil => intro x hx; exact nomatch hx
   | @cons p q ps qs hq t ih =>
     intro x hx
     rcases akB.mp hx with e | hx
     . subst e
       exact Rk ok (by rw [← hq.1]; exact hq.2.1)
     . exact ih x hx
 exact all r x hx
theorem adW {kvs : List (List Key × V)} (ok : ur P w H h) (e : H a = some (.dT kvs)) : kvs.length <= sizeLine /\ (a == sysModules) = false ∧
   ∃ xs, KT H kvs xs /\ h.DictOfH (tupleKind (eO P w)) a xs := adV ok (.inl e)
end
noncomputable def Rl (H : Hp) (a : Addr) (y v : V) (H' : Hp) : Prop :=
 (∃ kvs k, H a = some (.dK kvs) /\ y = kV k /\ kvs.length < sizeLine /\ H' = upd H a (.dK (putK kvs k v))) ∨
 ∃ kvs k b, H a = some (.dT kvs) /\ y = .ref b /\ H b = some (.tup (k.map kV)) /\ kvs.length < sizeLine /\ H' = upd H a (.dT (putK kvs k v))
theorem Rl.k {H : Hp} {a : Addr} {kvs : List (Key × V)} {k : Key} {v : V} (e : H a = some (.dK kvs)) (hl : kvs.length < sizeLine) : Rl H a (kV k) v (upd H a (.dK (putK kvs k v))) := .inl ⟨kvs, k, e, rfl, hl, rfl⟩
section
variable {X : Cx} {pins : List (Addr × Obj)} {σ : St} {H : Hp} {s : Shared} {a : Addr} {y v : V} {u r : Value} {o : Option V} {A : Around} {E : Value -> Shared -> Prop}
theorem Inv.big (I : Inv X pins σ H s) : sysModules < s.heap.objs.size := by
 have h : mainGlobals < s.heap.objs.size := (I.mod.glob.keeps I.bk).lt
 exact Nat.lt_trans (by decide) h
theorem Nj {h' : Heap} {t' : Nat} {ob : HO} (I : Inv X pins σ H s) (mu : Mut (H a)) (hs : Heap.SameBut a s.heap h') (he : ∃ q, h'.get? a = some q) (new : eV X.prog X.w (upd H a ob) h' a ob) :
   Inv X pins σ (upd H a ob) { s with heap := h', toks := t' } :=
 I.write (x := a) (e := a) mu (.inl rfl) (fun b q hb z => (hs.2 b hb).trans z) he new
theorem aa6 {P : Program} {w : World} {H' : Hp} {h' : Heap} {kvs : List (Key × V)} {vs : List (Key × Value)} (z : kvs.length <= sizeLine) (hd : (a == sysModules) = false) (rel : KV kvs vs) (dd : h'.DictOf (eO P w) a vs) :
   eV P w H' h' a (.dK kvs) := ⟨z, hd, vs, rel, dd⟩
theorem OW {H' : Hp} {Q : Unit -> Shared -> Prop} (hu : A.units + 1 < cLine) (I : Inv X pins σ H s) (g : Rl H a y v H') (ry : RelV y u) (rv : RelV v r) (h : ∀ s', Inv X pins σ H' s' -> Q () s') :
   wpAny (model X.prog X.w) A (setItem (.ref a) u r) Q E s := by
 rcases g with ⟨kvs, k, e, ey, l, eH⟩ | ⟨kvs, k, b, e, ey, eb, l, eH⟩
 . subst ey eH
   obtain ⟨z, hd, vs, rel, dd⟩ := ZR I.dJ e
   have hz : vs.length <= sizeLine := by rw [← rel.length]; exact z
   have hl : (putK kvs k v).length <= sizeLine := by have := yt kvs k v; omega
   refine wpAny_setItem_pairs (hsz := hz) (ZP ry) dd fun h' dd' hs => h _ ?_
   have he : ∃ q, h'.get? a = some q := let ⟨q, _, _, hq, _⟩ := dd'; ⟨q, hq⟩
   exact Nj I (by rw [e]; exact True.intro) hs he (aa6 hl hd (rel.put k rv) dd')
 . subst ey eH
   cases (show u = Value.ref b from ry)
   obtain ⟨z, hd, xs, rel, dd⟩ := adW I.dJ e
   have hz : xs.length <= sizeLine := by rw [← Paired.length rel]; exact z
   have hl : (putK kvs k v).length <= sizeLine := by have := yt kvs k v; omega
   refine wpAny_setItem_heap (hsz := hz) (tupleKind_room_in1 hu) (Rk I.dJ eb) dd fun h' dd' hs => h _ ?_
   obtain ⟨q, es, ep, hq, h2, h3, h4, _, h5⟩ := dd'
   refine Nj I (by rw [e]; exact True.intro) hs ⟨q, hq⟩ ⟨hl, hd, _, (rel.put k eb rv).keeps fun c ys ec => ?_, q, es, ep, hq, h2, h3, h4, h5⟩
   rw [az (adn ec e (fun z => nomatch z))]
   exact ec
end
section
variable {X : Cx} {pins : List (Addr × Obj)} {σ : St} {H : Hp} {s : Shared} {a : Addr} {kvs : List (Key × V)} {k : Key} {u : Value} {A : Around} {E : Value -> Shared -> Prop}
end
noncomputable def adX (td ty tv : TE) : TS := fun D σ H => tv σ H fun v H1 => td σ H1 fun x H2 => ty σ H2 fun y H3 => ∃ a H4, x = .ref a /\ Rl H3 a y v H4 /\ D.nx σ H4
section
variable {X : Cx} {o i e value : Expr} {pos pos' agf : Pos} {td ty tv : TE}
theorem V4 (hu : X.A.units + 1 < cLine) (ho : PE X o td) (hi : PE X i ty) (hv : PE X value tv) (hs : swapsWith value (some (.Subscript o i pos')) pos.line X.env = pure false) :
   PS X (.Assign [.Subscript o i pos'] value pos) (adX td ty tv) := by
 intro pins s σ H D I h
 refine wpAny_Assign_Subscript (eB (hv pins s σ H _ I h) fun r s1 ⟨v, H1, I1, rv, q1⟩ => eB (ho pins s1 σ H1 _ I1 q1) fun u s2 ⟨x, H2, I2, rx, q2⟩ => eB (hi pins s2 σ H2 _ I2 q2) fun iv s3 zz => ?_) hs
 obtain ⟨y, H3, I3, ry, a, H4, ex, g, q3⟩ := zz
 subst ex
 obtain rfl : u = Value.ref a := rx
 exact OW hu I3 g ry rv fun s4 I4 => ⟨σ, H4, I4, q3⟩
end
theorem Rm {P : Program} {w : World} {H : Hp} (h : Heap) (hb : sysModules < h.objs.size) : eV P w H (h.push { cls := .type "dict", data := .dict #[] }) h.objs.size (.dK []) :=
 ⟨akV _, alU.mpr (Ne.symm (ala hb)), [], .nil, Heap.DictOf.new h⟩
noncomputable def aa7 : TE := fun _ H Q => ∀ p, H p = none -> Q (.ref p) (upd H p (.dK []))
section
variable {X : Cx} {pos : Pos}
theorem Rn : PE X (.Dict [] [] pos) aa7 := fun pins s σ H Q I h =>
 wpAny_Dict_empty ⟨.ref s.heap.objs.size, _, I.laid (a := s.heap.objs.size) (o := .dK []) (t' := s.toks) (fun _ _ q => akN _ q) (akG _) (Rm s.heap I.big), rfl, h _ (I.dJ.fresh (akG _))⟩
end
section
variable {X : Cx} {pins : List (Addr × Obj)} {σ : St} {H : Hp} {s : Shared} {a : Addr} {y d : V} {u r : Value} {o : Option V} {A : Around} {E : Value -> Shared -> Prop}
end
section
variable {X : Cx} {o e f : Expr} {apos HN : Pos} {td ty tx : TE}
end
section
variable {X : Cx} {pins : List (Addr × Obj)} {σ : St} {H : Hp} {s : Shared} {a : Addr} {kvs : List (Key × V)} {A : Around} {E : Value -> Shared -> Prop}
end
section
variable {X : Cx} {pins : List (Addr × Obj)} {σ : St} {H : Hp} {s : Shared} {a : Addr} {y : V} {u : Value} {A : Around} {E : Value -> Shared -> Prop}
end
end L2
namespace L3
open PySem PySem.Spec PyProof.Rows L2
inductive D where
 | non | bl (b : Bool) | int (i : Int) | str (x : Str)
 | tup (ds : List D) | lst (ds : List D) | ins (c : Str) (fs : List (Str × D)) | oj (kvs : List (Key × D))
 | dct (kvs : List (List Key × D))
 | any
 | val (v : V)
inductive T where
 | sh (d : D) | tup (ts : List T) | lst (ts : List T) | ins (c : Str) (fs : List (Str × T)) | oj (kvs : List (Key × D)) | dct (kvs : List (List Key × T))
 | pin (x : Addr) (t : T)
mutual
noncomputable def T.fc : T -> D
 | .sh d => d
 | .tup ts => .tup (iO ts)
 | .lst ts => .lst (iO ts)
 | .ins c fs => .ins c (jB fs)
 | .oj kvs => .oj kvs
 | .dct kvs => .dct (Ro kvs)
 | .pin _ t => t.fc
noncomputable def T.iO : List T -> List D
 | [] => []
 | t :: ts => t.fc :: T.iO ts
noncomputable def T.jB : List (Str × T) -> List (Str × D)
 | [] => []
 | (x, t) :: fs => (x, t.fc) :: T.jB fs
noncomputable def T.Ro : List (List Key × T) -> List (List Key × D)
 | [] => []
 | (x, t) :: fs => (x, t.fc) :: T.Ro fs
end
variable (K : PySem.W.Frag) (CL : Str -> Addr)
mutual
inductive bM (Z : Hp) : D -> V -> Prop where
 | non : bM Z .non .non
 | bl (b : Bool) : bM Z (.bl b) (.bl b)
 | int (i : Int) : bM Z (.int i) (.int i)
 | str (x : Str) : bM Z (.str x) (.str x)
 | any (v : V) : bM Z .any v
 | val (v : V) : bM Z (.val v) v
 | tup {a : Addr} {vs : List V} {ds : List D} : wX K Z a vs -> aD Z ds vs -> bM Z (.tup ds) (.ref a)
 | lst {a : Addr} {vs : List V} {ds : List D} : mC K Z a vs -> aD Z ds vs -> bM Z (.lst ds) (.ref a)
 | ins {a dx : Addr} {c : Str} {gs : List (Str × V)} {fs : List (Str × D)} : Z a = some (.ins (CL c) dx gs) -> iF Z fs gs -> bM Z (.ins c fs) (.ref a)
 | oj {a : Addr} {gs : List (Key × V)} {fs : List (Key × D)} : Z a = some (.dK gs) -> bO Z fs gs -> bM Z (.oj fs) (.ref a)
 | dct {a : Addr} {gs : List (List Key × V)} {fs : List (List Key × D)} : Z a = some (.dT gs) -> vF Z fs gs -> bM Z (.dct fs) (.ref a)
inductive aD (Z : Hp) : List D -> List V -> Prop where
 | nil : aD Z [] []
 | cons {d : D} {v : V} {ds : List D} {vs : List V} : bM Z d v -> aD Z ds vs -> aD Z (d :: ds) (v :: vs)
inductive iF (Z : Hp) : List (Str × D) -> List (Str × V) -> Prop where
 | nil : iF Z [] []
 | cons {x : Str} {d : D} {v : V} {ds : List (Str × D)} {vs : List (Str × V)} : bM Z d v -> iF Z ds vs -> iF Z ((x, d) :: ds) ((x, v) :: vs)
inductive bO (Z : Hp) : List (Key × D) -> List (Key × V) -> Prop where
 | nil : bO Z [] []
 | cons {x : Key} {d : D} {v : V} {ds : List (Key × D)} {vs : List (Key × V)} : bM Z d v -> bO Z ds vs -> bO Z ((x, d) :: ds) ((x, v) :: vs)
inductive vF (Z : Hp) : List (List Key × D) -> List (List Key × V) -> Prop where
 | nil : vF Z [] []
 | cons {x : List Key} {d : D} {v : V} {ds : List (List Key × D)} {vs : List (List Key × V)} : bM Z d v -> vF Z ds vs -> vF Z ((x, d) :: ds) ((x, v) :: vs)
end
mutual
inductive bR (H Z : Hp) : T -> V -> List Addr -> Prop where
 | sh {d : D} {v : V} : bM K CL Z d v -> bR H Z (.sh d) v []
 | tup {a : Addr} {vs : List V} {ts : List T} {fp : List Addr} : Z a = some (.tup vs) -> aL H Z ts vs fp -> bR H Z (.tup ts) (.ref a) fp
 | lst {a : Addr} {vs : List V} {ts : List T} {fp : List Addr} : H a = some (.lst vs) -> aL H Z ts vs fp -> bR H Z (.lst ts) (.ref a) (a :: fp)
 | ins {a dx : Addr} {c : Str} {gs : List (Str × V)} {fs : List (Str × T)} {fp : List Addr} : H a = some (.ins (CL c) dx gs) -> cQ H Z fs gs fp -> bR H Z (.ins c fs) (.ref a) (a :: fp)
 | oj {a : Addr} {gs : List (Key × V)} {kvs : List (Key × D)} : H a = some (.dK gs) -> bO K CL Z kvs gs -> bR H Z (.oj kvs) (.ref a) [a]
 | dct {a : Addr} {gs : List (List Key × V)} {kvs : List (List Key × T)} {fp : List Addr} : H a = some (.dT gs) -> yu H Z kvs gs fp -> bR H Z (.dct kvs) (.ref a) (a :: fp)
 | pin {x : Addr} {t : T} {fp : List Addr} : bR H Z t (.ref x) fp -> bR H Z (.pin x t) (.ref x) fp
inductive aL (H Z : Hp) : List T -> List V -> List Addr -> Prop where
 | nil : aL H Z [] [] []
 | cons {t : T} {v : V} {ts : List T} {vs : List V} {fp gp : List Addr} : bR H Z t v fp -> aL H Z ts vs gp -> aL H Z (t :: ts) (v :: vs) (fp ++ gp)
inductive cQ (H Z : Hp) : List (Str × T) -> List (Str × V) -> List Addr -> Prop where
 | nil : cQ H Z [] [] []
 | cons {x : Str} {t : T} {v : V} {ts : List (Str × T)} {vs : List (Str × V)} {fp gp : List Addr} : bR H Z t v fp -> cQ H Z ts vs gp -> cQ H Z ((x, t) :: ts) ((x, v) :: vs) (fp ++ gp)
inductive yu (H Z : Hp) : List (List Key × T) -> List (List Key × V) -> List Addr -> Prop where
 | nil : yu H Z [] [] []
 | cons {x : List Key} {t : T} {v : V} {ts : List (List Key × T)} {vs : List (List Key × V)} {fp gp : List Addr} : bR H Z t v fp -> yu H Z ts vs gp -> yu H Z ((x, t) :: ts) ((x, v) :: vs) (fp ++ gp)
end
inductive eN (H Z : Hp) : List (Option T) -> L2.St -> List Addr -> Prop where
 | nil : eN H Z [] [] []
 | skip {o : Option V} {δ : List (Option T)} {σ : L2.St} {fp : List Addr} : eN H Z δ σ fp -> eN H Z (none :: δ) (o :: σ) fp
 | cons {t : T} {v : V} {δ : List (Option T)} {σ : L2.St} {fp gp : List Addr} : bR K CL H Z t v fp -> eN H Z δ σ gp -> eN H Z (some t :: δ) (some v :: σ) (fp ++ gp)
section
variable {K : PySem.W.Frag} {CL : Str -> Addr}
theorem aG.Rp {H H' : Hp} {a : Addr} {xs : List V} (e : aG H H') (h : wX K H a xs) : wX K H' a xs := by
 rcases h with (h | ⟨o, h⟩) | h
 . exact .inl (.inl (e _ _ h))
 . exact .inl (.inr ⟨o, e _ _ h⟩)
 . exact .inr h
theorem bM.mono {Z Z' : Hp} (e : aG Z Z') {d : D} {v : V} (h : bM K CL Z d v) : bM K CL Z' d v :=
 bM.rec (motive_1 := fun d v _ => bM K CL Z' d v) (motive_2 := fun d v _ => aD K CL Z' d v) (motive_3 := fun d v _ => iF K CL Z' d v) (motive_4 := fun d v _ => bO K CL Z' d v) (motive_5 := fun d v _ => vF K CL Z' d v)
   .non .bl .int .str .any .val (fun h _ r => .tup (aG.Rp e h) r) (fun h _ r => .lst (e.seq h) r) (fun h _ r => .ins (e _ _ h) r) (fun h _ r => .oj (e _ _ h) r) (fun h _ r => .dct (e _ _ h) r) .nil (fun _ _ h r => .cons h r) .nil (fun _ _ h r => .cons h r) .nil (fun _ _ h r => .cons h r) .nil (fun _ _ h r => .cons h r) h
theorem aD.mono {Z Z' : Hp} (e : aG Z Z') {d : List D} {v : List V} (h : aD K CL Z d v) : aD K CL Z' d v :=
 aD.rec (motive_1 := fun d v _ => bM K CL Z' d v) (motive_2 := fun d v _ => aD K CL Z' d v) (motive_3 := fun d v _ => iF K CL Z' d v) (motive_4 := fun d v _ => bO K CL Z' d v) (motive_5 := fun d v _ => vF K CL Z' d v)
   .non .bl .int .str .any .val (fun h _ r => .tup (aG.Rp e h) r) (fun h _ r => .lst (e.seq h) r) (fun h _ r => .ins (e _ _ h) r) (fun h _ r => .oj (e _ _ h) r) (fun h _ r => .dct (e _ _ h) r) .nil (fun _ _ h r => .cons h r) .nil (fun _ _ h r => .cons h r) .nil (fun _ _ h r => .cons h r) .nil (fun _ _ h r => .cons h r) h
theorem iF.mono {Z Z' : Hp} (e : aG Z Z') {d : List (Str × D)} {v : List (Str × V)} (h : iF K CL Z d v) : iF K CL Z' d v :=
 iF.rec (motive_1 := fun d v _ => bM K CL Z' d v) (motive_2 := fun d v _ => aD K CL Z' d v) (motive_3 := fun d v _ => iF K CL Z' d v) (motive_4 := fun d v _ => bO K CL Z' d v) (motive_5 := fun d v _ => vF K CL Z' d v)
   .non .bl .int .str .any .val (fun h _ r => .tup (aG.Rp e h) r) (fun h _ r => .lst (e.seq h) r) (fun h _ r => .ins (e _ _ h) r) (fun h _ r => .oj (e _ _ h) r) (fun h _ r => .dct (e _ _ h) r) .nil (fun _ _ h r => .cons h r) .nil (fun _ _ h r => .cons h r) .nil (fun _ _ h r => .cons h r) .nil (fun _ _ h r => .cons h r) h
theorem bO.mono {Z Z' : Hp} (e : aG Z Z') {d : List (Key × D)} {v : List (Key × V)} (h : bO K CL Z d v) : bO K CL Z' d v :=
 bO.rec (motive_1 := fun d v _ => bM K CL Z' d v) (motive_2 := fun d v _ => aD K CL Z' d v) (motive_3 := fun d v _ => iF K CL Z' d v) (motive_4 := fun d v _ => bO K CL Z' d v) (motive_5 := fun d v _ => vF K CL Z' d v)
   .non .bl .int .str .any .val (fun h _ r => .tup (aG.Rp e h) r) (fun h _ r => .lst (e.seq h) r) (fun h _ r => .ins (e _ _ h) r) (fun h _ r => .oj (e _ _ h) r) (fun h _ r => .dct (e _ _ h) r) .nil (fun _ _ h r => .cons h r) .nil (fun _ _ h r => .cons h r) .nil (fun _ _ h r => .cons h r) .nil (fun _ _ h r => .cons h r) h
theorem bR.mono {H H' Z Z' : Hp} (e : aG Z Z') {t : T} {v : V} {fp : List Addr} (k : ∀ a ∈ fp, H' a = H a) (h : bR K CL H Z t v fp) : bR K CL H' Z' t v fp :=
 bR.rec (motive_1 := fun t v fp _ => (∀ a ∈ fp, H' a = H a) -> bR K CL H' Z' t v fp) (motive_2 := fun t v fp _ => (∀ a ∈ fp, H' a = H a) -> aL K CL H' Z' t v fp) (motive_3 := fun t v fp _ => (∀ a ∈ fp, H' a = H a) -> cQ K CL H' Z' t v fp) (motive_4 := fun t v fp _ => (∀ a ∈ fp, H' a = H a) -> yu K CL H' Z' t v fp)
   (fun h _ => .sh (h.mono e)) (fun h _ r k => .tup (e _ _ h) (r k)) (fun h _ r k => .lst ((k _ akA).trans h) (r fun a ha => k a (akE _ ha))) (fun h _ r k => .ins ((k _ akA).trans h) (r fun a ha => k a (akE _ ha))) (fun h f k => .oj ((k _ akA).trans h) (bO.mono e f)) (fun h _ r k => .dct ((k _ akA).trans h) (r fun a ha => k a (akE _ ha))) (fun _ r k => .pin (r k)) (fun _ => .nil) (fun _ _ h r k => .cons (h fun a ha => k a (akF _ ha)) (r fun a ha => k a (aky _ ha))) (fun _ => .nil) (fun _ _ h r k => .cons (h fun a ha => k a (akF _ ha)) (r fun a ha => k a (aky _ ha))) (fun _ => .nil) (fun _ _ h r k => .cons (h fun a ha => k a (akF _ ha)) (r fun a ha => k a (aky _ ha))) h k
theorem aL.mono {H H' Z Z' : Hp} (e : aG Z Z') {t : List T} {v : List V} {fp : List Addr} (k : ∀ a ∈ fp, H' a = H a) (h : aL K CL H Z t v fp) : aL K CL H' Z' t v fp :=
 aL.rec (motive_1 := fun t v fp _ => (∀ a ∈ fp, H' a = H a) -> bR K CL H' Z' t v fp) (motive_2 := fun t v fp _ => (∀ a ∈ fp, H' a = H a) -> aL K CL H' Z' t v fp) (motive_3 := fun t v fp _ => (∀ a ∈ fp, H' a = H a) -> cQ K CL H' Z' t v fp) (motive_4 := fun t v fp _ => (∀ a ∈ fp, H' a = H a) -> yu K CL H' Z' t v fp)
   (fun h _ => .sh (h.mono e)) (fun h _ r k => .tup (e _ _ h) (r k)) (fun h _ r k => .lst ((k _ akA).trans h) (r fun a ha => k a (akE _ ha))) (fun h _ r k => .ins ((k _ akA).trans h) (r fun a ha => k a (akE _ ha))) (fun h f k => .oj ((k _ akA).trans h) (bO.mono e f)) (fun h _ r k => .dct ((k _ akA).trans h) (r fun a ha => k a (akE _ ha))) (fun _ r k => .pin (r k)) (fun _ => .nil) (fun _ _ h r k => .cons (h fun a ha => k a (akF _ ha)) (r fun a ha => k a (aky _ ha))) (fun _ => .nil) (fun _ _ h r k => .cons (h fun a ha => k a (akF _ ha)) (r fun a ha => k a (aky _ ha))) (fun _ => .nil) (fun _ _ h r k => .cons (h fun a ha => k a (akF _ ha)) (r fun a ha => k a (aky _ ha))) h k
theorem cQ.mono {H H' Z Z' : Hp} (e : aG Z Z') {t : List (Str × T)} {v : List (Str × V)} {fp : List Addr} (k : ∀ a ∈ fp, H' a = H a) (h : cQ K CL H Z t v fp) : cQ K CL H' Z' t v fp :=
 cQ.rec (motive_1 := fun t v fp _ => (∀ a ∈ fp, H' a = H a) -> bR K CL H' Z' t v fp) (motive_2 := fun t v fp _ => (∀ a ∈ fp, H' a = H a) -> aL K CL H' Z' t v fp) (motive_3 := fun t v fp _ => (∀ a ∈ fp, H' a = H a) -> cQ K CL H' Z' t v fp) (motive_4 := fun t v fp _ => (∀ a ∈ fp, H' a = H a) -> yu K CL H' Z' t v fp)
   (fun h _ => .sh (h.mono e)) (fun h _ r k => .tup (e _ _ h) (r k)) (fun h _ r k => .lst ((k _ akA).trans h) (r fun a ha => k a (akE _ ha))) (fun h _ r k => .ins ((k _ akA).trans h) (r fun a ha => k a (akE _ ha))) (fun h f k => .oj ((k _ akA).trans h) (bO.mono e f)) (fun h _ r k => .dct ((k _ akA).trans h) (r fun a ha => k a (akE _ ha))) (fun _ r k => .pin (r k)) (fun _ => .nil) (fun _ _ h r k => .cons (h fun a ha => k a (akF _ ha)) (r fun a ha => k a (aky _ ha))) (fun _ => .nil) (fun _ _ h r k => .cons (h fun a ha => k a (akF _ ha)) (r fun a ha => k a (aky _ ha))) (fun _ => .nil) (fun _ _ h r k => .cons (h fun a ha => k a (akF _ ha)) (r fun a ha => k a (aky _ ha))) h k
theorem bR.there {H Z : Hp} {t : T} {v : V} {fp : List Addr} (h : bR K CL H Z t v fp) : ∀ a ∈ fp, ∃ o, H a = some o :=
 bR.rec (motive_1 := fun t v fp _ => ∀ a ∈ fp, ∃ o, H a = some o) (motive_2 := fun t v fp _ => ∀ a ∈ fp, ∃ o, H a = some o) (motive_3 := fun t v fp _ => ∀ a ∈ fp, ∃ o, H a = some o) (motive_4 := fun t v fp _ => ∀ a ∈ fp, ∃ o, H a = some o)
   (fun _ a ha => absurd ha akR) (fun _ _ r => r) (fun h _ r a ha => (akB.mp ha).elim (fun q => ⟨_, q ▸ h⟩) (r a)) (fun h _ r a ha => (akB.mp ha).elim (fun q => ⟨_, q ▸ h⟩) (r a)) (fun h _ a ha => (akB.mp ha).elim (fun q => ⟨_, q ▸ h⟩) (fun q => absurd q akR)) (fun h _ r a ha => (akB.mp ha).elim (fun q => ⟨_, q ▸ h⟩) (r a)) (fun _ r => r) (fun a ha => absurd ha akR) (fun _ _ h r a ha => (akC.mp ha).elim (h a) (r a)) (fun a ha => absurd ha akR) (fun _ _ h r a ha => (akC.mp ha).elim (h a) (r a)) (fun a ha => absurd ha akR) (fun _ _ h r a ha => (akC.mp ha).elim (h a) (r a)) h
theorem aL.there {H Z : Hp} {t : List T} {v : List V} {fp : List Addr} (h : aL K CL H Z t v fp) : ∀ a ∈ fp, ∃ o, H a = some o :=
 aL.rec (motive_1 := fun t v fp _ => ∀ a ∈ fp, ∃ o, H a = some o) (motive_2 := fun t v fp _ => ∀ a ∈ fp, ∃ o, H a = some o) (motive_3 := fun t v fp _ => ∀ a ∈ fp, ∃ o, H a = some o) (motive_4 := fun t v fp _ => ∀ a ∈ fp, ∃ o, H a = some o)
   (fun _ a ha => absurd ha akR) (fun _ _ r => r) (fun h _ r a ha => (akB.mp ha).elim (fun q => ⟨_, q ▸ h⟩) (r a)) (fun h _ r a ha => (akB.mp ha).elim (fun q => ⟨_, q ▸ h⟩) (r a)) (fun h _ a ha => (akB.mp ha).elim (fun q => ⟨_, q ▸ h⟩) (fun q => absurd q akR)) (fun h _ r a ha => (akB.mp ha).elim (fun q => ⟨_, q ▸ h⟩) (r a)) (fun _ r => r) (fun a ha => absurd ha akR) (fun _ _ h r a ha => (akC.mp ha).elim (h a) (r a)) (fun a ha => absurd ha akR) (fun _ _ h r a ha => (akC.mp ha).elim (h a) (r a)) (fun a ha => absurd ha akR) (fun _ _ h r a ha => (akC.mp ha).elim (h a) (r a)) h
theorem bR.fc {H Z Z' : Hp} (e : aG Z Z') {t : T} {v : V} {fp : List Addr} (k : ∀ a ∈ fp, Z' a = H a) (h : bR K CL H Z t v fp) : bM K CL Z' t.fc v :=
 bR.rec (motive_1 := fun t v fp _ => (∀ a ∈ fp, Z' a = H a) -> bM K CL Z' t.fc v) (motive_2 := fun t v fp _ => (∀ a ∈ fp, Z' a = H a) -> aD K CL Z' (T.iO t) v) (motive_3 := fun t v fp _ => (∀ a ∈ fp, Z' a = H a) -> iF K CL Z' (T.jB t) v) (motive_4 := fun t v fp _ => (∀ a ∈ fp, Z' a = H a) -> vF K CL Z' (T.Ro t) v)
   (fun h _ => by rw [T.fc]; exact h.mono e) (fun h _ r k => by rw [T.fc]; exact .tup (wX.of (e _ _ h)) (r k)) (fun h _ r k => by rw [T.fc]; exact .lst (mC.of ((k _ akA).trans h)) (r fun a ha => k a (akE _ ha))) (fun h _ r k => by rw [T.fc]; exact .ins ((k _ akA).trans h) (r fun a ha => k a (akE _ ha))) (fun h f k => by rw [T.fc]; exact .oj ((k _ akA).trans h) (bO.mono e f)) (fun h _ r k => by rw [T.fc]; exact .dct ((k _ akA).trans h) (r fun a ha => k a (akE _ ha))) (fun _ r k => by rw [T.fc]; exact r k) (fun _ => by rw [T.iO]; exact .nil) (fun _ _ h r k => by rw [T.iO]; exact .cons (h fun a ha => k a (akF _ ha)) (r fun a ha => k a (aky _ ha))) (fun _ => by rw [T.jB]; exact .nil) (fun _ _ h r k => by rw [T.jB]; exact .cons (h fun a ha => k a (akF _ ha)) (r fun a ha => k a (aky _ ha))) (fun _ => by rw [T.Ro]; exact .nil) (fun _ _ h r k => by rw [T.Ro]; exact .cons (h fun a ha => k a (akF _ ha)) (r fun a ha => k a (aky _ ha))) h k
theorem aD.ind {Z : Hp} {P : List D -> List V -> Prop} (n : P [] []) (c : ∀ {d : D} {v : V} {ds : List D} {vs : List V}, bM K CL Z d v -> aD K CL Z ds vs -> P ds vs -> P (d :: ds) (v :: vs)) {ds : List D} {vs : List V} (h : aD K CL Z ds vs) : P ds vs :=
 aD.rec (motive_1 := fun _ _ _ => True) (motive_2 := fun d v _ => P d v) (motive_3 := fun _ _ _ => True) (motive_4 := fun _ _ _ => True) (motive_5 := fun _ _ _ => True)
   trivial (fun _ => trivial) (fun _ => trivial) (fun _ => trivial) (fun _ => trivial) (fun _ => trivial) (fun _ _ _ => trivial) (fun _ _ _ => trivial) (fun _ _ _ => trivial) (fun _ _ _ => trivial) (fun _ _ _ => trivial) n (fun a b _ i => c a b i) trivial (fun _ _ _ _ => trivial) trivial (fun _ _ _ _ => trivial) trivial (fun _ _ _ _ => trivial) h
theorem bO.ind {Z : Hp} {P : List (Key × D) -> List (Key × V) -> Prop} (n : P [] []) (c : ∀ {x : Key} {d : D} {v : V} {ds : List (Key × D)} {vs : List (Key × V)}, bM K CL Z d v -> bO K CL Z ds vs -> P ds vs -> P ((x, d) :: ds) ((x, v) :: vs)) {ds : List (Key × D)} {vs : List (Key × V)} (h : bO K CL Z ds vs) : P ds vs :=
 bO.rec (motive_1 := fun _ _ _ => True) (motive_2 := fun _ _ _ => True) (motive_3 := fun _ _ _ => True) (motive_4 := fun d v _ => P d v) (motive_5 := fun _ _ _ => True)
   trivial (fun _ => trivial) (fun _ => trivial) (fun _ => trivial) (fun _ => trivial) (fun _ => trivial) (fun _ _ _ => trivial) (fun _ _ _ => trivial) (fun _ _ _ => trivial) (fun _ _ _ => trivial) (fun _ _ _ => trivial) trivial (fun _ _ _ _ => trivial) trivial (fun _ _ _ _ => trivial) n (fun a b _ i => c a b i) trivial (fun _ _ _ _ => trivial) h
theorem aL.ind {H Z : Hp} {P : List T -> List V -> List Addr -> Prop} (n : P [] [] []) (c : ∀ {t : T} {v : V} {ts : List T} {vs : List V} {fp gp : List Addr}, bR K CL H Z t v fp -> aL K CL H Z ts vs gp -> P ts vs gp -> P (t :: ts) (v :: vs) (fp ++ gp)) {ts : List T} {vs : List V} {fp : List Addr} (h : aL K CL H Z ts vs fp) : P ts vs fp :=
 aL.rec (motive_1 := fun _ _ _ _ => True) (motive_2 := fun d v f _ => P d v f) (motive_3 := fun _ _ _ _ => True) (motive_4 := fun _ _ _ _ => True)
   (fun _ => trivial) (fun _ _ _ => trivial) (fun _ _ _ => trivial) (fun _ _ _ => trivial) (fun _ _ => trivial) (fun _ _ _ => trivial) (fun _ _ => trivial) n (fun a b _ i => c a b i) trivial (fun _ _ _ _ => trivial) trivial (fun _ _ _ _ => trivial) h
theorem cQ.ind {H Z : Hp} {P : List (Str × T) -> List (Str × V) -> List Addr -> Prop} (n : P [] [] []) (c : ∀ {x : Str} {t : T} {v : V} {ts : List (Str × T)} {vs : List (Str × V)} {fp gp : List Addr}, bR K CL H Z t v fp -> cQ K CL H Z ts vs gp -> P ts vs gp -> P ((x, t) :: ts) ((x, v) :: vs) (fp ++ gp)) {ts : List (Str × T)} {vs : List (Str × V)} {fp : List Addr} (h : cQ K CL H Z ts vs fp) : P ts vs fp :=
 cQ.rec (motive_1 := fun _ _ _ _ => True) (motive_2 := fun _ _ _ _ => True) (motive_3 := fun d v f _ => P d v f) (motive_4 := fun _ _ _ _ => True)
   (fun _ => trivial) (fun _ _ _ => trivial) (fun _ _ _ => trivial) (fun _ _ _ => trivial) (fun _ _ => trivial) (fun _ _ _ => trivial) (fun _ _ => trivial) trivial (fun _ _ _ _ => trivial) n (fun a b _ i => c a b i) trivial (fun _ _ _ _ => trivial) h
theorem aD.length {Z : Hp} {d : List D} {v : List V} (h : aD K CL Z d v) : d.length = v.length :=
 aD.ind (P := fun d v => d.length = v.length) rfl (fun _ _ i => congrArg (· + 1) i) h
theorem aL.length {H Z : Hp} {d : List T} {v : List V} {fp : List Addr} (h : aL K CL H Z d v fp) : d.length = v.length :=
 aL.ind (P := fun d v _ => d.length = v.length) rfl (fun _ _ i => congrArg (· + 1) i) h
theorem aD.get {Z : Hp} : ∀ {ds : List D} {vs : List V} {i : Nat} {d : D}, aD K CL Z ds vs -> ds[i]? = some d -> ∃ v, vs[i]? = some v /\ bM K CL Z d v
 | _, _, _, _, .nil, e => by simp at e
 | _, _, 0, _, .cons r _, e => by simp at e; subst e; exact ⟨_, rfl, r⟩
 | _, _, i + 1, d, .cons _ t, e => by
   obtain ⟨u, h1, h2⟩ := aD.get (i := i) (d := d) t (by simpa using e)
   exact ⟨u, by simpa using h1, h2⟩
theorem aD.Rq {Z : Hp} : ∀ {ds : List D} {vs : List V} {i : Nat} {v : V}, aD K CL Z ds vs -> vs[i]? = some v -> ∃ d, ds[i]? = some d /\ bM K CL Z d v
 | _, _, _, _, .nil, e => by simp at e
 | _, _, 0, _, .cons r _, e => by simp at e; subst e; exact ⟨_, rfl, r⟩
 | _, _, i + 1, d, .cons _ t, e => by
   obtain ⟨u, h1, h2⟩ := aD.Rq (i := i) (v := d) t (by simpa using e)
   exact ⟨u, by simpa using h1, h2⟩
theorem eN.get {H Z : Hp} : ∀ {δ : List (Option T)} {σ : L2.St} {fp : List Addr} {i : Nat} {t : T}, eN K CL H Z δ σ fp -> δ[i]? = some (some t) →
   ∃ v f1 f2 f3, σ[i]? = some (some v) /\ fp = f1 ++ (f2 ++ f3) /\ bR K CL H Z t v f2 ∧
     (∀ {H' Z' : Hp} {t' : T} {v' : V} {g : List Addr}, aG Z Z' -> (∀ a ∈ f1 ++ f3, H' a = H a) -> bR K CL H' Z' t' v' g -> eN K CL H' Z' (δ.set i (some t')) (σ.set i (some v')) (f1 ++ (g ++ f3))) ∧
     (∀ {o : Option V}, eN K CL H Z (δ.set i none) (σ.set i o) (f1 ++ f3)) := by
 intro δ σ fp i t h
 have mono : ∀ {H H' Z Z' : Hp} {δ : List (Option T)} {σ : L2.St} {fp : List Addr}, aG Z Z' -> (∀ a ∈ fp, H' a = H a) -> eN K CL H Z δ σ fp -> eN K CL H' Z' δ σ fp := by
   intro H H' Z Z' δ σ fp e k r
   induction r with
   | nil => exact .nil
   | skip _ ih => exact .skip (ih k)
   | cons r _ ih => exact .cons (r.mono e fun a ha => k a (akF _ ha)) (ih fun a ha => k a (aky _ ha))
 induction h generalizing i with
 | nil => intro e; simp at e
 | @skip o δ σ fp r ih =>
   cases i with
   | zero => intro e; simp at e
   | succ i =>
     intro e
     obtain ⟨v, f1, f2, f3, h1, h2, h3, h4, h5⟩ := ih (i := i) (by simpa using e)
     exact ⟨v, f1, f2, f3, by simpa using h1, h2, h3, fun e k q => .skip (h4 e k q), .skip h5⟩
 | @cons t0 v0 δ σ fp gp r0 r ih =>
   cases i with
   | zero =>
     intro e
     simp at e
     subst e
     refine ⟨v0, [], fp, gp, rfl, rfl, r0, fun {H' Z' t' v' g} e k q => eN.cons (fp := g) (gp := gp) q (mono (fp := gp) e (fun a ha => k a (by simpa using ha)) r), .skip (by simpa using r)⟩
   | succ i =>
     intro e
     obtain ⟨v, f1, f2, f3, h1, h2, h3, h4, h5⟩ := ih (i := i) (by simpa using e)
     refine ⟨v, fp ++ f1, f2, f3, by simpa using h1, by rw [h2, List.append_assoc], h3, fun {H' Z' t' v' g} e k q => ?_, fun {o} => ?_⟩
     . rw [akx]
       exact .cons (r0.mono e fun a ha => k a (by simp [ha])) (h4 e (fun a ha => k a (by rw [akx]; exact aky _ ha)) q)
     . rw [akx]
       exact .cons r0 h5
theorem eN.mono {H H' Z Z' : Hp} {δ : List (Option T)} {σ : L2.St} {fp : List Addr} (e : aG Z Z') (k : ∀ a ∈ fp, H' a = H a) (r : eN K CL H Z δ σ fp) : eN K CL H' Z' δ σ fp := by
 induction r with
 | nil => exact .nil
 | skip _ ih => exact .skip (ih k)
 | cons r _ ih => exact .cons (r.mono e fun a ha => k a (akF _ ha)) (ih fun a ha => k a (aky _ ha))
theorem eN.there {H Z : Hp} {δ : List (Option T)} {σ : L2.St} {fp : List Addr} (r : eN K CL H Z δ σ fp) : ∀ a ∈ fp, ∃ o, H a = some o := by
 induction r with
 | nil => intro a ha; cases ha
 | skip _ ih => exact ih
 | cons r _ ih => exact fun a ha => (akC.mp ha).elim (r.there a) (ih a)
theorem eN.put {H Z : Hp} {δ : List (Option T)} {σ : L2.St} {fp : List Addr} (r : eN K CL H Z δ σ fp) {t : T} {v : V} {g : List Addr} (q : bR K CL H Z t v g) :
   ∀ {i : Nat}, i < δ.length -> ∃ f, eN K CL H Z (δ.set i (some t)) (σ.set i (some v)) f /\ ∃ f', f'.Sublist fp /\ f.Perm (g ++ f') := by
 induction r with
 | nil => intro i hi; simp at hi
 | @skip o δ σ fp r ih =>
   intro i hi
   cases i with
   | zero => exact ⟨g ++ fp, .cons q r, fp, ak6 _, amo _⟩
   | succ i =>
     obtain ⟨f, h1, f', h2, h3⟩ := ih (i := i) (by simpa using hi)
     exact ⟨f, .skip h1, f', h2, h3⟩
 | @cons t0 v0 δ σ fp gp r0 r ih =>
   intro i hi
   cases i with
   | zero => exact ⟨g ++ gp, .cons q r, gp, als _ _, amo _⟩
   | succ i =>
     obtain ⟨f, h1, f', h2, h3⟩ := ih (i := i) (by simpa using hi)
     refine ⟨fp ++ f, .cons r0 h1, fp ++ f', ak4 (ak6 _) h2, ?_⟩
     refine (ak8 fp h3).trans ?_
     rw [← akx, ← akx]
     exact List.Perm.append_right f' akY
end
noncomputable def Ca (X : Cx) (e : Expr) : TE := fun σ H Q => ∀ (pins : List (Addr × Obj)) (s : Shared), Inv X pins σ H s -> wpAny (model X.prog X.w) X.A (eval e X.env) (EP X pins σ Q) X.xe s
noncomputable def Rr (X : Cx) (e : Expr) : TT := fun σ H Q => ∀ (pins : List (Addr × Obj)) (s : Shared), Inv X pins σ H s -> wpAny (model X.prog X.w) X.A (isTrue e X.env (eval e X.env)) (TP X pins σ Q) X.xe s
noncomputable def OX (X : Cx) (es : List Expr) : TA := fun σ H Q => ∀ (pos : Pos) (pins : List (Addr × Obj)) (s : Shared), Inv X pins σ H s -> wpAny (model X.prog X.w) X.A (spliced (backTo pos (starEach es X.env))) (AP X pins σ Q) X.xe s
noncomputable def aa8 (X : Cx) (st : Stmt) : TS := fun D σ H => ∀ (pins : List (Addr × Obj)) (s : Shared), Inv X pins σ H s -> wpAny (model X.prog X.w) X.A (exec st X.env) (SP X pins D) X.xe s
noncomputable def aa9 (X : Cx) (st : List Stmt) : TS := fun D σ H => ∀ (pins : List (Addr × Obj)) (s : Shared), Inv X pins σ H s -> wpAny (model X.prog X.w) X.A (execs st X.env) (SP X pins D) X.xe s
section
variable {X : Cx}
theorem dW {e : Expr} : PE X e (Ca X e) := fun pins s _ _ _ I h => h pins s I
theorem V5 {e : Expr} : PT X e (Rr X e) := fun pins s _ _ _ I h => h pins s I
theorem Ex {e : List Expr} : PA X e (OX X e) := fun pos pins s _ _ _ I h => h pos pins s I
theorem psS {e : Stmt} : PS X e (aa8 X e) := fun pins s _ _ _ I h => h pins s I
theorem QD {e : List Stmt} : J6 X e (aa9 X e) := fun pins s _ _ _ I h => h pins s I
theorem cL {e : Expr} {t : TE} (h : PE X e t) {σ : L2.St} {H : Hp} {Q : VK} (q : t σ H Q) : Ca X e σ H Q := fun pins s I => h pins s σ H Q I q
theorem HR {e : Expr} {t : TT} (h : PT X e t) {σ : L2.St} {H : Hp} {Q : Bool -> Hp -> Prop} (q : t σ H Q) : Rr X e σ H Q := fun pins s I => h pins s σ H Q I q
theorem Cb {e : List Expr} {t : TA} (h : PA X e t) {σ : L2.St} {H : Hp} {Q : List V -> Hp -> Prop} (q : t σ H Q) : OX X e σ H Q := fun pos pins s I => h pos pins s σ H Q I q
theorem om {e : Stmt} {t : TS} (h : PS X e t) {σ : L2.St} {H : Hp} {D : Ends} (q : t D σ H) : aa8 X e D σ H := fun pins s I => h pins s σ H D I q
theorem adY {e : List Stmt} {t : TS} (h : J6 X e t) {σ : L2.St} {H : Hp} {D : Ends} (q : t D σ H) : aa9 X e D σ H := fun pins s I => h pins s σ H D I q
end
noncomputable def notStar : Expr -> Bool
 | .Starred _ _ => false
 | _ => true
theorem bw {e : Expr} {es : List Expr} {env : Env} (h : notStar e = true) : starEach (e :: es) env = (false, eval e env) :: starEach es env := by
 cases e <;> first | rfl | (cases h)
structure Bx where
 B : Hp
 Z : Hp
noncomputable def j6 : HO -> Bool
 | .tup _ => true
 | .fc _ _ => true
 | _ => false
noncomputable def HS (x : Str) : Bool := x.cps[0]? == some 35
noncomputable def Kw (x : Str) : Str := ⟨x.cps.extract 1 x.cps.size⟩
noncomputable def oW (CL : Str -> Addr) (Z : Hp) : Prop := ∀ x, HS x = true -> CL x ≠ 0 -> Z (CL x) = some (.tabs (Kw x))
structure bA (K : PySem.W.Frag) (CL : Str -> Addr) (b : Bx) (H Z : Hp) (δ : List (Option T)) (σ : L2.St) (ts : List T) (vs : List V) : Prop where
 rep : ∃ fp gp, eN K CL H Z δ σ fp /\ aL K CL H Z ts vs gp /\ (fp ++ gp).Nodup /\ ∀ a ∈ fp ++ gp, Z a = none /\ b.B a = none
 bh : aG b.B H
 zz : aG b.Z Z
 zh : aG Z H
 new : ∀ a o, Z a = some o -> b.Z a = none -> b.B a = none
 tp : ∀ a o, H a = some o -> j6 o = true -> Z a = some o
 tab : oW CL b.Z
section
variable {K : PySem.W.Frag} {CL : Str -> Addr} {b : Bx} {H H' Z Z' : Hp} {δ δ' : List (Option T)} {σ σ' : L2.St} {ts ts' : List T} {vs vs' : List V} {t : T} {v : V}
theorem oW.mono {A B : Hp} (h : oW CL A) (e : aG A B) : oW CL B := fun x hx h0 => e _ _ (h x hx h0)
theorem bA.Rt (S : bA K CL b H Z δ σ ts vs) : oW CL Z := S.tab.mono S.zz
theorem bA.HV (S : bA K CL b H Z δ σ ts vs) : oW CL H := S.Rt.mono S.zh
theorem Kx {A B : Hp} (e : aG A B) {a : Addr} (h : B a = none) : A a = none := e.free h
theorem aG.upd {H : Hp} {p : Addr} {o : HO} (h : H p = none) : aG H (upd H p o) := fun b u e => by rw [az (aK e h)]; exact e
theorem bA.view (S : bA K CL b H Z δ σ (t :: ts) (v :: vs)) : bM K CL H t.fc v := by
 obtain ⟨fp, gp, _, r, _, _⟩ := S.rep
 cases r with
 | cons r _ => exact r.fc S.zh fun _ _ => rfl
theorem bA.pop (S : bA K CL b H Z δ σ (t :: ts) (v :: vs)) : bA K CL b H Z δ σ ts vs := by
 obtain ⟨fp, gp, e, r, nd, k⟩ := S.rep
 cases r with
 | @cons _ _ _ _ f1 f2 r1 r2 =>
   refine ⟨⟨fp, f2, e, r2, nd.sublist (ak4 (ak6 _) (als _ _)), fun a ha => k a ?_⟩, S.bh, S.zz, S.zh, S.new, S.tp, S.tab⟩
   rcases akC.mp ha with h | h
   . exact akF _ h
   . exact aky _ (aky _ h)
theorem bA.push {d : D} (S : bA K CL b H Z δ σ ts vs) (r : bM K CL Z d v) : bA K CL b H Z δ σ (.sh d :: ts) (v :: vs) := by
 obtain ⟨fp, gp, e, r2, nd, k⟩ := S.rep
 exact ⟨⟨fp, [] ++ gp, e, .cons (.sh r) r2, nd, k⟩, S.bh, S.zz, S.zh, S.new, S.tp, S.tab⟩
theorem bA.Ru (S : bA K CL b H Z δ σ (t :: ts) (v :: vs)) : ∃ Z', aG Z Z' /\ bA K CL b H Z' δ σ (.sh t.fc :: ts) (v :: vs) := by
 classical
 obtain ⟨fp, gp, e, r, nd, k⟩ := S.rep
 cases r with
 | @cons _ _ _ _ f1 f2 r1 r2 =>
   have nZ : ∀ a ∈ f1, Z a = none /\ b.B a = none := fun a ha => k a (aky _ (akF _ ha))
   have sz : aG Z (fun a => if a ∈ f1 then H a else Z a) := fun a o q => by
     by_cases ha : a ∈ f1
     . rw [(nZ a ha).1] at q; cases q
     . show (if a ∈ f1 then H a else Z a) = some o
       rw [akH ha]; exact q
   have nd1 := ak5.mp nd
   have dj : ∀ a ∈ fp ++ f2, a ∉ f1 := fun a ha h1 => by
     rcases akC.mp ha with h | h
     . exact nd1.2.2 a h a (akF _ h1) rfl
     . exact (ak5.mp nd1.2.1).2.2 a h1 a h rfl
   refine ⟨fun a => if a ∈ f1 then H a else Z a, sz, ⟨⟨fp, [] ++ f2, e.mono sz (fun _ _ => rfl), .cons (.sh (r1.fc sz fun a ha => akJ ha)) (r2.mono sz fun _ _ => rfl), ?_, fun a ha => ?_⟩, S.bh, S.zz.trans sz, fun a o q => ?_, fun a o q z => ?_, fun a o q i => ?_, S.tab⟩⟩
   . exact nd.sublist (ak4 (ak6 _) (als _ _))
   . have Rw : a ∈ fp ++ f2 := ha
     refine ⟨?_, (k a ?_).2⟩
     . show (if a ∈ f1 then H a else Z a) = none
       rw [akH (dj a Rw)]
       refine (k a ?_).1
       rcases akC.mp Rw with h | h
       . exact akF _ h
       . exact aky _ (aky _ h)
     . rcases akC.mp Rw with h | h
       . exact akF _ h
       . exact aky _ (aky _ h)
   . have q' : (if a ∈ f1 then H a else Z a) = some o := q
     by_cases ha : a ∈ f1
     . rw [akJ ha] at q'; exact q'
     . rw [akH ha] at q'; exact S.zh a o q'
   . have q' : (if a ∈ f1 then H a else Z a) = some o := q
     by_cases ha : a ∈ f1
     . exact (nZ a ha).2
     . rw [akH ha] at q'; exact S.new a o q' z
   . exact sz a o (S.tp a o q i)
theorem bA.V6 {i : Nat} (S : bA K CL b H Z δ σ ts vs) (hi : δ[i]? = some (some t)) : ∃ v Z', σ[i]? = some (some v) /\ aG Z Z' /\ bA K CL b H Z' (δ.set i (some (.sh t.fc))) σ (.sh t.fc :: ts) (v :: vs) := by
 classical
 obtain ⟨fp, gp, e, r, nd, k⟩ := S.rep
 obtain ⟨v, f1, f2, f3, hv, qF, rt, put, _⟩ := e.get hi
 subst qF
 have nZ : ∀ a ∈ f2, Z a = none /\ b.B a = none := fun a ha => k a (by simp [ha])
 have sz : aG Z (fun a => if a ∈ f2 then H a else Z a) := fun a o q => by
   by_cases ha : a ∈ f2
   . rw [(nZ a ha).1] at q; cases q
   . show (if a ∈ f2 then H a else Z a) = some o
     rw [akH ha]; exact q
 have dj : ∀ a ∈ (f1 ++ f3) ++ gp, a ∉ f2 := fun a ha h2 => by
   have hp : ((f1 ++ (f2 ++ f3)) ++ gp).Perm (f2 ++ ((f1 ++ f3) ++ gp)) := by
     rw [← akx, ← akx]
     refine (List.perm_append_right_iff gp).mpr ?_
     rw [← akx]
     exact (List.perm_append_right_iff f3).mpr akY
   exact (ak5.mp (hp.nodup_iff.mp nd)).2.2 a h2 a ha rfl
 have rF : bM K CL (fun a => if a ∈ f2 then H a else Z a) t.fc v := rt.fc sz fun a ha => akJ ha
 have abb : σ.set i (some v) = σ := by
   apply al4
   intro j
   rw [List.getElem?_set]
   split
   . rename_i h; subst h
     split
     . exact hv.symm
     . rename_i h2; rw [alB (by omega)]
   . rfl
 have e2 : eN K CL H (fun a => if a ∈ f2 then H a else Z a) (δ.set i (some (.sh t.fc))) σ (f1 ++ ([] ++ f3)) := by
   have := put (H' := H) (t' := .sh t.fc) (v' := v) (g := []) sz (fun _ _ => rfl) (.sh rF)
   rwa [abb] at this
 refine ⟨v, fun a => if a ∈ f2 then H a else Z a, hv, sz, ⟨⟨f1 ++ ([] ++ f3), [] ++ gp, e2, .cons (.sh rF) (r.mono sz fun _ _ => rfl), ?_, fun a ha => ?_⟩, S.bh, S.zz.trans sz, fun a o q => ?_, fun a o q z => ?_, fun a o q i => sz a o (S.tp a o q i), S.tab⟩⟩
 . exact nd.sublist (ak4 (ak4 (ak6 _) (als _ _)) (ak6 _))
 . have Rw : a ∈ (f1 ++ f3) ++ gp := ha
   have hm : a ∈ (f1 ++ (f2 ++ f3)) ++ gp := by
     simp only [akC] at Rw ⊢
     rcases Rw with (h | h) | h
     . exact .inl (.inl h)
     . exact .inl (.inr (.inr h))
     . exact .inr h
   refine ⟨?_, (k a hm).2⟩
   show (if a ∈ f2 then H a else Z a) = none
   rw [akH (dj a Rw)]
   exact (k a hm).1
 . have q' : (if a ∈ f2 then H a else Z a) = some o := q
   by_cases ha : a ∈ f2
   . rw [akJ ha] at q'; exact q'
   . rw [akH ha] at q'; exact S.zh a o q'
 . have q' : (if a ∈ f2 then H a else Z a) = some o := q
   by_cases ha : a ∈ f2
   . exact (nZ a ha).2
   . rw [akH ha] at q'; exact S.new a o q' z
theorem bA.move {i : Nat} (S : bA K CL b H Z δ σ ts vs) (hi : δ[i]? = some (some t)) : ∃ v, σ[i]? = some (some v) /\ bA K CL b H Z (δ.set i none) σ (t :: ts) (v :: vs) := by
 obtain ⟨fp, gp, e, r, nd, k⟩ := S.rep
 obtain ⟨v, f1, f2, f3, hv, qF, rt, _, del⟩ := e.get hi
 subst qF
 have abb : σ.set i (some v) = σ := by
   apply al4
   intro j
   rw [List.getElem?_set]
   split
   . rename_i h; subst h
     split
     . exact hv.symm
     . rename_i h2; rw [alB (by omega)]
   . rfl
 have hp : ((f1 ++ (f2 ++ f3)) ++ gp).Perm ((f1 ++ f3) ++ (f2 ++ gp)) := by
   have h1 : (f2 ++ f3).Perm (f3 ++ f2) := akY
   have h2 := (ak8 f1 h1).append_right gp
   simp only [akx] at h2 ⊢
   exact h2
 refine ⟨v, hv, ⟨⟨f1 ++ f3, f2 ++ gp, ?_, .cons rt r, hp.nodup_iff.mp nd, fun a ha => k a (hp.mem_iff.mpr ha)⟩, S.bh, S.zz, S.zh, S.new, S.tp, S.tab⟩⟩
 have := del (o := some v)
 rwa [abb] at this
theorem bA.look {i : Nat} (S : bA K CL b H Z δ σ ts vs) (hi : δ[i]? = some (some t)) : ∃ v, σ[i]? = some (some v) /\ bM K CL H t.fc v := by
 obtain ⟨fp, gp, e, r, nd, k⟩ := S.rep
 obtain ⟨v, f1, f2, f3, hv, qF, rt, _, _⟩ := e.get hi
 exact ⟨v, hv, rt.fc S.zh fun _ _ => rfl⟩
theorem bA.Rx {i : Nat} {d : D} (S : bA K CL b H Z δ σ ts vs) (hi : δ[i]? = some (some (.sh d))) : ∃ v, σ[i]? = some (some v) /\ bM K CL Z d v := by
 obtain ⟨fp, gp, e, r, nd, k⟩ := S.rep
 obtain ⟨v, f1, f2, f3, hv, qF, rt, _, _⟩ := e.get hi
 cases rt with
 | sh h => exact ⟨v, hv, h⟩
theorem bA.set {i : Nat} (S : bA K CL b H Z δ σ (t :: ts) (v :: vs)) (hi : i < δ.length) : bA K CL b H Z (δ.set i (some t)) (σ.set i (some v)) ts vs := by
 obtain ⟨fp, gp, e, r, nd, k⟩ := S.rep
 cases r with
 | @cons _ _ _ _ f1 f2 r1 r2 =>
   obtain ⟨f, h1, f', h2, h3⟩ := e.put r1 hi
   have hp : (f ++ f2).Perm (f' ++ (f1 ++ f2)) := by
     refine (h3.append_right f2).trans ?_
     rw [← akx]
     exact akY.append_right f2
   have Ry : (f' ++ (f1 ++ f2)).Sublist (fp ++ (f1 ++ f2)) := ak4 h2 (ak6 _)
   exact ⟨⟨f, f2, h1, r2, hp.nodup_iff.mpr (nd.sublist Ry), fun a ha => k a (Ry.subset (hp.mem_iff.mp ha))⟩, S.bh, S.zz, S.zh, S.new, S.tp, S.tab⟩
end
mutual
noncomputable def D.m5 : D -> Bool
 | .tup ds => D.bS ds
 | .lst _ => false
 | .ins _ _ => false
 | .oj _ => false
 | .dct _ => false
 | .any => false
 | _ => true
noncomputable def D.bS : List D -> Bool
 | [] => true
 | d :: ds => d.m5 && D.bS ds
end
mutual
noncomputable def T.clean : T -> Bool
 | .sh d => d.m5
 | .tup ts => T.bV ts
 | .lst ts => T.bV ts
 | .ins _ fs => T.cM fs
 | .oj kvs => D.bS (kvs.map (·.2))
 | .dct kvs => T.Ey kvs
 | .pin _ t => t.clean
noncomputable def T.bV : List T -> Bool
 | [] => true
 | t :: ts => t.clean && T.bV ts
noncomputable def T.cM : List (Str × T) -> Bool
 | [] => true
 | (_, t) :: ts => t.clean && T.cM ts
noncomputable def T.Ey : List (List Key × T) -> Bool
 | [] => true
 | (_, t) :: ts => t.clean && T.Ey ts
end
noncomputable def cJ (X : Cx) (CL : Str -> Addr) (b : Bx) (e : Expr) (δ : List (Option T)) (t : T) (δ' : List (Option T)) : Prop :=
 ∀ (H Z : Hp) (σ : L2.St) (ts : List T) (vs : List V) (Q : VK), bA X.K CL b H Z δ σ ts vs -> (∀ v H' Z', aG Z Z' -> aG H H' -> bA X.K CL b H' Z' δ' σ (t :: ts) (v :: vs) -> Q v H') -> Ca X e σ H Q
noncomputable def dU (X : Cx) (CL : Str -> Addr) (b : Bx) (e : Expr) (δ : List (Option T)) (d : D) (δ' : List (Option T)) : Prop :=
 ∀ (H Z : Hp) (σ : L2.St) (ts : List T) (vs : List V) (Q : VK), bA X.K CL b H Z δ σ ts vs -> (∀ v H' Z', aG Z Z' -> aG H H' -> bA X.K CL b H' Z' δ' σ ts vs -> bM X.K CL H' d v -> Q v H') -> Ca X e σ H Q
noncomputable def yw (X : Cx) (CL : Str -> Addr) (b : Bx) (e : Expr) (δ : List (Option T)) (p : Bool) (δ' : List (Option T)) : Prop :=
 ∀ (H Z : Hp) (σ : L2.St) (ts : List T) (vs : List V) (Q : Bool -> Hp -> Prop), bA X.K CL b H Z δ σ ts vs -> (∀ H' Z', aG Z Z' -> aG H H' -> bA X.K CL b H' Z' δ' σ ts vs -> Q p H') -> Rr X e σ H Q
noncomputable def Nk (X : Cx) (CL : Str -> Addr) (b : Bx) (es : List Expr) (δ : List (Option T)) (tl : List T) (δ' : List (Option T)) : Prop :=
 ∀ (H Z : Hp) (σ : L2.St) (ts : List T) (vs : List V) (Q : List V -> Hp -> Prop), bA X.K CL b H Z δ σ ts vs →
   (∀ us H' Z', us.length = tl.length -> aG Z Z' -> aG H H' -> bA X.K CL b H' Z' δ' σ (tl.reverse ++ ts) (us.reverse ++ vs) -> Q us H') -> OX X es σ H Q
noncomputable def OY (X : Cx) (CL : Str -> Addr) (b : Bx) (es : List Expr) (δ : List (Option T)) (ds : List D) (δ' : List (Option T)) : Prop :=
 ∀ (H Z : Hp) (σ : L2.St) (ts : List T) (vs : List V) (Q : List V -> Hp -> Prop), bA X.K CL b H Z δ σ ts vs →
   (∀ us H' Z', aG Z Z' -> aG H H' -> bA X.K CL b H' Z' δ' σ ts vs -> aD X.K CL H' ds us -> Q us H') -> OX X es σ H Q
structure cE where
 nx : List (Option T) -> Prop
 rt : T -> List (Option T) -> Prop
 bk : List (Option T) -> Prop := fun _ => False
 ct : List (Option T) -> Prop := fun _ => False
structure Meets (K : PySem.W.Frag) (CL : Str -> Addr) (b : Bx) (Z : Hp) (ts : List T) (vs : List V) (D : cE) (E : Ends) : Prop where
 nx : ∀ δ' σ' H' Z', aG Z Z' -> bA K CL b H' Z' δ' σ' ts vs -> D.nx δ' -> E.nx σ' H'
 rt : ∀ t v H' Z' δ' σ', aG Z Z' -> bA K CL b H' Z' δ' σ' (t :: ts) (v :: vs) -> D.rt t δ' -> E.rt v H'
 bk : ∀ δ' σ' H' Z', aG Z Z' -> bA K CL b H' Z' δ' σ' ts vs -> D.bk δ' -> E.bk σ' H'
 ct : ∀ δ' σ' H' Z', aG Z Z' -> bA K CL b H' Z' δ' σ' ts vs -> D.ct δ' -> E.ct σ' H'
noncomputable def OZ (X : Cx) (CL : Str -> Addr) (b : Bx) (st : Stmt) (δ : List (Option T)) (D : cE) : Prop :=
 ∀ (H Z : Hp) (σ : L2.St) (ts : List T) (vs : List V) (E : Ends), bA X.K CL b H Z δ σ ts vs -> Meets X.K CL b Z ts vs D E -> aa8 X st E σ H
noncomputable def eL (X : Cx) (CL : Str -> Addr) (b : Bx) (st : List Stmt) (δ : List (Option T)) (D : cE) : Prop :=
 ∀ (H Z : Hp) (σ : L2.St) (ts : List T) (vs : List V) (E : Ends), bA X.K CL b H Z δ σ ts vs -> Meets X.K CL b Z ts vs D E -> aa9 X st E σ H
section
variable {K : PySem.W.Frag} {CL : Str -> Addr} {b : Bx} {H H' Z Z' : Hp} {δ δ' : List (Option T)} {σ σ' : L2.St} {ts ts' : List T} {vs vs' : List V} {t : T} {v : V}
theorem Meets.mono {D : cE} {E : Ends} (M : Meets K CL b Z ts vs D E) (e : aG Z Z') : Meets K CL b Z' ts vs D E :=
 ⟨fun _ _ _ _ s => M.nx _ _ _ _ (e.trans s), fun _ _ _ _ _ _ s => M.rt _ _ _ _ _ _ (e.trans s), fun _ _ _ _ s => M.bk _ _ _ _ (e.trans s), fun _ _ _ _ s => M.ct _ _ _ _ (e.trans s)⟩
theorem Nm {a : Addr} {xs : List V} (zh : ∀ a o, H a = some o -> j6 o = true -> Z a = some o) (h : wX K H a xs) : wX K Z a xs := by
 rcases h with (h | ⟨o, h⟩) | h
 . exact .inl (.inl (zh _ _ h rfl))
 . exact .inl (.inr ⟨o, zh _ _ h rfl⟩)
 . exact .inr h
theorem bM.m5 (zh : ∀ a o, H a = some o -> j6 o = true -> Z a = some o) {d : D} {v : V} (k : d.m5 = true) (h : bM K CL H d v) : bM K CL Z d v :=
 bM.rec (motive_1 := fun d v _ => d.m5 = true -> bM K CL Z d v) (motive_2 := fun d v _ => D.bS d = true -> aD K CL Z d v) (motive_3 := fun d v _ => True) (motive_4 := fun d v _ => True) (motive_5 := fun d v _ => True)
   (fun _ => .non) (fun b _ => .bl b) (fun b _ => .int b) (fun b _ => .str b) (fun _ k => by rw [D.m5] at k; cases k) (fun b _ => .val b) (fun h _ r k => .tup (Nm zh h) (r (by rw [D.m5] at k; exact k))) (fun _ _ _ k => by rw [D.m5] at k; cases k) (fun _ _ _ k => by rw [D.m5] at k; cases k) (fun _ _ _ k => by rw [D.m5] at k; cases k) (fun _ _ _ k => by rw [D.m5] at k; cases k) (fun _ => .nil) (fun _ _ h r k => by rw [D.bS, alf] at k; exact .cons (h k.1) (r k.2)) trivial (fun _ _ _ _ => trivial) trivial (fun _ _ _ _ => trivial) trivial (fun _ _ _ _ => trivial) h k
theorem aD.m5 (zh : ∀ a o, H a = some o -> j6 o = true -> Z a = some o) {d : List D} {v : List V} (k : D.bS d = true) (h : aD K CL H d v) : aD K CL Z d v :=
 aD.rec (motive_1 := fun d v _ => d.m5 = true -> bM K CL Z d v) (motive_2 := fun d v _ => D.bS d = true -> aD K CL Z d v) (motive_3 := fun d v _ => True) (motive_4 := fun d v _ => True) (motive_5 := fun d v _ => True)
   (fun _ => .non) (fun b _ => .bl b) (fun b _ => .int b) (fun b _ => .str b) (fun _ k => by rw [D.m5] at k; cases k) (fun b _ => .val b) (fun h _ r k => .tup (Nm zh h) (r (by rw [D.m5] at k; exact k))) (fun _ _ _ k => by rw [D.m5] at k; cases k) (fun _ _ _ k => by rw [D.m5] at k; cases k) (fun _ _ _ k => by rw [D.m5] at k; cases k) (fun _ _ _ k => by rw [D.m5] at k; cases k) (fun _ => .nil) (fun _ _ h r k => by rw [D.bS, alf] at k; exact .cons (h k.1) (r k.2)) trivial (fun _ _ _ _ => trivial) trivial (fun _ _ _ _ => trivial) trivial (fun _ _ _ _ => trivial) h k
theorem bO.clean {Z1 : Hp} (zi : ∀ {d : D} {v : V}, d.m5 = true -> bM K CL Z1 d v -> bM K CL Z d v) {kvs : List (Key × D)} {gs : List (Key × V)} (k : D.bS (kvs.map (·.2)) = true) (h : bO K CL Z1 kvs gs) : bO K CL Z kvs gs :=
 bO.ind (P := fun kvs gs => D.bS (kvs.map (·.2)) = true -> bO K CL Z kvs gs) (fun _ => .nil) (fun h _ i k => by rw [akP, D.bS, alf] at k; exact .cons (zi k.1 h) (i k.2)) h k
theorem bR.clean {Z1 : Hp} (zh : ∀ a xs, Z1 a = some (.tup xs) -> Z a = some (.tup xs)) (zi : ∀ {d : D} {v : V}, d.m5 = true -> bM K CL Z1 d v -> bM K CL Z d v) {t : T} {v : V} {fp : List Addr} (k : t.clean = true) (h : bR K CL H Z1 t v fp) : bR K CL H Z t v fp :=
 bR.rec (motive_1 := fun t v fp _ => t.clean = true -> bR K CL H Z t v fp) (motive_2 := fun t v fp _ => T.bV t = true -> aL K CL H Z t v fp) (motive_3 := fun t v fp _ => T.cM t = true -> cQ K CL H Z t v fp) (motive_4 := fun t v fp _ => T.Ey t = true -> yu K CL H Z t v fp)
   (fun h k => .sh (zi (by rw [T.clean] at k; exact k) h)) (fun h _ r k => .tup (zh _ _ h) (r (by rw [T.clean] at k; exact k))) (fun h _ r k => .lst h (r (by rw [T.clean] at k; exact k))) (fun h _ r k => .ins h (r (by rw [T.clean] at k; exact k))) (fun h f k => .oj h (bO.clean zi (by rw [T.clean] at k; exact k) f)) (fun h _ r k => .dct h (r (by rw [T.clean] at k; exact k))) (fun _ r k => .pin (r (by rw [T.clean] at k; exact k))) (fun _ => .nil) (fun _ _ h r k => by rw [T.bV, alf] at k; exact .cons (h k.1) (r k.2)) (fun _ => .nil) (fun _ _ h r k => by rw [T.cM, alf] at k; exact .cons (h k.1) (r k.2)) (fun _ => .nil) (fun _ _ h r k => by rw [T.Ey, alf] at k; exact .cons (h k.1) (r k.2)) h k
theorem bA.back {W W' : Hp} {fp : List Addr} (S : bA K CL b H Z δ σ ts vs) (hh : aG H H') (zw : aG Z W) (ww : aG W W') (wh : aG W' H') (new : ∀ a o, W' a = some o -> W a = none -> H a = none)
   (tp : ∀ a o, H' a = some o -> j6 o = true -> W' a = some o) (r : bR K CL H' W' t v fp) (nd : fp.Nodup) (own : ∀ a ∈ fp, W' a = none /\ H a = none) (c : W = Z \/ t.clean = true) :
   ∃ Z', aG Z Z' /\ bA K CL b H' Z' δ σ (t :: ts) (v :: vs) := by
 classical
 let Z' : Hp := fun a => if (H a).isSome = true then Z a else W' a
 have zs : ∀ {a : Addr} {o : HO}, H a = some o -> Z' a = Z a := fun {a o} e => by
   show (if (H a).isSome = true then Z a else W' a) = Z a
   rw [akJ (by rw [e]; rfl)]
 have zn : ∀ {a : Addr}, H a = none -> Z' a = W' a := fun {a} e => by
   show (if (H a).isSome = true then Z a else W' a) = W' a
   rw [akH (by rw [e]; simp)]
 have sz : aG Z Z' := fun a o q => by rw [zs (S.zh a o q)]; exact q
 have zw' : ∀ a o, Z' a = some o -> W' a = some o := fun a o q => by
   cases e : H a with
   | none => rw [zn e] at q; exact q
   | some u => rw [zs e] at q; exact ww a o (zw a o q)
 have ztp : ∀ a o, H' a = some o -> j6 o = true -> Z' a = some o := fun a o q i => by
   cases e : H a with
   | none => rw [zn e]; exact tp a o q i
   | some u =>
     rw [zs e]
     have := hh a u e
     rw [q] at this; cases this
     exact S.tp a o e i
 have r' : bR K CL H' Z' t v fp := by
   rcases c with c | c
   . have : Z' = W' := by
       funext a
       cases e : H a with
       | none => exact zn e
       | some u =>
         rw [zs e]
         cases q : W' a with
         | none =>
           cases q2 : Z a with
           | none => rfl
           | some o => rw [ww a o (zw a o q2)] at q; cases q
         | some o =>
           cases q2 : W a with
           | none => rw [new a o q q2] at e; cases e
           | some o2 =>
             have := ww a o2 q2
             rw [q] at this; cases this
             rw [← c]; exact q2
     rw [this]; exact r
   . refine bR.clean (fun a xs h => ?_) (fun {d v} k h => ?_) c r
     . exact ztp a _ (wh a _ h) rfl
     . exact bM.m5 (H := H') ztp k (h.mono wh)
 obtain ⟨f0, g0, e0, r0, nd0, k0⟩ := S.rep
 have old : ∀ a ∈ f0 ++ g0, ∃ o, H a = some o := fun a ha => (akC.mp ha).elim (e0.there a) (r0.there a)
 have keep : ∀ a ∈ f0 ++ g0, H' a = H a := fun a ha => by
   obtain ⟨o, e⟩ := old a ha
   rw [e]; exact hh a o e
 refine ⟨Z', sz, ⟨⟨f0, fp ++ g0, e0.mono sz (fun a ha => keep a (akF _ ha)), .cons r' (r0.mono sz fun a ha => keep a (aky _ ha)), ?_, fun a ha => ?_⟩, S.bh.trans hh, S.zz.trans sz, fun a o q => wh a o (zw' a o q), fun a o q z => ?_, ztp, S.tab⟩⟩
 . have hp : (f0 ++ (fp ++ g0)).Perm (fp ++ (f0 ++ g0)) := by
     rw [← akx, ← akx]
     exact akY.append_right g0
   refine hp.nodup_iff.mpr (ak5.mpr ⟨nd, nd0, fun a ha c hc e => ?_⟩)
   subst e
   obtain ⟨o, q⟩ := old a hc
   rw [(own a ha).2] at q; cases q
 . have : a ∈ f0 ++ g0 \/ a ∈ fp := by
     simp only [akC] at ha ⊢
     rcases ha with h | h | h
     . exact .inl (.inl h)
     . exact .inr h
     . exact .inl (.inr h)
   rcases this with h | h
   . obtain ⟨o, q⟩ := old a h
     exact ⟨by rw [zs q]; exact (k0 a h).1, (k0 a h).2⟩
   . exact ⟨by rw [zn (own a h).2]; exact (own a h).1, S.bh.free (own a h).2⟩
 . cases e : H a with
   | none => exact S.bh.free e
   | some u => rw [zs e] at q; exact S.new a o q z
end
section
variable {X : Cx} {CL : Str -> Addr} {b : Bx} {δ δ1 δ2 δ3 : List (Option T)} {e e1 e2 : Expr} {t t1 t2 : T} {d d1 d2 : D} {pos : Pos}
theorem ZS (h : cJ X CL b e δ t δ1) : dU X CL b e δ t.fc δ1 := fun H Z σ ts vs Q S k => h H Z σ ts vs Q S fun v H' Z' z s S' => k v H' Z' z s S'.pop S'.view
theorem aq (h : cJ X CL b e δ (.sh d) δ1) : dU X CL b e δ d δ1 := by have := ZS h; rwa [T.fc] at this
theorem fP (h : dU X CL b e δ d δ1) (i : d.m5 = true) : cJ X CL b e δ (.sh d) δ1 := fun H Z σ ts vs Q S k => h H Z σ ts vs Q S fun v H' Z' z s S' r => k v H' Z' z s (S'.push (bM.m5 S'.tp i r))
theorem Ky (h : cJ X CL b e δ t δ1) : cJ X CL b e δ (.sh t.fc) δ1 := fun H Z σ ts vs Q S k => h H Z σ ts vs Q S fun v H' Z' z s S' => by
 obtain ⟨Z2, z2, S2⟩ := S'.Ru
 exact k v H' Z2 (z.trans z2) s S2
theorem aB {i : Int} {j : Nat} : cJ X CL b (.Constant (.int i) j pos) δ (.sh (.int i)) δ := fun H Z σ ts vs Q S k => cL J7 (k _ _ Z (.refl _) (.refl _) (S.push (.int i)))
theorem Nn {i : Bool} {j : Nat} : cJ X CL b (.Constant (.bool i) j pos) δ (.sh (.bl i)) δ := fun H Z σ ts vs Q S k => cL ZF (k _ _ Z (.refl _) (.refl _) (S.push (.bl i)))
theorem bf {x : Str} {j : Nat} : cJ X CL b (.Constant (.str x) j pos) δ (.sh (.str x)) δ := fun H Z σ ts vs Q S k => cL aay (k _ _ Z (.refl _) (.refl _) (S.push (.str x)))
section
variable (i : Nat) {x : Str} (hi : X.N[i]? = some x := by rfl) (hv : ZD X.env.scope x := by first | exact Or.inl rfl | exact Or.inr (Or.inl rfl) | exact Or.inr (Or.inr rfl)) (hd : (x == ("__debug__" : Str)) = false := by decide) (j4 : (x == ("__classdict__" : Str)) = false := by decide)
include hi hv hd j4
theorem abd (h : δ[i]? = some (some (.sh d)) := by rfl) : cJ X CL b (.Name x pos) δ (.sh d) δ := fun H Z σ ts vs Q S k => by
 obtain ⟨v, e, r⟩ := S.Rx h
 exact cL (iC hi hv hd j4) ⟨v, e, k v H Z (.refl _) (.refl _) (S.push r)⟩
theorem V7 (h : δ[i]? = some (some t) := by rfl) : cJ X CL b (.Name x pos) δ t (δ.set i none) := fun H Z σ ts vs Q S k => by
 obtain ⟨v, e, S'⟩ := S.move h
 exact cL (iC hi hv hd j4) ⟨v, e, k v H Z (.refl _) (.refl _) S'⟩
theorem abe (h : δ[i]? = some (some t) := by rfl) : dU X CL b (.Name x pos) δ t.fc δ := fun H Z σ ts vs Q S k => by
 obtain ⟨v, e, r⟩ := S.look h
 exact cL (iC hi hv hd j4) ⟨v, e, k v H Z (.refl _) (.refl _) S r⟩
end
noncomputable def scV : D -> Option V
 | .non => some .non
 | .bl b => some (.bl b)
 | .int i => some (.int i)
 | .str x => some (.str x)
 | _ => none
theorem bM.sc {K : PySem.W.Frag} {Z : Hp} {d : D} {v w : V} (r : bM K CL Z d v) (h : scV d = some w) : v = w := by
 cases r <;> first | (exact akU h) | (cases h)
theorem V8 {K : PySem.W.Frag} {Z : Hp} {d : D} {w : V} (h : scV d = some w) : bM K CL Z d w := by
 cases d <;> first | (cases h; constructor) | (cases h)
theorem uw {op : Operator} {r : R2} {w1 w2 w : V} (ho : yX X (binaryOp op) r) (h1 : dU X CL b e1 δ d1 δ1) (h2 : dU X CL b e2 δ1 d2 δ2) (s1 : scV d1 = some w1) (s2 : scV d2 = some w2) (s3 : scV d = some w)
   (hr : ∀ (H : Hp) (Q : VK), Q w H -> r w1 w2 H Q) : cJ X CL b (.BinOp e1 op e2 pos) δ (.sh d) δ2 := fun H Z σ ts vs Q S k => by
 refine cL (M6 ho dW dW) (h1 H Z σ ts vs _ S fun v1 H1 Z1 z1 k1 S1 r1 => h2 H1 Z1 σ ts vs _ S1 fun v2 H2 Z2 z2 k2 S2 r2 => ?_)
 rw [r1.sc s1, r2.sc s2]
 exact hr H2 Q (k w H2 Z2 (z1.trans z2) (k1.trans k2) (S2.push (V8 s3)))
theorem lD {i j : Int} (h1 : dU X CL b e1 δ (.int i) δ1) (h2 : dU X CL b e2 δ1 (.int j) δ2) : cJ X CL b (.BinOp e1 .Add e2 pos) δ (.sh (.int (i + j))) δ2 := uw aaQ h1 h2 rfl rfl rfl fun _ _ q => ⟨i, j, rfl, rfl, q⟩
theorem ux {i j : Int} (h1 : dU X CL b e1 δ (.int i) δ1) (h2 : dU X CL b e2 δ1 (.int j) δ2) : cJ X CL b (.BinOp e1 .Sub e2 pos) δ (.sh (.int (i - j))) δ2 := uw aaR h1 h2 rfl rfl rfl fun _ _ q => ⟨i, j, rfl, rfl, q⟩
theorem Rz {i j : Int} (h1 : dU X CL b e1 δ (.int i) δ1) (h2 : dU X CL b e2 δ1 (.int j) δ2) (c : VN i j) : cJ X CL b (.BinOp e1 .Mult e2 pos) δ (.sh (.int (i * j))) δ2 := uw aaS h1 h2 rfl rfl rfl fun _ _ q => ⟨i, j, rfl, rfl, c, q⟩
theorem oX {i j : Int} (h1 : dU X CL b e1 δ (.int i) δ1) (h2 : dU X CL b e2 δ1 (.int j) δ2) (c : 0 < j) : cJ X CL b (.BinOp e1 .Mod e2 pos) δ (.sh (.int (i % j))) δ2 := uw aaT h1 h2 rfl rfl rfl fun _ _ q => ⟨i, j, rfl, rfl, c, q⟩
theorem y9 {i j : Int} (h1 : dU X CL b e1 δ (.int i) δ1) (h2 : dU X CL b e2 δ1 (.int j) δ2) (c : adE i j) : cJ X CL b (.BinOp e1 .FloorDiv e2 pos) δ (.sh (.int (i / j))) δ2 := uw VP h1 h2 rfl rfl rfl fun _ _ q => ⟨i, j, rfl, rfl, c, q⟩
theorem xj {i j : Int} (h1 : dU X CL b e1 δ (.int i) δ1) (h2 : dU X CL b e2 δ1 (.int j) δ2) (c : adF i j) : cJ X CL b (.BinOp e1 .Pow e2 pos) δ (.sh (.int (i ^ j.toNat))) δ2 := uw aaU h1 h2 rfl rfl rfl fun _ _ q => ⟨i, j, rfl, rfl, c, q⟩
theorem qQ {x y : Str} (h1 : dU X CL b e1 δ (.str x) δ1) (h2 : dU X CL b e2 δ1 (.str y) δ2) (c : x.length + y.length <= sizeLine) : cJ X CL b (.BinOp e1 .Add e2 pos) δ (.sh (.str (x ++ y))) δ2 := uw Kd h1 h2 rfl rfl rfl fun _ _ q => ⟨x, y, rfl, rfl, c, q⟩
theorem Np {op : CmpOp} {r : R2} {p : Bool} {w1 w2 : V} (ho : yX X (compareOp op) r) (h1 : dU X CL b e1 δ d1 δ1) (h2 : dU X CL b e2 δ1 d2 δ2) (s1 : scV d1 = some w1) (s2 : scV d2 = some w2)
   (hr : ∀ (H : Hp) (Q : VK), Q (.bl p) H -> r w1 w2 H Q) (hm : behindInMarks op e2 = false) : yw X CL b (.Compare e1 [op] [e2] pos) δ p δ2 /\ cJ X CL b (.Compare e1 [op] [e2] pos) δ (.sh (.bl p)) δ2 := by
 constructor
 . intro H Z σ ts vs Q S k
   refine HR (sC ho dW dW hm) (h1 H Z σ ts vs _ S fun v1 H1 Z1 z1 k1 S1 r1 => h2 H1 Z1 σ ts vs _ S1 fun v2 H2 Z2 z2 k2 S2 r2 => ?_)
   rw [r1.sc s1, r2.sc s2]
   exact hr H2 _ ⟨p, rfl, k H2 Z2 (z1.trans z2) (k1.trans k2) S2⟩
 . intro H Z σ ts vs Q S k
   refine cL (vt ho dW dW hm) (h1 H Z σ ts vs _ S fun v1 H1 Z1 z1 k1 S1 r1 => h2 H1 Z1 σ ts vs _ S1 fun v2 H2 Z2 z2 k2 S2 r2 => ?_)
   rw [r1.sc s1, r2.sc s2]
   exact hr H2 _ (k _ H2 Z2 (z1.trans z2) (k1.trans k2) (S2.push (.bl p)))
theorem abg {i j : Int} (h1 : dU X CL b e1 δ (.int i) δ1) (h2 : dU X CL b e2 δ1 (.int j) δ2) : yw X CL b (.Compare e1 [.Eq] [e2] pos) δ (decide (i = j)) δ2 /\ cJ X CL b (.Compare e1 [.Eq] [e2] pos) δ (.sh (.bl (decide (i = j)))) δ2 :=
 Np ZJ h1 h2 rfl rfl (fun _ _ q => ⟨rfl, by rw [show decide (V.int i = V.int j) = decide (i = j) by simp]; exact q⟩) (w9 _)
theorem RA {i j : Int} (h1 : dU X CL b e1 δ (.int i) δ1) (h2 : dU X CL b e2 δ1 (.int j) δ2) : yw X CL b (.Compare e1 [.NotEq] [e2] pos) δ (!decide (i = j)) δ2 /\ cJ X CL b (.Compare e1 [.NotEq] [e2] pos) δ (.sh (.bl (!decide (i = j)))) δ2 :=
 Np adH h1 h2 rfl rfl (fun _ _ q => ⟨rfl, by rw [show decide (V.int i = V.int j) = decide (i = j) by simp]; exact q⟩) (w9 _)
theorem jC {i j : Str} (h1 : dU X CL b e1 δ (.str i) δ1) (h2 : dU X CL b e2 δ1 (.str j) δ2) : yw X CL b (.Compare e1 [.Eq] [e2] pos) δ (decide (i = j)) δ2 /\ cJ X CL b (.Compare e1 [.Eq] [e2] pos) δ (.sh (.bl (decide (i = j)))) δ2 :=
 Np ZJ h1 h2 rfl rfl (fun _ _ q => ⟨rfl, by rw [show decide (V.str i = V.str j) = decide (i = j) by simp]; exact q⟩) (w9 _)
theorem RB {i j : Int} (h1 : dU X CL b e1 δ (.int i) δ1) (h2 : dU X CL b e2 δ1 (.int j) δ2) : yw X CL b (.Compare e1 [.Lt] [e2] pos) δ (decide (i < j)) δ2 /\ cJ X CL b (.Compare e1 [.Lt] [e2] pos) δ (.sh (.bl (decide (i < j)))) δ2 := Np adI h1 h2 rfl rfl (fun _ _ q => ⟨i, j, rfl, rfl, q⟩) (w9 _)
end
section
variable {K : PySem.W.Frag} {CL : Str -> Addr} {H Z : Hp}
theorem aL.split : ∀ {as bs : List T} {us ws : List V} {gp : List Addr}, as.length = us.length -> aL K CL H Z (as ++ bs) (us ++ ws) gp -> ∃ g1 g2, gp = g1 ++ g2 /\ aL K CL H Z as us g1 /\ aL K CL H Z bs ws g2
 | [], _, [], _, gp, _, r => ⟨[], gp, rfl, .nil, r⟩
 | [], _, _ :: _, _, _, h, _ => by simp at h
 | _ :: _, _, [], _, _, h, _ => by simp at h
 | a :: as, bs, u :: us, ws, gp, h, r => by
   cases r with
   | @cons _ _ _ _ f1 f2 r1 r2 =>
     obtain ⟨g1, g2, e, h1, h2⟩ := aL.split (as := as) (us := us) (by simpa using h) r2
     exact ⟨f1 ++ g1, g2, by rw [e, akx], .cons r1 h1, h2⟩
theorem aL.app {as bs : List T} {us ws : List V} {g1 g2 : List Addr} (h : aL K CL H Z as us g1) (q : aL K CL H Z bs ws g2) : aL K CL H Z (as ++ bs) (us ++ ws) (g1 ++ g2) :=
 aL.ind (P := fun as us g1 => aL K CL H Z (as ++ bs) (us ++ ws) (g1 ++ g2)) q (fun r _ i => by rw [akx]; exact .cons r i) h
theorem aL.rev : ∀ {as : List T} {us : List V} {g : List Addr}, aL K CL H Z as.reverse us.reverse g -> ∃ g', aL K CL H Z as us g' /\ g'.Perm g
 | [], [], g, r => by
   have r' : aL K CL H Z [] [] g := r
   cases r'
   exact ⟨[], .nil, amo _⟩
 | [], u :: us, g, r => by have := r.length; simp at this
 | a :: as, [], g, r => by have := r.length; simp at this
 | a :: as, u :: us, g, r => by
   rw [ali, ali] at r
   have hl := r.length
   obtain ⟨g1, g2, e, r1, r2⟩ := aL.split (by simp at hl ⊢; omega) r
   subst e
   obtain ⟨g', r', p⟩ := aL.rev r1
   cases r2 with
   | @cons _ _ _ _ f1 f2 q1 q2 =>
     cases q2
     refine ⟨f1 ++ g', .cons q1 r', ?_⟩
     rw [akK]
     exact (ak8 f1 p).trans akY
theorem aL.ofF : ∀ {ds : List D} {us : List V}, aD K CL Z ds us -> aL K CL H Z (ds.map T.sh) us []
 | _, _, .nil => .nil
 | _, _, .cons r t => .cons (fp := []) (gp := []) (.sh r) (aL.ofF t)
theorem aL.toF : ∀ {ds : List D} {us : List V} {g : List Addr}, aL K CL H Z (ds.map T.sh) us g -> aD K CL Z ds us /\ g = []
 | [], _, _, r => by
   have r' : aL K CL H Z [] _ _ := r
   cases r'
   exact ⟨.nil, rfl⟩
 | d :: ds, _, _, r => by
   have r' : aL K CL H Z (T.sh d :: ds.map T.sh) _ _ := r
   cases r' with
   | cons r1 r2 =>
     cases r1 with
     | sh h =>
       obtain ⟨q, e⟩ := aL.toF r2
       exact ⟨.cons h q, by rw [e]; rfl⟩
theorem oY : ∀ (ds : List D), T.iO (ds.map T.sh) = ds
 | [] => rfl
 | d :: ds => by rw [akP, T.iO, oY ds, T.fc]
end
section
variable {K : PySem.W.Frag} {CL : Str -> Addr} {b : Bx} {H H' Z Z' : Hp} {δ δ' : List (Option T)} {σ σ' : L2.St} {ts tl : List T} {vs us : List V} {t : T} {v : V}
theorem bA.RC {p : Addr} (S : bA K CL b H Z δ σ (tl.reverse ++ ts) (us.reverse ++ vs)) (hl : us.length = tl.length) (hp : H p = none) :
   aG Z (upd Z p (.tup us)) /\ aG H (upd H p (.tup us)) /\ bA K CL b (upd H p (.tup us)) (upd Z p (.tup us)) δ σ (.tup tl :: ts) (.ref p :: vs) := by
 obtain ⟨fp, gp, e, r, nd, k⟩ := S.rep
 obtain ⟨g1, g2, eg, r1, r2⟩ := aL.split (by simp [hl]) r
 subst eg
 obtain ⟨g', r', pm⟩ := r1.rev
 have zp : Z p = none := S.zh.free hp
 have sz : aG Z (upd Z p (.tup us)) := aG.upd zp
 have sh : aG H (upd H p (.tup us)) := aG.upd hp
 have keep : ∀ a ∈ fp ++ (g1 ++ g2), a ≠ p := fun a ha => by
   have : ∃ o, H a = some o := by
     rcases akC.mp ha with h | h
     . exact e.there a h
     . exact r.there a h
   obtain ⟨o, q⟩ := this
   exact aK q hp
 have Nq : (fp ++ (g' ++ g2)).Perm (fp ++ (g1 ++ g2)) := (pm.append_right g2).append_left fp
 have kk : ∀ a ∈ fp ++ (g' ++ g2), a ≠ p := fun a ha => keep a (Nq.mem_iff.mp ha)
 refine ⟨sz, sh, ⟨⟨fp, g' ++ g2, e.mono sz (fun a ha => az (keep a (akF _ ha))), .cons (.tup aP (r'.mono sz fun a ha => az (kk a (by simp [ha])))) (r2.mono sz fun a ha => az (keep a (by simp [ha]))), Nq.nodup_iff.mpr nd, fun a ha => ?_⟩, S.bh.trans sh, S.zz.trans sz, fun a o q => ?_, fun a o q z => ?_, fun a o q i => ?_, S.tab⟩⟩
 . exact ⟨by rw [az (kk a ha)]; exact (k a (Nq.mem_iff.mp ha)).1, (k a (Nq.mem_iff.mp ha)).2⟩
 . by_cases ha : a = p
   . subst ha; rw [aP] at q ⊢; exact q
   . rw [az ha] at q ⊢; exact S.zh a o q
 . by_cases ha : a = p
   . subst ha; exact S.bh.free hp
   . rw [az ha] at q; exact S.new a o q z
 . by_cases ha : a = p
   . subst ha; rw [aP] at q ⊢; exact q
   . rw [az ha] at q ⊢; exact S.tp a o q i
theorem bA.jD {p : Addr} {g0 : List Addr} (S : bA K CL b H Z δ σ (tl.reverse ++ ts) (us.reverse ++ vs)) (hl : us.length = tl.length) (hp : H p = none) :
   aG H (upd H p (.lst us)) /\ bA K CL b (upd H p (.lst us)) Z δ σ (.lst tl :: ts) (.ref p :: vs) := by
 obtain ⟨fp, gp, e, r, nd, k⟩ := S.rep
 obtain ⟨g1, g2, eg, r1, r2⟩ := aL.split (by simp [hl]) r
 subst eg
 obtain ⟨g', r', pm⟩ := r1.rev
 have zp : Z p = none := S.zh.free hp
 have sh : aG H (upd H p (.lst us)) := aG.upd hp
 have keep : ∀ a ∈ fp ++ (g1 ++ g2), a ≠ p := fun a ha => by
   have : ∃ o, H a = some o := by
     rcases akC.mp ha with h | h
     . exact e.there a h
     . exact r.there a h
   obtain ⟨o, q⟩ := this
   exact aK q hp
 have Nq : (fp ++ (g' ++ g2)).Perm (fp ++ (g1 ++ g2)) := (pm.append_right g2).append_left fp
 have kk : ∀ a ∈ fp ++ (g' ++ g2), a ≠ p := fun a ha => keep a (Nq.mem_iff.mp ha)
 have pm3 : (fp ++ ((p :: g') ++ g2)).Perm (p :: (fp ++ (g' ++ g2))) := by
   rw [akS]; exact alC
 refine ⟨sh, ⟨⟨fp, (p :: g') ++ g2, e.mono (.refl _) (fun a ha => az (keep a (akF _ ha))), .cons (.lst aP (r'.mono (.refl _) fun a ha => az (kk a (by simp [ha])))) (r2.mono (.refl _) fun a ha => az (keep a (by simp [ha]))), ?_, fun a ha => ?_⟩, S.bh.trans sh, S.zz, S.zh.trans sh, S.new, fun a o q i => ?_, S.tab⟩⟩
 . refine pm3.nodup_iff.mpr (alk.mpr ⟨fun h => kk p h rfl, Nq.nodup_iff.mpr nd⟩)
 . rcases akB.mp (pm3.mem_iff.mp ha) with h | h
   . subst h; exact ⟨zp, S.bh.free hp⟩
   . exact k a (Nq.mem_iff.mp h)
 . by_cases ha : a = p
   . subst ha; rw [aP] at q; cases q; cases i
   . rw [az ha] at q; exact S.tp a o q i
end
section
variable {X : Cx} {CL : Str -> Addr} {b : Bx} {δ δ1 δ2 δ3 : List (Option T)} {e e1 e2 e3 : Expr} {es : List Expr} {t t1 t2 : T} {d d1 d2 : D} {tl : List T} {ds : List D} {p q : Bool} {pos : Pos}
theorem aZ : Nk X CL b [] δ [] δ := fun H Z σ ts vs Q S k => Cb dM (k [] H Z rfl (.refl _) (.refl _) S)
theorem aQ (h1 : cJ X CL b e δ t δ1) (h2 : Nk X CL b es δ1 tl δ2) (hs : starEach (e :: es) X.env = (false, eval e X.env) :: starEach es X.env := by exact bw rfl) : Nk X CL b (e :: es) δ (t :: tl) δ2 := fun H Z σ ts vs Q S k =>
 Cb (b8 dW Ex hs) (h1 H Z σ ts vs _ S fun v H1 Z1 z1 k1 S1 => h2 H1 Z1 σ _ _ _ S1 fun us H2 Z2 hl z2 k2 S2 => k (v :: us) H2 Z2 (by simp [hl]) (z1.trans z2) (k1.trans k2) (by
   rw [ali, ali, akx, akx]
   exact S2))
theorem bz : OY X CL b [] δ [] δ := fun H Z σ ts vs Q S k => Cb dM (k [] H Z (.refl _) (.refl _) S .nil)
theorem au (h1 : dU X CL b e δ d δ1) (h2 : OY X CL b es δ1 ds δ2) (hs : starEach (e :: es) X.env = (false, eval e X.env) :: starEach es X.env := by exact bw rfl) : OY X CL b (e :: es) δ (d :: ds) δ2 := fun H Z σ ts vs Q S k =>
 Cb (b8 dW Ex hs) (h1 H Z σ ts vs _ S fun v H1 Z1 z1 k1 S1 r1 => h2 H1 Z1 σ _ _ _ S1 fun us H2 Z2 z2 k2 S2 r2 => k (v :: us) H2 Z2 (z1.trans z2) (k1.trans k2) S2 (.cons (r1.mono k2) r2))
theorem oZ {j : Nat} (h : Nk X CL b es δ tl δ1) (hl : tl.length <= sizeLine) : cJ X CL b (.Tuple es j pos) δ (.tup tl) δ1 := fun H Z σ ts vs Q S k =>
 cL (aaX Ex) (h H Z σ ts vs _ S fun us H1 Z1 hu z1 k1 S1 => ⟨by rw [hu]; exact hl, fun p hp => by
   obtain ⟨a, c, S2⟩ := S1.RC hu hp
   exact k _ _ _ (z1.trans a) (k1.trans c) S2⟩)
theorem bU {j : Nat} (h : Nk X CL b es δ (ds.map T.sh) δ1) (hl : ds.length <= sizeLine) : cJ X CL b (.Tuple es j pos) δ (.sh (.tup ds)) δ1 := by
 have := Ky (oZ (pos := pos) (j := j) h (by simpa using hl))
 rwa [T.fc, oY] at this
theorem bW (h : Nk X CL b es δ tl δ1) (hl : tl.length <= sizeLine) : cJ X CL b (.List es pos) δ (.lst tl) δ1 := fun H Z σ ts vs Q S k =>
 cL (aaY Ex) (h H Z σ ts vs _ S fun us H1 Z1 hu z1 k1 S1 => ⟨by rw [hu]; exact hl, fun p hp => by
   obtain ⟨c, S2⟩ := S1.jD (g0 := []) hu hp
   exact k _ _ _ z1 (k1.trans c) S2⟩)
theorem Nr (h : cJ X CL b e δ (.sh (.bl p)) δ1) (he : ∀ whole, isTrue e X.env whole = (do let v ← whole; standAt e.pos; holding [v] (truthy v)) := by intro _; rfl) : yw X CL b e δ p δ1 := fun H Z σ ts vs Q S k =>
 HR (aaz dW he) (h H Z σ ts vs _ S fun v H1 Z1 z1 k1 S1 => ⟨p, by have := S1.view; rw [T.fc] at this; exact this.sc rfl, k H1 Z1 z1 k1 S1.pop⟩)
noncomputable def V9 (X : Cx) (e : Expr) : TT := fun σ H Q => ∀ (whole : Sem Value) (pins : List (Addr × Obj)) (s : Shared), Inv X pins σ H s -> wpAny (model X.prog X.w) X.A (isTrue e X.env whole) (TP X pins σ Q) X.xe s
theorem pwS {e : Expr} : PW X e (V9 X e) := fun whole pins s _ _ _ I h => h whole pins s I
noncomputable def Wa (X : Cx) (CL : Str -> Addr) (b : Bx) (e : Expr) (δ : List (Option T)) (p : Bool) (δ' : List (Option T)) : Prop :=
 ∀ (H Z : Hp) (σ : L2.St) (ts : List T) (vs : List V) (Q : Bool -> Hp -> Prop), bA X.K CL b H Z δ σ ts vs -> (∀ H' Z', aG Z Z' -> aG H H' -> bA X.K CL b H' Z' δ' σ ts vs -> Q p H') -> V9 X e σ H Q
theorem RD {t : TT} (h : PW X e t) {σ : L2.St} {H : Hp} {Q : Bool -> Hp -> Prop} (q : t σ H Q) : V9 X e σ H Q := fun whole pins s I => h whole pins s σ H Q I q
theorem RG (h : Wa X CL b e δ p δ1) : yw X CL b e δ p δ1 := fun H Z σ ts vs Q S k pins s I => h H Z σ ts vs Q S k _ pins s I
theorem Ez (h : yw X CL b e δ p δ1) : Wa X CL b (.BoolOp .And [e] pos) δ p δ1 := fun H Z σ ts vs Q S k => RD (VH V5) (h H Z σ ts vs _ S k)
theorem RH (h : yw X CL b e δ p δ1) : Wa X CL b (.BoolOp .Or [e] pos) δ p δ1 := fun H Z σ ts vs Q S k => RD (aaA V5) (h H Z σ ts vs _ S k)
theorem zS (h : yw X CL b e δ p δ1) (h2 : p = true -> Wa X CL b (.BoolOp .And (e2 :: es) pos) δ1 q δ1) : Wa X CL b (.BoolOp .And (e :: e2 :: es) pos) δ (p && q) δ1 := fun H Z σ ts vs Q S k =>
 RD (aaB V5 pwS) (h H Z σ ts vs _ S fun H1 Z1 z1 k1 S1 => by
   cases p with
   | true => exact Kv (h2 rfl H1 Z1 σ ts vs _ S1 fun H2 Z2 z2 k2 S2 => k H2 Z2 (z1.trans z2) (k1.trans k2) S2)
   | false => exact Ku (k H1 Z1 z1 k1 S1))
theorem ad1 (h : yw X CL b e δ p δ1) (h2 : p = false -> Wa X CL b (.BoolOp .Or (e2 :: es) pos) δ1 q δ1) : Wa X CL b (.BoolOp .Or (e :: e2 :: es) pos) δ (p || q) δ1 := fun H Z σ ts vs Q S k =>
 RD (ZG V5 pwS) (h H Z σ ts vs _ S fun H1 Z1 z1 k1 S1 => by
   cases p with
   | true => exact Kv (k H1 Z1 z1 k1 S1)
   | false => exact Ku (h2 rfl H1 Z1 σ ts vs _ S1 fun H2 Z2 z2 k2 S2 => k H2 Z2 (z1.trans z2) (k1.trans k2) S2))
theorem abh (h : yw X CL b e δ p δ1) (h1 : p = true -> cJ X CL b e1 δ1 t δ2) (h2 : p = false -> cJ X CL b e2 δ1 t δ2) : cJ X CL b (.IfExp e e1 e2 pos) δ t δ2 := fun H Z σ ts vs Q S k =>
 cL (QL V5 dW dW) (h H Z σ ts vs _ S fun H1 Z1 z1 k1 S1 => by
   cases p with
   | true => exact Kv (h1 rfl H1 Z1 σ ts vs _ S1 fun v H2 Z2 z2 k2 S2 => k v H2 Z2 (z1.trans z2) (k1.trans k2) S2)
   | false => exact Ku (h2 rfl H1 Z1 σ ts vs _ S1 fun v H2 Z2 z2 k2 S2 => k v H2 Z2 (z1.trans z2) (k1.trans k2) S2))
theorem za {K : PySem.W.Frag} {Z : Hp} {vs : List V} {k : Int} (r : aD K CL Z ds vs) (h : Hs ds k = some d) : ∃ v, Hs vs k = some v /\ bM K CL Z d v := by
 unfold Hs at h ⊢
 rw [← r.length]
 cases e : Rf ds.length k with
 | none => rw [e] at h; cases h
 | some j =>
   rw [e] at h
   exact r.get h
theorem b9 {k : Int} (h1 : dU X CL b e1 δ (.tup ds) δ1) (h2 : dU X CL b e2 δ1 (.int k) δ2) (hk : Hs ds k = some d) (hs : vv e2 := by exact fun _ _ => rfl) : dU X CL b (.Subscript e1 e2 pos) δ d δ2 := fun H Z σ ts vs Q S kk =>
 cL (HM Kp dW dW hs) (h1 H Z σ ts vs _ S fun v1 H1 Z1 z1 k1 S1 r1 => h2 H1 Z1 σ ts vs _ S1 fun v2 H2 Z2 z2 k2 S2 r2 => by
   have r1' := r1.mono k2
   cases r1' with
   | tup hq rr =>
     obtain ⟨v, hv, rv⟩ := za rr hk
     exact ⟨_, _, k, v, rfl, r2.sc rfl, hq, hv, kk v H2 Z2 (z1.trans z2) (k1.trans k2) S2 rv⟩)
theorem fh {k : Int} (h1 : dU X CL b e1 δ (.lst ds) δ1) (h2 : dU X CL b e2 δ1 (.int k) δ2) (hk : Hs ds k = some d) (hs : vv e2 := by exact fun _ _ => rfl) : dU X CL b (.Subscript e1 e2 pos) δ d δ2 := fun H Z σ ts vs Q S kk =>
 cL (HM Ni dW dW hs) (h1 H Z σ ts vs _ S fun v1 H1 Z1 z1 k1 S1 r1 => h2 H1 Z1 σ ts vs _ S1 fun v2 H2 Z2 z2 k2 S2 r2 => by
   have r1' := r1.mono k2
   cases r1' with
   | lst hq rr =>
     obtain ⟨v, hv, rv⟩ := za rr hk
     exact ⟨_, _, k, v, rfl, r2.sc rfl, hq, hv, kk v H2 Z2 (z1.trans z2) (k1.trans k2) S2 rv⟩)
theorem jE {k : Int} (h1 : cJ X CL b e1 δ (.sh (.tup ds)) δ1) (h2 : dU X CL b e2 δ1 (.int k) δ2) (hk : Hs ds k = some d) (hs : vv e2 := by exact fun _ _ => rfl) : cJ X CL b (.Subscript e1 e2 pos) δ (.sh d) δ2 := fun H Z σ ts vs Q S kk =>
 cL (HM Kp dW dW hs) (h1 H Z σ ts vs _ S fun v1 H1 Z1 z1 k1 S1 => h2 H1 Z1 σ _ _ _ S1 fun v2 H2 Z2 z2 k2 S2 r2 => by
   obtain ⟨fp, gp, _, r, _, _⟩ := S2.rep
   cases r with
   | cons r _ =>
     cases r with
     | sh r =>
       cases r with
       | tup hq rr =>
         obtain ⟨v, hv, rv⟩ := za rr hk
         exact ⟨_, _, k, v, rfl, r2.sc rfl, aG.Rp S2.zh hq, hv, kk v H2 Z2 (z1.trans z2) (k1.trans k2) (S2.pop.push rv)⟩)
theorem Kz {k : Int} (h1 : cJ X CL b e1 δ (.sh (.lst ds)) δ1) (h2 : dU X CL b e2 δ1 (.int k) δ2) (hk : Hs ds k = some d) (hs : vv e2 := by exact fun _ _ => rfl) : cJ X CL b (.Subscript e1 e2 pos) δ (.sh d) δ2 := fun H Z σ ts vs Q S kk =>
 cL (HM Ni dW dW hs) (h1 H Z σ ts vs _ S fun v1 H1 Z1 z1 k1 S1 => h2 H1 Z1 σ _ _ _ S1 fun v2 H2 Z2 z2 k2 S2 r2 => by
   obtain ⟨fp, gp, _, r, _, _⟩ := S2.rep
   cases r with
   | cons r _ =>
     cases r with
     | sh r =>
       cases r with
       | lst hq rr =>
         obtain ⟨v, hv, rv⟩ := za rr hk
         exact ⟨_, _, k, v, rfl, r2.sc rfl, S2.zh.seq hq, hv, kk v H2 Z2 (z1.trans z2) (k1.trans k2) (S2.pop.push rv)⟩)
end
section
variable {K : PySem.W.Frag} {CL : Str -> Addr} {b : Bx} {H H' Z Z' : Hp} {δ δ' : List (Option T)} {σ σ' : L2.St} {ts tl : List T} {vs us : List V} {t : T} {v : V}
theorem bA.mD : ∀ {ds : List D} {us : List V} {ts : List T} {vs : List V}, aD K CL Z ds us -> bA K CL b H Z δ σ ts vs -> bA K CL b H Z δ σ ((ds.map T.sh).reverse ++ ts) (us.reverse ++ vs)
 | _, _, _, _, .nil, S => S
 | _, _, ts, vs, .cons (d := d) (v := v) (ds := ds) (vs := us) r t, S => by
   rw [akP, ali, ali, akx, akx]
   exact bA.mD t (S.push r)
theorem bA.drops (S : bA K CL b H Z δ σ (tl ++ ts) (us ++ vs)) (hl : us.length = tl.length) : bA K CL b H Z δ σ ts vs := by
 induction tl generalizing us with
 | nil =>
   cases us with
   | nil => exact S
   | cons _ _ => simp at hl
 | cons t tl ih =>
   cases us with
   | nil => simp at hl
   | cons u us => exact ih S.pop (by simpa using hl)
theorem bA.Wb {ds : List D} (S : bA K CL b H Z δ σ ((ds.map T.sh).reverse ++ ts) (us.reverse ++ vs)) (hl : us.length = ds.length) : aD K CL Z ds us := by
 obtain ⟨fp, gp, e, r, nd, k⟩ := S.rep
 obtain ⟨g1, g2, eg, r1, r2⟩ := aL.split (by simp [hl]) r
 obtain ⟨g', r', pm⟩ := r1.rev
 exact r'.toF.1
end
section
variable {X : Cx} {CL : Str -> Addr} {b : Bx} {δ δ1 δ2 δ3 : List (Option T)} {e e1 e2 e3 : Expr} {es : List Expr} {t t1 t2 : T} {d d1 d2 : D} {tl : List T} {ds : List D} {p q : Bool} {pos pp : Pos}
theorem zb (hm : X.mg "len" = none) (h : dU X CL b e δ (.lst ds) δ1) (hg : Gl X "len" := by rfl) (hs : starEach [e] X.env = (false, eval e X.env) :: starEach [] X.env := by exact bw rfl) (hpl : (backTo pos (starEach ([] : List Expr) X.env)).any (·.1) = false := by rfl) : cJ X CL b (.Call (.Name "len" pp) [e] [] pos) δ (.sh (.int ds.length)) δ1 := fun H Z σ ts vs Q S k =>
 cL (qN Eu hg hm PySem.boot_len (b8 dW dM hs) (he := hs)) (h H Z σ ts vs _ S fun v H1 Z1 z1 k1 S1 r => by
   cases r with
   | lst hq rr => exact ⟨_, _, rfl, .inl hq, by rw [← rr.length]; exact k _ H1 Z1 z1 k1 (S1.push (.int _))⟩)
theorem lE (hm : X.mg "list" = none) (h : cJ X CL b e δ (.sh (.lst ds)) δ1) (hg : Gl X "list" := by rfl) (hv : bootBuiltins "list" = some (.type "list") := by rfl) (hs : starEach [e] X.env = (false, eval e X.env) :: starEach [] X.env := by exact bw rfl) : cJ X CL b (.Call (.Name "list" pp) [e] [] pos) δ (.lst (ds.map T.sh)) δ1 := fun H Z σ ts vs Q S k =>
 cL (lg oV hg hm hv (b8 dW dM hs) (he := hs)) (h H Z σ ts vs _ S fun v H1 Z1 z1 k1 S1 => by
   obtain ⟨fp, gp, _, r, _, _⟩ := S1.rep
   cases r with
   | cons r _ =>
     cases r with
     | sh r =>
       cases r with
       | lst hq rr =>
         refine ⟨_, _, rfl, .inl (S1.zh.seq hq), fun l hl => ?_⟩
         obtain ⟨c, S2⟩ := (bA.mD rr S1.pop).jD (g0 := []) (by simp [rr.length]) hl
         exact k _ _ _ z1 (k1.trans c) S2)
theorem O1 (hm : X.mg "list" = none) (h : cJ X CL b e δ (.sh (.tup ds)) δ1) (hg : Gl X "list" := by rfl) (hv : bootBuiltins "list" = some (.type "list") := by rfl) (hs : starEach [e] X.env = (false, eval e X.env) :: starEach [] X.env := by exact bw rfl) : cJ X CL b (.Call (.Name "list" pp) [e] [] pos) δ (.lst (ds.map T.sh)) δ1 := fun H Z σ ts vs Q S k =>
 cL (lg oV hg hm hv (b8 dW dM hs) (he := hs)) (h H Z σ ts vs _ S fun v H1 Z1 z1 k1 S1 => by
   obtain ⟨fp, gp, _, r, _, _⟩ := S1.rep
   cases r with
   | cons r _ =>
     cases r with
     | sh r =>
       cases r with
       | tup hq rr =>
         refine ⟨_, _, rfl, .inr (aG.Rp S1.zh hq), fun l hl => ?_⟩
         obtain ⟨c, S2⟩ := (bA.mD rr S1.pop).jD (g0 := []) (by simp [rr.length]) hl
         exact k _ _ _ z1 (k1.trans c) S2)
theorem iQ (hm : X.mg "list" = none) (h : dU X CL b e δ (.lst ds) δ1) (hi : D.bS ds = true) (hg : Gl X "list" := by rfl) (hv : bootBuiltins "list" = some (.type "list") := by rfl) (hs : starEach [e] X.env = (false, eval e X.env) :: starEach [] X.env := by exact bw rfl) : cJ X CL b (.Call (.Name "list" pp) [e] [] pos) δ (.lst (ds.map T.sh)) δ1 := fun H Z σ ts vs Q S k =>
 cL (lg oV hg hm hv (b8 dW dM hs) (he := hs)) (h H Z σ ts vs _ S fun v H1 Z1 z1 k1 S1 r => by
   cases r with
   | lst hq rr =>
     refine ⟨_, _, rfl, .inl hq, fun l hl => ?_⟩
     obtain ⟨c, S2⟩ := (bA.mD (aD.m5 S1.tp hi rr) S1).jD (g0 := []) (by simp [rr.length]) hl
     exact k _ _ _ z1 (k1.trans c) S2)
noncomputable def mE (K : PySem.W.Frag) (CL : Str -> Addr) {A : Type} (n : Nat) (arg : A -> List D) (Pre : A -> Prop) (res : A -> T) : Sp := fun vs H Q _ =>
 ∃ (W : Hp) (a : A), aG W H /\ (∀ c o, H c = some o -> j6 o = true -> W c = some o) /\ aD K CL W (arg a) vs /\ (arg a).length = n /\ Pre a /\ oW CL W ∧
   ∀ v H' W' fp, aG H H' -> aG W W' -> aG W' H' -> (∀ c o, W' c = some o -> W c = none -> H c = none) -> (∀ c o, H' c = some o -> j6 o = true -> W' c = some o) →
     bR K CL H' W' (res a) v fp -> fp.Nodup -> (∀ c ∈ fp, W' c = none /\ H c = none) -> Q v H'
section
variable {A : Type} {k n : Nat} {f : Addr} {fd : FuncData} {ps : List Str} {arg : A -> List D} {Pre : A -> Prop} {res : A -> T} {x : Str}
theorem Wc (a : A) (F : bN X.prog X.w X.K X.mg X.base fO k f fd ps (mE X.K CL n arg Pre res)) (hr : dg k X.A) (hm : X.mg x = some (.ref f)) (hk : PySem.W.keepIn X.K (.ref f) = true) (hb : Binds X.K fd ps [])
   (h : OY X CL b (e :: es) δ (arg a) δ1) (hn : (arg a).length = n) (hp : Pre a) (hc : (res a).clean = true) (hg : Gl X x)
   (tU : (x == ("__debug__" : Str)) = false := by decide) (he : starEach (e :: es) X.env = (false, eval e X.env) :: starEach es X.env := by exact bw rfl) (hpl : (backTo pos (starEach es X.env)).any (·.1) = false := by rfl) :
   cJ X CL b (.Call (.Name x pp) (e :: es) [] pos) δ (res a) δ1 := fun H Z σ ts vs Q S kk =>
 cL (Nb F hr hg hm hk hb .nil tZ Ex tU he hpl) (h H Z σ ts vs _ S fun us H1 Z1 z1 k1 S1 r => by
   rw [akK]
   refine ⟨H1, a, .refl _, fun _ _ q _ => q, r, hn, hp, S1.HV, fun v H' W' fp hh ww wh nw tp rt nd own => ?_⟩
   obtain ⟨Z', z', S'⟩ := S1.back hh S1.zh ww wh nw tp rt nd own (.inr hc)
   exact kk v H' Z' (z1.trans z') (k1.trans hh) S')
end
variable {D D' : cE} {st : Stmt} {d8 ad2 : List Stmt}
theorem aO (h : D.nx δ) : eL X CL b [] δ D := fun H Z σ ts vs E S M => adY VJ (M.nx δ σ H Z (.refl _) S h)
theorem ck (h : OZ X CL b st δ { D with nx := fun δ1 => eL X CL b d8 δ1 D }) : eL X CL b (st :: d8) δ D := fun H Z σ ts vs E S M =>
 adY (QN psS QD) (h H Z σ ts vs _ S ⟨fun δ' σ' H' Z' s S' k => k H' Z' σ' ts vs E S' (M.mono s), M.rt, M.bk, M.ct⟩)
theorem RJ (h : D.bk δ) : OZ X CL b (.Break pos) δ D := fun H Z σ ts vs E S M => om QO (M.bk δ σ H Z (.refl _) S h)
theorem abj (h : cJ X CL b e δ t δ1) (k : D.rt t δ1) : OZ X CL b (.Return (some e) pos) δ D := fun H Z σ ts vs E S M => om (aaD dW) (h H Z σ ts vs _ S fun v H1 Z1 z1 k1 S1 => M.rt t v H1 Z1 δ1 σ z1 S1 k)
theorem ad3 (h : yw X CL b e δ p δ1) (h1 : p = true -> eL X CL b d8 δ1 D) (h2 : p = false -> eL X CL b ad2 δ1 D) : OZ X CL b (.If e d8 ad2 pos) δ D := fun H Z σ ts vs E S M =>
 om (ZH V5 QD QD) (h H Z σ ts vs _ S fun H1 Z1 z1 k1 S1 => by
   cases p with
   | true => exact Kv (h1 rfl H1 Z1 σ ts vs E S1 (M.mono z1))
   | false => exact Ku (h2 rfl H1 Z1 σ ts vs E S1 (M.mono z1)))
theorem RK (i : Nat) {x : Str} {pos' : Pos} (h : cJ X CL b e δ t δ1) (k : D.nx (δ1.set i (some t))) (hl : i < δ1.length := by decide) (hN : X.N.Nodup := by assumption) (hi : X.N[i]? = some x := by rfl) (hx : Loc X.env.scope x := by first | exact .inl rfl | exact .inr rfl)
   (hs : swapsWith e (some (.Name x pos')) pos.line X.env = pure false := by rfl) (hf : X.fn x = true \/ X.env.scope.names.lookup x = some .local := by first | exact .inl rfl | exact .inr rfl | assumption) : OZ X CL b (.Assign [.Name x pos'] e pos) δ D := fun H Z σ ts vs E S M =>
 om (QS hN hi hx dW hs hf) (h H Z σ ts vs _ S fun v H1 Z1 z1 k1 S1 => M.nx _ _ H1 Z1 z1 (S1.set hl) k)
end
noncomputable def entry (N : List Str) (ds : List D) : List (Option T) := ds.map (fun d => some (T.sh d)) ++ List.replicate (N.length - ds.length) none
theorem jF {K : PySem.W.Frag} {CL : Str -> Addr} {H Z : Hp} : ∀ {ds : List D} {vs : List V} (n : Nat), aD K CL Z ds vs -> eN K CL H Z (ds.map (fun d => some (T.sh d)) ++ List.replicate n none) (vs.map some ++ List.replicate n none) []
 | _, _, 0, .nil => .nil
 | _, _, n + 1, .nil => .skip (jF (ds := []) (vs := []) n .nil)
 | _, _, n, .cons r t => .cons (fp := []) (gp := []) (.sh r) (jF n t)
theorem bH {P : Program} {w : World} {K : PySem.W.Frag} {mg : Str -> Option Value} {base : Heap} {CL : Str -> Addr} {x qual : Str} {st : Stmt} {f : Addr} {fd : FuncData} {N ps : List Str} {k : Nat} {A : Type} {arg : A -> List D} {Pre : A -> Prop} {res : A -> T} (F : ki K x qual st f fd) (S : aM N ps (ao st))
   (hb : ∀ (dF : Value) (Ar : Around) (outer : List Env) (s : Shared) (H : Hp) (E : XK) (b : Bx) (a : A), dg k (Ar.deeper (envOfC qual (ao st) s.heap.objs.size f dF)) -> Pre a →
     eL (yR fO P w K mg base N qual (ao st) f dF Ar outer s H E).QM CL b (dS st) (entry N (arg a)) { nx := fun _ => res a = .sh .non, rt := fun t _ => t = res a }) :
   bN P w K mg base fO (k + 1) f fd ps (mE K CL ps.length arg Pre res) := by
 refine F.ok S (fun vs H Q E h => ?_) (fun dF Ar outer s H vs Q E hr h => ?_)
 . obtain ⟨W, a, _, _, r, hl, _⟩ := h
   rw [← r.length]; exact hl
 . obtain ⟨W, a, wh, tp, r, hl, hp, tb, kk⟩ := h
   refine ⟨_, QD, hb dF Ar outer s H E ⟨H, W⟩ a hr hp H W _ [] [] _ ⟨⟨[], [], ?_, .nil, alG, fun a ha => by cases ha⟩, .refl _, .refl _, wh, fun a o q z => ?_, tp, tb⟩ ⟨fun δ' σ' H' Z' s' S' e => ?_, fun t v H' Z' δ' σ' s' S' e => ?_, fun _ _ _ _ _ _ e => e.elim, fun _ _ _ _ _ _ e => e.elim⟩⟩
   . unfold entry L2.start
     rw [← r.length]
     exact jF _ r
   . have q' : W a = some o := q
     have z' : W a = none := z
     rw [q'] at z'; cases z'
   . exact kk .non H' Z' [] S'.bh S'.zz S'.zh S'.new S'.tp (by rw [show res a = .sh .non from e]; exact .sh .non) alG fun a ha => by cases ha
   . have e' : t = res a := e
     subst e'
     obtain ⟨fp, gp, _, r', nd, own⟩ := S'.rep
     cases r' with
     | @cons _ _ _ _ f1 f2 r1 r2 =>
       have h1 := (ak5.mp nd).2.1
       exact kk v H' Z' f1 S'.bh S'.zz S'.zh S'.new S'.tp r1 (ak5.mp h1).1 fun a ha => own a (aky _ (akF _ ha))
section
variable {prog : Program} {w : World} {A : Around} {R : Result -> Shared -> Prop} {s : Shared}
theorem EA {elt target iter : Expr} {ifs : List Expr} {scope : Scope} {pos : Pos} {it acc : Value} {env : Env} (I : Nat -> Shared -> Prop)
   (turn : ∀ n s, I n s -> wpAny (model prog w) A (pyNext it) (fun r s₁ => match r with
     | none => R (.ok .next) s₁
     | some v => wpAny (model prog w) A (letOwnedTupleGo target it v) (fun _ ZT => wpAny (model prog w) A (assign target env v) (fun _ s₂ =>
         wpAny (model prog w) A (forIn ifs true fun c r => if r = true then do let ok ← isTrue c env (eval c env); pure (ForInStep.yield ok) else pure (ForInStep.yield r)) (fun ok s₃ =>
           if ok = true then wpAny (model prog w) A (eval elt env) (fun x s₄ =>
             wpAny (model prog w) A (call (.builtin "list.append") [acc, x]) (fun _ s₅ => ∃ m, m < n /\ I m s₅) (fun _ _ => False) s₄) (fun _ _ => False) s₃
           else ∃ m, m < n /\ I m s₃) (fun _ _ => False) s₂) (fun _ _ => False) ZT) (fun _ _ => False) s₁) (fun _ _ => False) s)
   (n : Nat) (h : I n s) :
   codeAny (model prog w) A (.compLoop (.ListComp elt [⟨target, iter, ifs, 0⟩] scope pos) 0 it acc env) R s := by
 refine codeAny_loop rfl I (fun n s hI => ?_) n h
 show wpAny _ A ((compTurn (.ListComp elt [⟨target, iter, ifs, 0⟩] scope pos) 0 it acc env).onRaise (fun x => do noteFrame x env; theTreesLotGoes x)) _ _ s
 refine wpAny_noted ?_
 rw [compTurn_list]
 refine akQ (wpAny_standAt (akQ (alM (turn n s hI) (fun r s₁ h₁ => ?_) fun _ _ h' => h'.elim)))
 cases r with
 | none => exact alh h₁
 | some v =>
   refine akQ (alM h₁ (fun _ ZT h₁' => ?_) fun _ _ h' => h'.elim)
   refine akQ (alM h₁' (fun _ s₂ h₂ => akQ (alM h₂ (fun ok s₃ h₃ => ?_) fun _ _ h' => h'.elim)) fun _ _ h' => h'.elim)
   cases ok with
   | false => exact alh ⟨rfl, h₃⟩
   | true =>
     exact akQ (akQ (alM h₃ (fun x s₄ h₄ => akQ (alM h₄ (fun _ s₅ h₅ => alh (alh ⟨rfl, h₅⟩)) fun _ _ h' => h'.elim)) fun _ _ h' => h'.elim))
end
noncomputable def cX (env : Env) : List (Str × NameKind) -> List (Str × Addr) -> List (Str × Addr)
 | [], cs => cs
 | (n, k) :: r, cs => cX env r (if k == .free then (n, (env.cells.lookup n).getD 0) :: cs else cs)
theorem m7 {scope : Scope} {env : Env} (h : ∀ x ∈ scope.names, x.2 = .free -> ∃ c, env.cells.lookup x.1 = some c) : closureFor scope env = pure (cX env scope.names []) := by
 have go : ∀ (l : List (Str × NameKind)) (cs : List (Str × Addr)), (∀ x ∈ l, x.2 = .free -> ∃ c, env.cells.lookup x.1 = some c) →
     (forIn l cs fun x r => match x with | (name, kind) => if (kind == NameKind.free) = true then do let a ← cellOf env name; pure (ForInStep.yield ((name, a) :: r)) else pure (ForInStep.yield r) : Sem (List (Str × Addr))) = pure (cX env l cs) := by
   intro l
   induction l with
   | nil => intro cs _; rfl
   | cons x r ih =>
     intro cs hx
     obtain ⟨n, k⟩ := x
     rw [List.forIn_cons]
     by_cases hk : k = .free
     . subst hk
       obtain ⟨c, hc⟩ := hx (n, .free) akA rfl
       have e : cellOf env n = pure c := by unfold cellOf; rw [hc]
       simp only [alN, al8, e, pure_bind]
       rw [ih _ fun y hy => hx y (akE _ hy)]
       simp only [cX, alN, al8]
       rw [hc]; rfl
     . have hb : (k == NameKind.free) = false := by simpa using hk
       simp only [hb, aln, alZ, pure_bind]
       rw [ih _ fun y hy => hx y (akE _ hy)]
       simp only [cX, hb, aln, alZ]
 unfold closureFor
 have := go scope.names [] h
 simp only [bind_pure] at this ⊢
 exact this
theorem o8 {env : Env} : ∀ {l : List (Str × NameKind)} {cs : List (Str × Addr)} {y : Str} {c : Addr}, (∀ x ∈ l, x.2 = .free -> ∃ c, env.cells.lookup x.1 = some c) -> (∀ y c, cs.lookup y = some c -> env.cells.lookup y = some c) →
   (cX env l cs).lookup y = some c -> env.cells.lookup y = some c
 | [], cs, y, c, _, h, e => h y c e
 | (n, k) :: r, cs, y, c, hx, h, e => by
   refine o8 (l := r) (fun z hz => hx z (akE _ hz)) (fun z d hz => ?_) e
   by_cases hk : k = .free
   . subst hk
     obtain ⟨c', hc⟩ := hx (n, .free) akA rfl
     simp only [alN, al8, hc, Option.getD_some, akW] at hz
     by_cases hzn : (z == n) = true
     . rw [hzn] at hz
       have : z = n := by simpa using hzn
       subst this
       cases hz
       exact hc
     . have : (z == n) = false := by simpa using hzn
       rw [this] at hz
       exact h z d hz
   . have hb : (k == NameKind.free) = false := by simpa using hk
     rw [hb] at hz
     exact h z d hz
theorem yx {env : Env} {y : Str} : ∀ {l : List (Str × NameKind)} {cs : List (Str × Addr)}, (∃ c, cs.lookup y = some c) -> ∃ c, (cX env l cs).lookup y = some c
 | [], cs, h => h
 | (n, k) :: r, cs, h => by
   refine yx (l := r) ?_
   by_cases hk : (k == NameKind.free) = true
   . rw [akJ hk, akW]
     by_cases hy : (y == n) = true
     . rw [hy]; exact ⟨_, rfl⟩
     . have : (y == n) = false := by simpa using hy
       rw [this]; exact h
   . rw [akH hk]; exact h
theorem lF {env : Env} {y : Str} : ∀ {l : List (Str × NameKind)} {cs : List (Str × Addr)}, l.lookup y = some .free -> ∃ c, (cX env l cs).lookup y = some c
 | [], _, h => by simp at h
 | (n, k) :: r, cs, h => by
   rw [akW] at h
   by_cases hy : (y == n) = true
   . rw [hy] at h
     cases h
     refine yx (l := r) ?_
     rw [akJ (by rfl), akW, hy]
     exact ⟨_, rfl⟩
   . have : (y == n) = false := by simpa using hy
     rw [this] at h
     exact lF (l := r) h
noncomputable def dN (X : Cx) (scope : Scope) (Nc : List Str) (C : Addr) (s : Shared) (H : Hp) (fp : List Addr) : Cx where
 prog := X.prog
 w := X.w
 K := X.K
 mg := X.mg
 base := X.base
 A := X.A
 N := Nc
 s₀ := s
 H₀ := H
 env := compEnvC scope (cX X.env scope.names []) C X.env
 outer := X.stack
 stack := X.stack
 ex := fp
 fn := fun _ => false
 calm := X.calm
 pn := []
 xe := fun _ _ => False
structure iG (X : Cx) (scope : Scope) (x : Str) (Nc : List Str) (ix : List Nat) : Prop where
 kind : scope.kind = .function
 xm : ∀ y ∈ scope.names, y.2 ≠ .cell
 nd : Nc.Nodup
 names : ∀ y ∈ scope.names, y.2 = .local -> scope.names.lookup y.1 = some .local
 own : scope.names.lookup x = some .local
 frees : ∀ y ∈ scope.names, y.2 = .free -> scope.names.lookup y.1 = some .free /\ (X.env.kindOf y.1 = some .cell \/ X.env.kindOf y.1 = some .free)
 hd : Nc = x :: ix.filterMap (X.N[·]?)
 ZU : ∀ i ∈ ix, ∃ y, X.N[i]? = some y /\ scope.names.lookup y = some .free
theorem fX {env : Env} : ∀ {names : List (Str × NameKind)} {x : Str} {k : NameKind}, names.lookup x = some k -> 
   (names.map fun (n, k) => if (k == NameKind.free && env.scope.kind == .function && env.kindOf n == some .cell) then (n, NameKind.cell) else (n, k)).lookup x = some (if (k == NameKind.free && env.scope.kind == .function && env.kindOf x == some .cell) then .cell else k)
 | [], _, _, h => by simp at h
 | (n, k') :: r, x, k, h => by
   have ih := @fX env r x k
   show List.lookup x ((if (k' == NameKind.free && env.scope.kind == .function && env.kindOf n == some .cell) = true then (n, NameKind.cell) else (n, k')) :: _) = _
   cases hx : x == n with
   | true =>
     simp only [akW, hx] at h
     cases h
     have e : x = n := by simpa using hx
     subst e
     split <;> simp [akW]
   | false =>
     simp only [akW, hx] at h
     split
     . simp only [akW, hx]; exact ih h
     . simp only [akW, hx]; exact ih h
theorem kG {env : Env} : ∀ {names : List (Str × NameKind)} {x : Str}, names.lookup x = none -> 
   (names.map fun (n, k) => if (k == NameKind.free && env.scope.kind == .function && env.kindOf n == some .cell) then (n, NameKind.cell) else (n, k)).lookup x = none
 | [], _, _ => rfl
 | (n, k') :: r, x, h => by
   have ih := @kG env r x
   show List.lookup x ((if (k' == NameKind.free && env.scope.kind == .function && env.kindOf n == some .cell) = true then (n, NameKind.cell) else (n, k')) :: _) = _
   cases hx : x == n with
   | true => simp only [akW, hx] at h; cases h
   | false =>
     simp only [akW, hx] at h
     split
     . simp only [akW, hx]; exact ih h
     . simp only [akW, hx]; exact ih h
section
variable {X : Cx} {scope : Scope} {x : Str} {Nc : List Str} {ix : List Nat} {pins : List (Addr × Obj)} {σ : L2.St} {H : Hp} {s : Shared}
noncomputable def xo (σ : L2.St) (ix : List Nat) (o : Option V) : L2.St := o :: ix.map fun i => (σ[i]?).getD none
theorem O2 {fp : List Addr} {lB : List (Addr × Obj)} {σ' : L2.St} {H' : Hp} {s' : Shared} {h'' : Heap} (I : Inv X pins σ H s) (qF : ∀ b ∈ fp, kH X pins H b)
   (J : Inv (dN X scope Nc s.heap.objs.size s H fp) lB σ' H' s') (hs : Heap.SameBut s.heap.objs.size s'.heap h'') : Inv X pins σ H' { s' with heap := h'' } := by
 have un : Un (Qz X.stack) fp H H' s.heap s'.heap := J.base
 have un2 : Un (Qz X.stack) fp H H' s.heap h'' := by
   have ne : ∀ b o, s.heap.get? b = some o -> b ≠ s.heap.objs.size := fun b o e => ala (akT e)
   refine ⟨fun b o e n hb hx => (hs.2 b (ne b o e)).trans (un.keep b o e n hb hx), fun b o e n hb hx => ?_, un.free, fun b o e hx => ?_, un.Eh, un.iO, un.Ei⟩
   . obtain ⟨sl, q⟩ := un.slot b o e n hb hx
     exact ⟨sl, (hs.2 b (ne b o e)).trans q⟩
   . obtain ⟨o', q⟩ := un.there b o e hx
     exact ⟨o', (hs.2 b (ne b o e)).trans q⟩
 have nC : H' s.heap.objs.size = none := J.free
 have dJ : ur X.prog X.w H' h'' := fun b u e => by
   refine (J.dJ b u e).Eg (fun c v hc q => (hs.2 c ?_).trans q) (fun _ q => q) fun _ _ q => q
   rintro rfl
   rcases hc with z | z
   . subst z; rw [nC] at e; cases e
   . rw [nC] at z; cases z
 obtain ⟨hh, g, d, t, os'⟩ := s'
 obtain rfl : os' = s.os := J.os
 show L2.Inv X pins σ H' { s with heap := h'', gens := g, drawn := d, toks := t }
 exact I.call (h' := h'') (g' := g) (d' := d) (t' := t) (ch := fp) un2 dJ J.bare fun b hb => ⟨(qF b hb).2.2.2.1, (qF b hb).2.1, (qF b hb).2.2.2.2.1, (qF b hb).2.2.2.2.2⟩
noncomputable def abk (X : Cx) : List Expr -> TT
 | [] => fun _ H Q => Q true H
 | [c] => Rr X c
 | _ => fun _ _ _ => False
theorem RL {ifs : List Expr} {Q : Bool -> Hp -> Prop} (I : Inv X pins σ H s) (h : abk X ifs σ H Q) (hx : X.xe = fun _ _ => False) :
   wpAny (model X.prog X.w) X.A (forIn ifs true fun c r => if r = true then do let ok ← isTrue c X.env (eval c X.env); pure (ForInStep.yield ok) else pure (ForInStep.yield r)) (TP X pins σ Q) (fun _ _ => False) s := by
 match ifs, h with
 | [], h => exact wpAny_tests_nil ⟨H, I, h⟩
 | [c], h =>
   have := h pins s I
   rw [hx] at this
   exact wpAny_tests_one this
end
noncomputable def TIv (X : Cx) (CL : Str -> Addr) (b : Bx) (ifs : List Expr) (δ : List (Option T)) (p : Bool) : Prop :=
 match ifs with
 | [] => p = true
 | [c] => yw X CL b c δ p δ
 | _ => False
theorem TIv.sem {X : Cx} {CL : Str -> Addr} {b : Bx} {ifs : List Expr} {δ : List (Option T)} {p : Bool} (h : TIv X CL b ifs δ p) {H Z : Hp} {σ : L2.St} {Q : Bool -> Hp -> Prop} (S : bA X.K CL b H Z δ σ [] [])
   (k : ∀ H' Z', aG Z Z' -> aG H H' -> bA X.K CL b H' Z' δ σ [] [] -> Q p H') : abk X ifs σ H Q := by
 match ifs, h with
 | [], h =>
   have e : p = true := h
   subst e
   exact k H Z (.refl _) (.refl _) S
 | [c], h => exact (show yw X CL b c δ p δ from h) H Z σ [] [] Q S k
theorem gA {ts : List T} : (T.lst ts).clean = T.bV ts := by rw [T.clean]
theorem zT {g : D -> T} : ∀ {ds : List D}, (∀ d ∈ ds, (g d).clean = true) -> T.bV (ds.map g) = true
 | [], _ => by rw [amj, T.bV]
 | d :: ds, h => by
   rw [akP, T.bV, h d akA, zT fun e he => h e (akE _ he)]
   rfl
section
variable {X : Cx} {CL : Str -> Addr} {b : Bx} {H Z W1 : Hp} {δ δc : List (Option T)} {σ : L2.St} {ts : List T} {vs us : List V} {ds : List D} {scope : Scope} {Nc : List Str} {ix : List Nat} {elt : Expr} {ifs : List Expr} {p : D -> Bool} {g : D -> T} {J : It}
end
section
variable {K : PySem.W.Frag} {CL : Str -> Addr} {b : Bx} {H H' Z Z' : Hp} {δ δ' : List (Option T)} {σ σ' : L2.St} {ts tl : List T} {vs us : List V} {t : T} {v : V}
theorem aL.at : ∀ {tl : List T} {us : List V} {fp : List Addr} {j : Nat} {t : T}, aL K CL H Z tl us fp -> tl[j]? = some t -> ∃ v f1 f2 f3, us[j]? = some v /\ fp = f1 ++ (f2 ++ f3) /\ bR K CL H Z t v f2 ∧
   ∀ {H' : Hp} {t' : T} {v' : V} {g : List Addr}, (∀ a ∈ f1 ++ f3, H' a = H a) -> bR K CL H' Z t' v' g -> aL K CL H' Z (tl.set j t') (us.set j v') (f1 ++ (g ++ f3))
 | _, _, _, _, _, .nil, e => by simp at e
 | _, _, _, 0, _, .cons (fp := fp) (gp := gp) r q, e => by
   simp at e
   subst e
   exact ⟨_, [], fp, gp, rfl, rfl, r, fun {H' t' v' g} k r' => aL.cons (fp := g) (gp := gp) r' (aL.mono (fp := gp) (.refl _) (fun a ha => k a (by simpa using ha)) q)⟩
 | _, _, _, j + 1, t, .cons (fp := fp) (gp := gp) r q, e => by
   obtain ⟨v, f1, f2, f3, h1, h2, h3, h4⟩ := aL.at (j := j) (t := t) q (by simpa using e)
   refine ⟨v, fp ++ f1, f2, f3, by simpa using h1, by rw [h2, List.append_assoc], h3, fun k r' => ?_⟩
   rw [akx]
   exact .cons (r.mono (.refl _) fun a ha => k a (by simp [ha])) (h4 (fun a ha => k a (by rw [akx]; exact aky _ ha)) r')
theorem eW {α : Type} {l : List α} {i : Nat} {x : α} (h : l[i]? = some x) : l.set i x = l := by
 apply al4
 intro j
 rw [List.getElem?_set]
 split
 . rename_i e; subst e
   split
   . exact h.symm
   . rename_i h2; rw [alB (by omega)]
 . rfl
theorem bA.write {a : Addr} {xs : List V} {f1 f2 f3 g gp Nt : List Addr} {δ2 : List (Option T)} (S : bA K CL b H Z δ σ ts vs) (nd : ((f1 ++ (f2 ++ f3)) ++ gp).Nodup) (own : ∀ c ∈ (f1 ++ (f2 ++ f3)) ++ gp, Z c = none /\ b.B c = none) (ha : a ∈ f2)
   (hH : ∃ o, H a = some o) (e' : eN K CL (upd H a (.lst xs)) Z δ2 σ (f1 ++ (g ++ f3))) (r' : aL K CL (upd H a (.lst xs)) Z tl us Nt) (pm : ((f1 ++ (g ++ f3)) ++ Nt).Nodup) (sub : ∀ c ∈ (f1 ++ (g ++ f3)) ++ Nt, c ∈ (f1 ++ (f2 ++ f3)) ++ gp) :
   bA K CL b (upd H a (.lst xs)) Z δ2 σ tl us := by
 have oa := own a (by simp [ha])
 refine ⟨⟨_, _, e', r', pm, fun c hc => own c (sub c hc)⟩, fun c o q => ?_, S.zz, fun c o q => ?_, S.new, fun c o q i => ?_, S.tab⟩
 . rw [az (aK q oa.2)]; exact S.bh c o q
 . rw [az (aK q oa.1)]; exact S.zh c o q
 . by_cases hc : c = a
   . subst hc; rw [aP] at q; cases q; cases i
   . rw [az hc] at q; exact S.tp c o q i
theorem bA.append {i : Nat} (S : bA K CL b H Z δ σ (t :: ts) (v :: vs)) (hi : δ[i]? = some (some (.lst tl))) :
   ∃ a us, σ[i]? = some (some (.ref a)) /\ H a = some (.lst us) /\ us.length = tl.length /\ bA K CL b (upd H a (.lst (us ++ [v]))) Z (δ.set i (some (.lst (tl ++ [t])))) σ ts vs := by
 obtain ⟨fp, gp, e, r, nd, k⟩ := S.rep
 obtain ⟨v0, f1, f2, f3, hv, qF, rt, put, _⟩ := e.get hi
 subst qF
 cases rt with
 | @lst a us _ g ha rs =>
   cases r with
   | @cons _ _ _ _ ft gr q1 q2 =>
     have ne : ∀ c ∈ (f1 ++ (g ++ f3)) ++ (ft ++ gr), c ≠ a := fun c hc e => by
       subst e
       have hp : ((f1 ++ ((c :: g) ++ f3)) ++ (ft ++ gr)).Perm (c :: ((f1 ++ (g ++ f3)) ++ (ft ++ gr))) := by
         rw [akS, ← akS]
         exact (alC.append_right _)
       exact (alk.mp (hp.nodup_iff.mp nd)).1 hc
     refine ⟨a, us, hv, ha, rs.length.symm, ?_⟩
     have r1 : bR K CL (upd H a (.lst (us ++ [v]))) Z (.lst (tl ++ [t])) (.ref a) (a :: (g ++ (ft ++ []))) :=
       .lst aP (aL.app (rs.mono (.refl _) fun c hc => az (ne c (by simp [hc]))) (.cons (q1.mono (.refl _) fun c hc => az (ne c (by simp [hc]))) .nil))
     have e2 := put (H' := upd H a (.lst (us ++ [v]))) (.refl _) (fun c hc => az (ne c (by
       rcases akC.mp hc with h | h
       . simp [h]
       . simp [h]))) r1
     rw [eW hv] at e2
     have hp : ((f1 ++ ((a :: (g ++ (ft ++ []))) ++ f3)) ++ gr).Perm ((f1 ++ ((a :: g) ++ f3)) ++ (ft ++ gr)) := by
       simp only [akK, akS, akx]
       refine ak8 f1 (List.Perm.cons a (ak8 g ?_))
       rw [← akx, ← akx]
       exact akY.append_right gr
     exact S.write nd k (akA) ⟨_, ha⟩ e2 (q2.mono (.refl _) fun c hc => az (ne c (by simp [hc]))) (hp.nodup_iff.mpr nd) fun c hc => hp.mem_iff.mp hc
theorem bA.setAt {i j : Nat} (S : bA K CL b H Z δ σ (t :: ts) (v :: vs)) (hi : δ[i]? = some (some (.lst tl))) (hj : j < tl.length) :
   ∃ a us, σ[i]? = some (some (.ref a)) /\ H a = some (.lst us) /\ us.length = tl.length /\ bA K CL b (upd H a (.lst (us.set j v))) Z (δ.set i (some (.lst (tl.set j t)))) σ ts vs := by
 obtain ⟨fp, gp, e, r, nd, k⟩ := S.rep
 obtain ⟨v0, f1, f2, f3, hv, qF, rt, put, _⟩ := e.get hi
 subst qF
 cases rt with
 | @lst a us _ g ha rs =>
   cases r with
   | @cons _ _ _ _ ft gr q1 q2 =>
     have ne : ∀ c ∈ (f1 ++ (g ++ f3)) ++ (ft ++ gr), c ≠ a := fun c hc e => by
       subst e
       have hp : ((f1 ++ ((c :: g) ++ f3)) ++ (ft ++ gr)).Perm (c :: ((f1 ++ (g ++ f3)) ++ (ft ++ gr))) := by
         rw [akS, ← akS]
         exact (alC.append_right _)
       exact (alk.mp (hp.nodup_iff.mp nd)).1 hc
     refine ⟨a, us, hv, ha, rs.length.symm, ?_⟩
     obtain ⟨vj, g1, g2, g3, _, hg, _, set⟩ := rs.at (akX hj)
     subst hg
     have r1 : bR K CL (upd H a (.lst (us.set j v))) Z (.lst (tl.set j t)) (.ref a) (a :: (g1 ++ (ft ++ g3))) :=
       .lst aP (set (fun c hc => az (ne c (by
         rcases akC.mp hc with h | h
         . simp [h]
         . simp [h]))) (q1.mono (.refl _) fun c hc => az (ne c (by simp [hc]))))
     have e2 := put (H' := upd H a (.lst (us.set j v))) (.refl _) (fun c hc => az (ne c (by
       rcases akC.mp hc with h | h
       . simp [h]
       . simp [h]))) r1
     rw [eW hv] at e2
     have hp : ((f1 ++ ((a :: (g1 ++ (ft ++ g3))) ++ f3)) ++ gr).Perm ((f1 ++ ((a :: (g1 ++ g3)) ++ f3)) ++ (ft ++ gr)) := by
       simp only [akS, akx]
       refine ak8 f1 (List.Perm.cons a (ak8 g1 ?_))
       have := (akY (l₁ := ft) (l₂ := g3 ++ f3)).append_right gr
       simp only [akx] at this
       exact this
     have sb : ((f1 ++ ((a :: (g1 ++ g3)) ++ f3)) ++ (ft ++ gr)).Sublist ((f1 ++ ((a :: (g1 ++ (g2 ++ g3))) ++ f3)) ++ (ft ++ gr)) := by
       refine ak4 (ak4 (ak6 _) (ak4 (List.Sublist.cons₂ a ?_) (ak6 _))) (ak6 _)
       exact ak4 (ak6 _) (als _ _)
     exact S.write nd k (akA) ⟨_, ha⟩ e2 (q2.mono (.refl _) fun c hc => az (ne c (by simp [hc]))) (hp.nodup_iff.mpr (nd.sublist sb)) fun c hc => sb.subset (hp.mem_iff.mp hc)
end
section
variable {X : Cx} {CL : Str -> Addr} {b : Bx} {δ δ1 δ2 : List (Option T)} {e e2 : Expr} {t : T} {tl HW tt tt0 : List T} {D : cE} {pos pp pa pb : Pos}
theorem abl (i : Nat) {x : Str} (h0 : δ[i]? = some (some (.lst HW))) (h : cJ X CL b e δ t δ1) (h1 : δ1[i]? = some (some (.lst tl))) (hl : tl.length < sizeLine) (k : D.nx (δ1.set i (some (.lst (tl ++ [t])))))
   (hi : X.N[i]? = some x := by rfl) (hv : ZD X.env.scope x := by first | exact Or.inl rfl | exact Or.inr (Or.inl rfl) | exact Or.inr (Or.inr rfl)) (hd : (x == ("__debug__" : Str)) = false := by decide) (j4 : (x == ("__classdict__" : Str)) = false := by decide)
   (j5 : attributeBase (.Name x pp) "append" X.env (eval (.Name x pp) X.env) = eval (.Name x pp) X.env := by rfl)
   (qP : ((backTo pb (starEach [e] X.env)).all (fun x => !x.1) && (backToKw pb (keywordEach [] X.env)).all (fun x => x.1.isSome) && decide ([e].length + ([] : List Keyword).length + (if ([] : List Keyword).isEmpty then 0 else 1) < 30)) = true := by rfl)
   (hline : (pa.endLine == pb.line) = true := by rfl) (hs : starEach [e] X.env = (false, eval e X.env) :: starEach [] X.env := by exact bw rfl) (Cd : swapsWith (.Call (.Attribute (.Name x pp) "append" pa) [e] [] pb) none pos.line X.env = pure false := by rfl) :
   OZ X CL b (.Expr (.Call (.Attribute (.Name x pp) "append" pa) [e] [] pb) pos) δ D := fun H Z σ ts vs E S M =>
 om (sA (zP alH PySem.F.slot_list_append PySem.F.type_list_append xh (iC hi hv hd j4) (b8 dW dM hs) j5 qP hline hs rfl) Cd) (by
   obtain ⟨v0, e0, r0⟩ := S.look h0
   refine ⟨v0, e0, ?_, ?_⟩
   . rw [T.fc] at r0
     cases r0 with
     | lst hq _ => exact .inl ⟨rfl, _, hq⟩
   . refine h H Z σ ts vs _ S fun v H1 Z1 z1 k1 S1 => ?_
     obtain ⟨a, us, ea, ha, hu, S2⟩ := S1.append h1
     rw [e0] at ea
     cases ea
     exact ⟨a, us, v, rfl, rfl, ha, by rw [hu]; exact hl, M.nx _ σ _ Z1 z1 S2 k⟩)
end
noncomputable def ad5 : Option (Option T) -> Option T
 | some (some t) => some (.sh t.fc)
 | _ => none
noncomputable def shO : Option (Option T) -> Option T
 | some (some (T.sh d)) => some (.sh d)
 | _ => none
noncomputable def Ce (δ : List (Option T)) (ix : List Nat) : List (Option T) := ix.map fun i => ad5 δ[i]?
noncomputable def HX (δ : List (Option T)) (ix : List Nat) : List (Option T) := ix.map fun i => shO δ[i]?
section
variable {K : PySem.W.Frag} {CL : Str -> Addr} {b : Bx} {H Z : Hp} {δ : List (Option T)} {σ : L2.St} {ts : List T} {vs : List V}
theorem zU (S : bA K CL b H Z δ σ ts vs) : ∀ (ix : List Nat) (H' : Hp), eN K CL H' H (Ce δ ix) (ix.map fun i => (σ[i]?).getD none) []
 | [], _ => .nil
 | i :: r, H' => by
   have ih := zU S r H'
   show eN K CL H' H (ad5 δ[i]? :: Ce δ r) (((σ[i]?).getD none) :: r.map fun i => (σ[i]?).getD none) []
   cases e : δ[i]? with
   | none => exact .skip ih
   | some o =>
     cases o with
     | none => exact .skip ih
     | some t =>
       obtain ⟨v, hv, rv⟩ := S.look e
       rw [hv]
       exact .cons (fp := []) (gp := []) (.sh rv) ih
theorem HY (S : bA K CL b H Z δ σ ts vs) : ∀ (ix : List Nat) (H' : Hp), eN K CL H' Z (HX δ ix) (ix.map fun i => (σ[i]?).getD none) []
 | [], _ => .nil
 | i :: r, H' => by
   have ih := HY S r H'
   show eN K CL H' Z (shO δ[i]? :: HX δ r) (((σ[i]?).getD none) :: r.map fun i => (σ[i]?).getD none) []
   cases e : δ[i]? with
   | none => exact .skip ih
   | some o =>
     cases o with
     | none => exact .skip ih
     | some t =>
       cases t with
       | sh d =>
         obtain ⟨v, hv, rv⟩ := S.Rx e
         rw [hv]
         exact .cons (fp := []) (gp := []) (.sh rv) ih
       | tup _ => exact .skip ih
       | lst _ => exact .skip ih
       | ins _ _ => exact .skip ih
       | oj _ => exact .skip ih
       | dct _ => exact .skip ih
       | pin _ _ => exact .skip ih
end
section
variable {X : Cx} {CL : Str -> Addr} {b : Bx} {δ δ1 : List (Option T)} {scope : Scope} {x : Str} {Nc : List Str} {ix : List Nat} {elt iter : Expr} {ifs : List Expr} {px pos : Pos} {ds : List D}
structure Comes (X : Cx) (CL : Str -> Addr) (b : Bx) (δ1 : List (Option T)) (σ : L2.St) (ts : List T) (vs : List V) (Z H : Hp) (ds : List D) (J : It) (H1 : Hp) : Prop where
 ex : ∃ Z1 us, aG Z Z1 /\ aG H H1 /\ bA X.K CL b H1 Z1 δ1 σ ts vs /\ aD X.K CL Z1 ds us /\ (∀ i H2, aG Z1 H2 -> i < ds.length -> J.go i H2) ∧
   (∀ i H2 x H', aG Z1 H2 -> i < ds.length -> J.ZI i H2 x H' -> H' = H2 /\ us[i]? = some x) /\ (∀ H2, aG Z1 H2 -> J.stop ds.length H2)
noncomputable def Vx (X : Cx) (CL : Str -> Addr) (b : Bx) (tg e : Expr) (δ : List (Option T)) (ds : List D) (δ1 : List (Option T)) : Prop :=
 ∃ wi, PI X tg e wi /\ ∀ (H Z : Hp) (σ : L2.St) (ts : List T) (vs : List V) (R : It -> Hp -> Prop), bA X.K CL b H Z δ σ ts vs -> (∀ J H1, Comes X CL b δ1 σ ts vs Z H ds J H1 -> R J H1) -> wi σ H R
theorem dh {tg : Expr} (h : cJ X CL b iter δ (.sh (.lst ds)) δ1) : Vx X CL b tg iter δ ds δ1 := by
 refine ⟨_, VM dW, fun H Z σ ts vs R S k => h H Z σ ts vs _ S fun v H1 Z1 z1 k1 S1 => ?_⟩
 obtain ⟨fp, gp, _, r, _, _⟩ := S1.rep
 cases r with
 | cons r _ =>
   cases r with
   | sh r =>
     cases r with
     | @lst a us _ hq rr =>
       refine ⟨a, rfl, ⟨us, S1.zh.seq hq⟩, k _ _ ⟨Z1, us, z1, k1, S1.pop, rr, fun i H2 s hi => ?_, fun i H2 y H' s hi hy => ⟨hy.1, hy.2 us (s.seq hq)⟩, fun H2 s => ⟨us, s.seq hq, by rw [rr.length]; exact akG _⟩⟩⟩
       have hi' : i < us.length := by rw [← rr.length]; exact hi
       exact ⟨us, us[i], s.seq hq, by simp [hi']⟩
theorem zV {tg : Expr} (h : cJ X CL b iter δ (.sh (.tup ds)) δ1) : Vx X CL b tg iter δ ds δ1 := by
 refine ⟨_, aaO dW, fun H Z σ ts vs R S k => h H Z σ ts vs _ S fun v H1 Z1 z1 k1 S1 => ?_⟩
 obtain ⟨fp, gp, _, r, _, _⟩ := S1.rep
 cases r with
 | cons r _ =>
   cases r with
   | sh r =>
     cases r with
     | @tup a us _ hq rr =>
       refine ⟨a, rfl, ⟨us, aG.Rp S1.zh hq⟩, k _ _ ⟨Z1, us, z1, k1, S1.pop, rr, fun i H2 s hi => ?_, fun i H2 y H' s hi hy => ⟨hy.1, hy.2 us (aG.Rp s hq)⟩, fun H2 s => ⟨us, aG.Rp s hq, by rw [rr.length]; exact akG _⟩⟩⟩
       have hi' : i < us.length := by rw [← rr.length]; exact hi
       exact ⟨us, us[i], aG.Rp s hq, by simp [hi']⟩
noncomputable def iH (lo : Int) (n : Nat) : List D := (List.range n).map fun (i : Nat) => D.int (lo + i)
theorem RM {K : PySem.W.Frag} {Z : Hp} (lo : Int) (n : Nat) : aD K CL Z (iH lo n) ((List.range n).map fun (i : Nat) => V.int (lo + i)) := by
 unfold iH
 generalize List.range n = l
 induction l with
 | nil => exact .nil
 | cons i r ih => exact .cons (.int _) ih
theorem vG {tg : Expr} {pr pc : Pos} {n : Int} (hm : X.mg "range" = none) (h : dU X CL b iter δ (.int n) δ1) (hn : -(2 ^ 62) <= n /\ n < 2 ^ 62) (hg : Gl X "range") (HF : starEach [iter] X.env = [(false, eval iter X.env)] := by rfl) (agt : starEach [iter] X.env = (false, eval iter X.env) :: starEach [] X.env := by exact bw rfl) :
   Vx X CL b tg (.Call (.Name "range" pr) [iter] [] pc) δ (iH 0 n.toNat) δ1 := by
 refine ⟨_, Ox hg hm (b8 dW dM agt) HF, fun H Z σ ts vs R S k => h H Z σ ts vs _ S fun v H1 Z1 z1 k1 S1 r => ⟨n, by rw [r.sc rfl], hn.1, hn.2, k _ _ ⟨Z1, _, z1, k1, S1, RM 0 n.toNat, fun i H2 s hi => ?_, fun i H2 y H' s hi hy => ?_, fun H2 s => ?_⟩⟩⟩
 . show i < n.toNat
   have : (iH 0 n.toNat).length = n.toNat := by simp [iH]
   omega
 . have hi' : i < n.toNat := by simpa [iH] using hi
   refine ⟨hy.1, ?_⟩
   rw [ak0, alV hi', hy.2]
   rfl
 . show n.toNat <= (iH 0 n.toNat).length
   simp [iH]
theorem abn {D : cE} {d8 : List Stmt} (i : Nat) {pos' : Pos} (P : Nat -> List (Option T) -> Prop) (h : Vx X CL b (.Name x pos') iter δ ds δ1) (h0 : P 0 δ1) (hl : ∀ j δ, P j δ -> i < δ.length)
   (hs : ∀ j d δ, ds[j]? = some d -> P j δ -> eL X CL b d8 (δ.set i (some (.sh d))) { nx := P (j + 1), rt := D.rt, bk := D.nx, ct := P (j + 1) }) (hd : ∀ δ, P ds.length δ -> D.nx δ)
   (hp : PassesOwn (model X.prog X.w) X.A X.env X.xe) (hc : X.calm = true) (hN : X.N.Nodup) (hi : X.N[i]? = some x) (hx : Loc X.env.scope x) (hf : X.fn x = true \/ X.env.scope.names.lookup x = some .local) (hq : ∀ x, foldedSetIterable iter X.env x = pure x := by intro _; rfl) :
   OZ X CL b (.For (.Name x pos') iter d8 [] pos) δ D := fun H Z σ ts vs E S M => by
 obtain ⟨wi, pi, hw⟩ := h
 refine om (QX hp hc pi (vq hN hi hx hf) QD hq) (hw H Z σ ts vs _ S fun J H1 zz => ?_)
 obtain ⟨Z1, us, z1, k1, S1, rr, go, yl, st⟩ := zz
 refine ⟨fun j m σ H2 => m = ds.length - j /\ j <= ds.length /\ ∃ Z2 δ2, aG Z1 Z2 /\ bA X.K CL b H2 Z2 δ2 σ ts vs /\ P j δ2, ⟨_, rfl, akV _, Z1, δ1, .refl _, S1, h0⟩, ?_⟩
 rintro j m σ H2 ⟨rfl, hj, Z2, δ2, s, S2, p2⟩
 by_cases vo : j < ds.length
 . refine .inr ⟨go j H2 (s.trans S2.zh) vo, fun σ' H' => ∃ Z2 δ2, aG Z1 Z2 /\ bA X.K CL b H' Z2 δ2 σ' ts vs /\ P (j + 1) δ2, fun σ' H' h => ⟨ds.length - (j + 1), by omega, rfl, vo, h⟩, fun y H' hy => ?_⟩
   obtain ⟨e, hu⟩ := yl j H2 y H' (s.trans S2.zh) vo hy
   subst e
   obtain ⟨d, VG, rd⟩ := rr.Rq hu
   have S3 := (S2.push (rd.mono s)).set (hl j δ2 p2)
   exact hs j d δ2 VG p2 _ Z2 _ ts vs _ S3 ⟨fun δ' σ' H' Z' s' S' k => ⟨Z', δ', s.trans s', S', k⟩, fun t v H' Z' δ' σ' s' S' k => M.rt t v H' Z' δ' σ' (z1.trans (s.trans s')) S' k, fun δ' σ' H' Z' s' S' k => M.nx δ' σ' H' Z' (z1.trans (s.trans s')) S' k, fun δ' σ' H' Z' s' S' k => ⟨Z', δ', s.trans s', S', k⟩⟩
 . have e : j = ds.length := by omega
   subst e
   exact .inl ⟨st H2 (s.trans S2.zh), M.nx δ2 σ H2 Z2 (z1.trans s) S2 (hd δ2 p2)⟩
noncomputable def Block (X : Cx) (CL : Str -> Addr) (scope : Scope) (Nc : List Str) (ifs : List Expr) (elt : Expr) (δc : List (Option T)) (ds : List D) (p : D -> Bool) (g : D -> T) : Prop :=
 ∀ C s0 H0 f0 b' d, d ∈ ds -> TIv (dN X scope Nc C s0 H0 f0) CL b' ifs (some (.sh d) :: δc) (p d) /\ (p d = true -> cJ (dN X scope Nc C s0 H0 f0) CL b' elt (some (.sh d) :: δc) (g d) (some (.sh d) :: δc))
variable {p : D -> Bool} {g : D -> T} {δc : List (Option T)}
end
section
variable {X : Cx} {CL : Str -> Addr} {b : Bx} {δ δ1 : List (Option T)} {scope : Scope} {x : Str} {Nc : List Str} {ix : List Nat} {elt iter : Expr} {ifs : List Expr} {px pos : Pos} {ds : List D} {p : D -> Bool} {g : D -> T} {δc : List (Option T)}
end
theorem aA {n : Nat} (h : Nat.ble n 1000 = true) : n <= sizeLine := alj (cI (akz h))
structure Vn (X : Cx) (i : Nat) (x : Str) : Prop where
 hi : X.N[i]? = some x
 hv : ZD X.env.scope x
 hd : (x == ("__debug__" : Str)) = false
 j4 : (x == ("__classdict__" : Str)) = false
structure Ln (X : Cx) (i : Nat) (x : Str) : Prop extends Vn X i x where
 loc : Loc X.env.scope x
 hf : X.fn x = true \/ X.env.scope.names.lookup x = some .local
structure Gx (X : Cx) : Prop where
 nd : X.N.Nodup
 calm : X.calm = true
 xe : PassesOwn (model X.prog X.w) X.A X.env X.xe
structure Fc (X : Cx) (CL : Str -> Addr) (x : Str) (k n : Nat) {A : Type} (arg : A -> List D) (Pre : A -> Prop) (res : A -> T) : Prop where
 ex : ∃ f fd ps, bN X.prog X.w X.K X.mg X.base fO k f fd ps (mE X.K CL n arg Pre res) /\ X.mg x = some (.ref f) /\ PySem.W.keepIn X.K (.ref f) = true /\ Binds X.K fd ps []
 room : dg k X.A
section
variable {X : Cx} {CL : Str -> Addr} {b : Bx} {δ δ1 δ2 : List (Option T)} {e e1 e2 : Expr} {es : List Expr} {d : L3.D} {t : T} {i : Nat} {x : Str} {pos pp : Pos} {D : cE} {d8 : List Stmt} {ds : List L3.D}
theorem v_ (n : Vn X i x) (h : δ[i]? = some (some (.sh d)) := by rfl) : cJ X CL b (.Name x pos) δ (.sh d) δ := abd i n.hi n.hv n.hd n.j4 h
theorem vM (n : Vn X i x) (h : δ[i]? = some (some t) := by rfl) : cJ X CL b (.Name x pos) δ t (δ.set i none) := V7 i n.hi n.hv n.hd n.j4 h
theorem vB (n : Vn X i x) (h : δ[i]? = some (some t) := by rfl) : dU X CL b (.Name x pos) δ t.fc δ := abe i n.hi n.hv n.hd n.j4 h
theorem qR {k : Int} (h : dU X CL b e δ (.int k) δ1) : cJ X CL b (.UnaryOp .USub e pos) δ (.sh (.int (-k))) δ1 := fun H Z σ ts vs Q S kk =>
 cL (adC aaV dW) (h H Z σ ts vs _ S fun v H1 Z1 z1 k1 S1 r => ⟨k, r.sc rfl, kk _ H1 Z1 z1 k1 (S1.push (.int _))⟩)
theorem vL (n : Vn X i x) (h : δ[i]? = some (some (.lst (ds.map T.sh))) := by rfl) : dU X CL b (.Name x pos) δ (.lst ds) δ := by
 have := vB (CL := CL) (b := b) (pos := pos) n h
 rwa [T.fc, oY] at this
theorem c_ {k n : Nat} {A : Type} {arg : A -> List L3.D} {Pre : A -> Prop} {res : A -> T} (a : A) (F : Fc X CL x k n arg Pre res) (hg : Gl X x) (h : OY X CL b (e :: es) δ (arg a) δ1) (hp : Pre a) (hc : (res a).clean = true) (hn : (arg a).length = n := by rfl)
   (tU : (x == ("__debug__" : Str)) = false := by decide) (he : starEach (e :: es) X.env = (false, eval e X.env) :: starEach es X.env := by exact bw rfl) (hpl : (backTo pos (starEach es X.env)).any (·.1) = false := by rfl) :
   cJ X CL b (.Call (.Name x pp) (e :: es) [] pos) δ (res a) δ1 := by
 obtain ⟨f, fd, ps, F1, m, k, b⟩ := F.ex
 exact Wc a F1 F.room m k b h hn hp hc hg tU he hpl
theorem aU {pos' : Pos} (g : Gx X) (n : Ln X i x) (h : cJ X CL b e δ t δ1) (k : eL X CL b d8 (δ1.set i (some t)) D) (hl : i < δ1.length := by exact akz rfl) (hs : swapsWith e (some (.Name x pos')) pos.line X.env = pure false := by rfl) :
   eL X CL b (.Assign [.Name x pos'] e pos :: d8) δ D := ck (RK i h k hl g.nd n.hi n.loc hs n.hf)
theorem cu (h : cJ X CL b e δ t δ1) (k : D.rt t δ1) : eL X CL b (.Return (some e) pos :: d8) δ D := ck (abj h k)
theorem m8 {p : Bool} {a c : List Stmt} (h : yw X CL b e δ p δ1) (h1 : p = true -> eL X CL b a δ1 { D with nx := fun δ2 => eL X CL b d8 δ2 D }) (h2 : p = false -> eL X CL b c δ1 { D with nx := fun δ2 => eL X CL b d8 δ2 D }) : eL X CL b (.If e a c pos :: d8) δ D := ck (ad3 h h1 h2)
theorem iI {body : List Stmt} {pos' : Pos} (g : Gx X) (n : Ln X i x) (P : Nat -> List (Option T) -> Prop) (h : Vx X CL b (.Name x pos') e δ ds δ1) (h0 : P 0 δ1) (hl : ∀ j δ, P j δ -> i < δ.length)
   (hs : ∀ j d δ, ds[j]? = some d -> P j δ -> eL X CL b body (δ.set i (some (.sh d))) { nx := P (j + 1), rt := D.rt, bk := fun δ2 => eL X CL b d8 δ2 D, ct := P (j + 1) }) (hd : ∀ δ, P ds.length δ -> eL X CL b d8 δ D) (hq : ∀ x, foldedSetIterable e X.env x = pure x := by intro _; rfl) :
   eL X CL b (.For (.Name x pos') e body [] pos :: d8) δ D :=
 ck (abn (D := { D with nx := fun δ1 => eL X CL b d8 δ1 D }) i P h h0 hl hs hd g.xe g.calm g.nd n.hi n.loc n.hf hq)
theorem zW {e : Expr} {o : Option Expr} {l : Nat} {env : Env} (h : ∃ c, swapsWith e o l env = pure c) : swapsWith e o l env = pure true \/ swapsWith e o l env = pure false := by
 obtain ⟨c, h⟩ := h
 cases c
 . exact .inr h
 . exact .inl h
theorem jG {scope : Scope} {Nc : List Str} {C : Addr} {s : Shared} {H : Hp} {fp : List Addr} (h1 : Nc[i]? = some x) (h2 : scope.names.lookup x = some .local) (hd : (x == ("__debug__" : Str)) = false := by decide) (j4 : (x == ("__classdict__" : Str)) = false := by decide) : Vn (dN X scope Nc C s H fp) i x :=
 ⟨h1, .inl (lookup_relabel_local h2), hd, j4⟩
theorem uy {scope : Scope} {Nc : List Str} {C : Addr} {s : Shared} {H : Hp} {fp : List Addr} (h1 : Nc[i]? = some x) (h2 : scope.names.lookup x = some .free) (hd : (x == ("__debug__" : Str)) = false := by decide) (j4 : (x == ("__classdict__" : Str)) = false := by decide) : Vn (dN X scope Nc C s H fp) i x := by
 refine ⟨h1, ?_, hd, j4⟩
 have q := fX (env := X.env) h2
 show (relabel scope X.env).names.lookup x = some .local \/ (relabel scope X.env).names.lookup x = some .cell \/ (relabel scope X.env).names.lookup x = some .free
 rw [show (relabel scope X.env).names.lookup x = _ from q]
 split
 . exact .inr (.inl rfl)
 . exact .inr (.inr rfl)
theorem o9 {scope : Scope} {Nc : List Str} {C : Addr} {s : Shared} {H : Hp} {fp : List Addr} (h2 : scope.names.lookup x = some .globalImplicit) : Gl (dN X scope Nc C s H fp) x := by
 have q := fX (env := X.env) h2
 show (relabel scope X.env).names.lookup x = some .globalImplicit
 rw [show (relabel scope X.env).names.lookup x = _ from q]
 rfl
theorem Wd {scope : Scope} {Nc : List Str} {C : Addr} {s : Shared} {H : Hp} {fp : List Addr} (g : Gx X) (h : Nc.Nodup) : Gx (dN X scope Nc C s H fp) := ⟨h, g.calm, .never⟩
theorem Nu {scope : Scope} {Nc : List Str} {C : Addr} {s : Shared} {H : Hp} {fp : List Addr} {k n : Nat} {A : Type} {arg : A -> List L3.D} {Pre : A -> Prop} {res : A -> T} (F : Fc X CL x k n arg Pre res) : Fc (dN X scope Nc C s H fp) CL x k n arg Pre res := ⟨F.ex, F.room⟩
end
section
variable {X : Cx} {CL : Str -> Addr} {b : Bx} {δ δ1 δ2 : List (Option T)} {e e1 e2 : Expr} {es : List Expr} {ds : List L3.D} {pos : Pos}
end
section
variable {X : Cx} {CL : Str -> Addr} {b : Bx} {δ δ1 : List (Option T)} {e : Expr} {d : L3.D} {t : String} {pos pp pq : Pos}
theorem bQ : bootBuiltins "list" = some (.type "list") := by decide +kernel
theorem HZ : bootBuiltins "tuple" = some (.type "tuple") := by decide +kernel
end
noncomputable def lG (sc : Scope) (l : List (Str × NameKind)) : Bool := l.all fun p => sc.names.lookup p.1 == some p.2
theorem fQ {sc : Scope} {l : List (Str × NameKind)} (h : lG sc l = true) (i : Nat) {x : Str} {k : NameKind} (hi : l[i]? = some (x, k)) : sc.names.lookup x = some k := by
 unfold lG at h
 rw [List.all_eq_true] at h
 exact amc.mp (h _ (alr hi))
inductive Wf (X : Cx) : List Nat -> List Str -> Prop where
 | nil : Wf X [] []
 | cons {i : Nat} {y : Str} {ix : List Nat} {ys : List Str} (n : Vn X i y) (k : X.env.kindOf y = some .cell \/ X.env.kindOf y = some .free) (r : Wf X ix ys) : Wf X (i :: ix) (y :: ys)
noncomputable def RN (scope : Scope) (x : Str) (Ic : List Str) : Bool :=
 scope.kind == .function && scope.names.lookup x == some .local && Ic.all (fun y => scope.names.lookup y == some .free) && decide ((x :: Ic).Nodup) &&
   scope.names.all fun y => y.2 != .cell && (y.2 != .local || scope.names.lookup y.1 == some .local) && (y.2 != .free || (Ic.contains y.1 && scope.names.lookup y.1 == some .free))
theorem cS {X : Cx} {scope : Scope} {x : Str} {ix : List Nat} {Ic : List Str} (c : Wf X ix Ic) (ok : RN scope x Ic = true) : iG X scope x (x :: Ic) ix := by
 unfold RN at ok
 simp only [alf, List.all_eq_true, decide_eq_true_eq, amc] at ok
 obtain ⟨⟨⟨⟨h1, h2⟩, h3⟩, h4⟩, h5⟩ := ok
 have kc : ∀ y ∈ Ic, X.env.kindOf y = some .cell \/ X.env.kindOf y = some .free := by
   clear h3 h4 h5
   induction c with
   | nil => intro y hy; cases hy
   | cons n k r ih =>
     intro y hy
     rcases akB.mp hy with e | hy
     . subst e; exact k
     . exact ih y hy
 refine ⟨h1, fun y hy e => ?_, h4, fun y hy e => ?_, h2, fun y hy e => ?_, ?_, fun i hi => ?_⟩
 . have := (h5 y hy).1.1
   rw [e] at this
   simp at this
 . have := (h5 y hy).1.2
   rw [e] at this
   simpa using this
 . have := (h5 y hy).2
   rw [e] at this
   simp at this
   exact ⟨this.2, kc _ this.1⟩
 . congr 1
   clear h3 h4 h5 kc
   induction c with
   | nil => rfl
   | cons n k r ih => rw [ald, n.hi, ← ih]
 . clear h4 h5 kc
   induction c with
   | nil => cases hi
   | @cons i' y ix ys n k r ih =>
     rcases akB.mp hi with e | hi
     . subst e; exact ⟨y, n.hi, h3 y akA⟩
     . exact ih (fun z hz => h3 z (akE _ hz)) hi
noncomputable def D.QF : D -> Int
 | .int i => i
 | _ => 0
theorem zX {bs : List Int} {k : Int} (h0 : 0 <= k) (h1 : k < bs.length) : Hs (bs.map D.int) k = some (.int (bs.getD k.toNat 0)) := by
 obtain ⟨j, rfl⟩ : ∃ j : Nat, k = j := ⟨k.toNat, by omega⟩
 refine bE ?_
 have hl : j < bs.length := by omega
 rw [ak0, akX hl]
 simp [List.getD, hl]
theorem dO : ∀ (bs : List Int), D.bS (bs.map D.int) = true
 | [] => rfl
 | i :: r => by rw [akP, D.bS, dO r]; rfl
theorem Ie {lo : Int} {n j : Nat} {d : D} (h : (iH lo n)[j]? = some d) : d = .int (lo + j) /\ j < n := by
 have hl : j < n := by
   have := (ak7.mp h).1
   simpa [iH] using this
 refine ⟨?_, hl⟩
 unfold iH at h
 rw [ak0, alV hl] at h
 exact (akU h).symm
theorem iJ {α : Type} (l : List α) : l.filter (fun _ => true) = l := by simp
theorem Ig {K : PySem.W.Frag} {CL : Str -> Addr} {Z : Hp} : ∀ (ns : List Int), aD K CL Z (ns.map D.int) (ns.map V.int)
 | [] => .nil
 | n :: r => .cons (.int n) (Ig r)
mutual
noncomputable def D.toPy : D -> PyData
 | .non => .none
 | .bl b => .bool b
 | .int i => .int i
 | .str x => .str x
 | .tup ds => .tuple (D.qS ds)
 | .lst ds => .list (D.qS ds)
 | .ins _ _ => .none
 | .oj _ => .none
 | .dct _ => .none
 | .any => .none
 | .val _ => .none
noncomputable def D.qS : List D -> List PyData
 | [] => []
 | d :: ds => d.toPy :: D.qS ds
end
inductive qH : Nat -> D -> Prop where
 | non (n : Nat) : qH n .non
 | bl (n : Nat) (b : Bool) : qH n (.bl b)
 | int (n : Nat) (i : Int) : qH n (.int i)
 | str (n : Nat) (x : Str) (h : PyData.strOk x = true) : qH n (.str x)
 | tup {n : Nat} {ds : List D} (h : ∀ d ∈ ds, qH n d) : qH (n + 1) (.tup ds)
 | lst {n : Nat} {ds : List D} (h : ∀ d ∈ ds, qH n d) : qH (n + 1) (.lst ds)
noncomputable def Vy (a b : D) : Bool := PyData.eqv a.toPy b.toPy
theorem qH.abo {n : Nat} : ∀ {ds : List D}, (∀ d ∈ ds, d.toPy.canLay0 = true /\ d.toPy.depth <= n) -> PyData.canLayAll0 (D.qS ds) = true /\ PyData.depthAll (D.qS ds) <= n
 | [], _ => ⟨by rw [D.qS, PyData.canLayAll0], by rw [D.qS, PyData.depthAll]; exact akV _⟩
 | d :: ds, h => by
   have h1 := h d akA
   have h2 := qH.abo (ds := ds) fun e he => h e (akE _ he)
   rw [D.qS, PyData.canLayAll0, PyData.depthAll, h1.1, h2.1]
   exact ⟨rfl, Nat.max_le.mpr ⟨h1.2, h2.2⟩⟩
theorem qH.lay {n : Nat} {d : D} (h : qH n d) : d.toPy.canLay0 = true /\ d.toPy.depth <= n := by
 induction h with
 | non n => exact ⟨by rw [D.toPy, PyData.canLay0], by rw [D.toPy, PyData.depth]; exact akV _⟩
 | bl n b => exact ⟨by rw [D.toPy, PyData.canLay0], by rw [D.toPy, PyData.depth]; exact akV _⟩
 | int n i => exact ⟨by rw [D.toPy, PyData.canLay0], by rw [D.toPy, PyData.depth]; exact akV _⟩
 | str n x hx => exact ⟨by rw [D.toPy, PyData.canLay0]; exact hx, by rw [D.toPy, PyData.depth]; exact akV _⟩
 | @tup n ds _ ih =>
   have := qH.abo ih
   rw [D.toPy, PyData.canLay0, PyData.depth]
   exact ⟨this.1, by omega⟩
 | @lst n ds _ ih =>
   have := qH.abo ih
   rw [D.toPy, PyData.canLay0, PyData.depth]
   exact ⟨this.1, by omega⟩
theorem vH {n : Nat} {d : D} (h : qH n d) : Vy d d = true := SeqAt.eqv_refl _ h.lay.1
section
variable {X : Cx} {CL : Str -> Addr} {pins : List (Addr × Obj)} {σ : L2.St} {H : Hp} {s : Shared}
theorem RP (I : L2.Inv X pins σ H s) {n : Nat} {d : D} {v : V} {u : Value} (hd : qH n d) (q : bM X.K CL H d v) (r : RelV v u) : ∃ as, Reads s.heap u d.toPy as := by
 refine bM.rec (motive_1 := fun d v _ => ∀ (n : Nat) (u : Value), qH n d -> RelV v u -> ∃ as, Reads s.heap u d.toPy as)
   (motive_2 := fun ds vs _ => ∀ (n : Nat) (us : List Value), (∀ d ∈ ds, qH n d) -> Vals vs us -> ∃ as, ReadsAll s.heap us (D.qS ds) as) (motive_3 := fun _ _ _ => True) (motive_4 := fun _ _ _ => True) (motive_5 := fun _ _ _ => True)
   (fun _ _ _ r => ?non) (fun b _ _ _ r => ?bl) (fun i _ _ _ r => ?int) (fun x _ _ _ r => ?str) (fun _ _ _ hd _ => by cases hd) (fun _ _ _ hd _ => by cases hd) (fun hq _ ih n u hd r => ?tup) (fun hq _ ih n u hd r => ?lst) (fun _ _ _ _ _ hd _ => by cases hd) (fun _ _ _ _ _ hd _ => by cases hd) (fun _ _ _ _ _ hd _ => by cases hd)
   (fun _ _ _ r => ?nil) (fun _ _ ih ihs n us h r => ?cons) trivial (fun _ _ _ _ => trivial) trivial (fun _ _ _ _ => trivial) trivial (fun _ _ _ _ => trivial) q n u hd r
 case non => cases r; rw [D.toPy]; exact ⟨[], .none⟩
 case bl => cases r; rw [D.toPy]; exact ⟨[], .bool b⟩
 case int => obtain ⟨t, rfl⟩ := r; rw [D.toPy]; exact ⟨[], .int i t⟩
 case str => obtain ⟨t, rfl⟩ := r; rw [D.toPy]; exact ⟨[], .str x t⟩
 case tup =>
   cases hd with
   | tup hd =>
     cases r
     obtain ⟨its, rv, ⟨o, e, c, k, dt⟩, _⟩ := I.tuple hq
     obtain ⟨as, ra⟩ := ih _ _ hd rv
     rw [D.toPy]
     exact ⟨as, .tuple e c dt (by simpa using ra)⟩
 case lst =>
   cases hd with
   | lst hd =>
     cases r
     obtain ⟨its, rv, ⟨o, k, e, c, _, dt⟩, _⟩ := I.list hq
     obtain ⟨as, ra⟩ := ih _ _ hd rv
     rw [D.toPy]
     exact ⟨_, .list e c dt (by simpa using ra)⟩
 case nil => cases r; rw [D.qS]; exact ⟨[], .nil⟩
 case cons =>
   cases r with
   | cons r rs =>
     obtain ⟨as, ra⟩ := ih n _ (h _ akA) r
     obtain ⟨bs, rb⟩ := ihs n _ (fun e he => h e (akE _ he)) rs
     rw [D.qS]
     exact ⟨as ++ bs, .cons ra rb⟩
end
section
variable {X : Cx} {CL : Str -> Addr} {b : Bx} {δ δ1 δ2 δ3 : List (Option T)} {e e1 e2 e3 : Expr} {d1 d2 : D} {ds : List D} {pos p2 pp : Pos} {n m : Nat} {i : Nat} {x : Str} {t : T} {d8 : List Stmt} {DD : cE}
theorem RQ (hu : X.A.units + 64 < cLine) : yX X (compareOp .NotEq) (fun x y H Q => ∃ a c, bM X.K CL H a x /\ bM X.K CL H c y /\ qH 60 a /\ qH 60 c /\ Q (.bl (!Vy a c)) H) := by
 intro pins s σ H x y v u Q I rx ry h
 obtain ⟨a, c, ra, rc, da, dc, q⟩ := h
 obtain ⟨as, r1⟩ := RP I da ra rx
 obtain ⟨bs, r2⟩ := RP I dc rc ry
 exact SeqAt.rcNeAt_reads r1 r2 da.lay.1 dc.lay.1 (by have := da.lay.2; omega) X.prog X.w X.xe _ ⟨.bl _, H, I, rfl, q⟩
theorem agu {op : CmpOp} {f : Bool -> Bool} (ho : yX X (compareOp op) (fun x y H Q => ∃ a c, bM X.K CL H a x /\ bM X.K CL H c y /\ qH 60 a /\ qH 60 c /\ Q (.bl (f (Vy a c))) H)) (h1 : dU X CL b e1 δ d1 δ1) (h2 : dU X CL b e2 δ1 d2 δ2) (k1 : qH 60 d1) (k2 : qH 60 d2)
   (hm : behindInMarks op e2 = false) : yw X CL b (.Compare e1 [op] [e2] pos) δ (f (Vy d1 d2)) δ2 /\ cJ X CL b (.Compare e1 [op] [e2] pos) δ (.sh (.bl (f (Vy d1 d2)))) δ2 := by
 constructor
 . intro H Z σ ts vs Q S k
   refine HR (sC ho dW dW hm) (h1 H Z σ ts vs _ S fun v1 H1 Z1 z1 k1' S1 r1 => h2 H1 Z1 σ ts vs _ S1 fun v2 H2 Z2 z2 k2' S2 r2 => ?_)
   exact ⟨d1, d2, r1.mono k2', r2, k1, k2, _, rfl, k H2 Z2 (z1.trans z2) (k1'.trans k2') S2⟩
 . intro H Z σ ts vs Q S k
   refine cL (vt ho dW dW hm) (h1 H Z σ ts vs _ S fun v1 H1 Z1 z1 k1' S1 r1 => h2 H1 Z1 σ ts vs _ S1 fun v2 H2 Z2 z2 k2' S2 r2 => ?_)
   exact ⟨d1, d2, r1.mono k2', r2, k1, k2, k _ H2 Z2 (z1.trans z2) (k1'.trans k2') (S2.push (.bl _))⟩
theorem zY (hu : X.A.units + 64 < cLine) (h1 : dU X CL b e1 δ d1 δ1) (h2 : dU X CL b e2 δ1 d2 δ2) (k1 : qH 60 d1) (k2 : qH 60 d2) : yw X CL b (.Compare e1 [.NotEq] [e2] pos) δ (!Vy d1 d2) δ2 /\ cJ X CL b (.Compare e1 [.NotEq] [e2] pos) δ (.sh (.bl (!Vy d1 d2))) δ2 :=
 agu (f := fun b => !b) (RQ hu) h1 h2 k1 k2 (w9 _)
noncomputable def cutD {α : Type} (xs : List α) (lo hi : Option Int) : List α := (xs.drop (HT.Er xs.length 0 lo)).take (HT.Er xs.length xs.length hi - HT.Er xs.length 0 lo)
theorem aD.drop {K : PySem.W.Frag} {Z : Hp} : ∀ {ds : List L3.D} {vs : List V} (n : Nat), aD K CL Z ds vs -> aD K CL Z (ds.drop n) (vs.drop n)
 | _, _, 0, r => r
 | _, _, _ + 1, .nil => .nil
 | _, _, n + 1, .cons _ t => aD.drop n t
theorem aD.take {K : PySem.W.Frag} {Z : Hp} : ∀ {ds : List L3.D} {vs : List V} (n : Nat), aD K CL Z ds vs -> aD K CL Z (ds.take n) (vs.take n)
 | _, _, 0, _ => .nil
 | _, _, _ + 1, .nil => .nil
 | _, _, n + 1, .cons r t => .cons r (aD.take n t)
theorem aD.cut {K : PySem.W.Frag} {Z : Hp} {ds : List L3.D} {vs : List V} (r : aD K CL Z ds vs) (lo hi : Option Int) : aD K CL Z (cutD ds lo hi) (OL vs lo hi) := by
 unfold cutD OL
 rw [r.length]
 exact (r.drop _).take _
theorem gO : ∀ {ds : List L3.D}, D.bS ds = true -> ∀ d ∈ ds, d.m5 = true
 | [], _, _, h => by cases h
 | d :: ds, k, e, h => by
   rw [D.bS, alf] at k
   rcases akB.mp h with h | h
   . subst h; exact k.1
   . exact gO k.2 e h
theorem kI : ∀ {ds : List L3.D}, (∀ d ∈ ds, d.m5 = true) -> D.bS ds = true
 | [], _ => rfl
 | d :: ds, h => by rw [D.bS, h d akA, kI fun e he => h e (akE _ he)]; rfl
theorem Wg {α : Type} {xs : List α} {lo hi : Option Int} {x : α} (h : x ∈ cutD xs lo hi) : x ∈ xs := List.mem_of_mem_drop (List.mem_of_mem_take h)
noncomputable def TOv (X : Cx) (CL : Str -> Addr) (b : Bx) (e : Option Expr) (δ : List (Option T)) (k : Option Int) (δ' : List (Option T)) : Prop :=
 ∃ t, PO X e t /\ ∀ (H Z : Hp) (σ : L2.St) (ts : List T) (vs : List V) (Q : Option Int -> Hp -> Prop), bA X.K CL b H Z δ σ ts vs -> (∀ H' Z', aG Z Z' -> aG H H' -> bA X.K CL b H' Z' δ' σ ts vs -> Q k H') -> t σ H Q
theorem Nv : TOv X CL b none δ none δ := ⟨_, VX, fun H Z σ ts vs Q S k => k H Z (.refl _) (.refl _) S⟩
theorem EB {k : Int} (h : dU X CL b e δ (.int k) δ1) : TOv X CL b (some e) δ (some k) δ1 := ⟨_, VY dW, fun H Z σ ts vs Q S kk => h H Z σ ts vs _ S fun v H1 Z1 z1 k1 S1 r => ⟨k, r.sc rfl, kk H1 Z1 z1 k1 S1⟩⟩
theorem RT {lo hi : Option Expr} {l h : Option Int} (h1 : dU X CL b e δ (.lst ds) δ1) (hi1 : D.bS ds = true) (h2 : TOv X CL b lo δ1 l δ2) (h3 : TOv X CL b hi δ2 h δ3) : cJ X CL b (.Subscript e (.Slice lo hi none p2) pos) δ (.lst ((cutD ds l h).map T.sh)) δ3 := fun H Z σ ts vs Q S k => by
 obtain ⟨t2, po2, w2⟩ := h2
 obtain ⟨t3, po3, w3⟩ := h3
 refine cL (Rc V0 dW po2 po3) (h1 H Z σ ts vs _ S fun v H1 Z1 z1 k1 S1 r => w2 H1 Z1 σ ts vs _ S1 fun H2 Z2 z2 k2 S2 => w3 H2 Z2 σ ts vs _ S2 fun H3 Z3 z3 k3 S3 => ?_)
 have r' := r.mono (k2.trans k3)
 cases r' with
 | lst hq rr =>
   refine ⟨_, _, rfl, hq, fun p hp => ?_⟩
   have rc := aD.m5 S3.tp (kI fun d hd => gO hi1 d (Wg hd)) (rr.cut l h)
   obtain ⟨c, S4⟩ := (bA.mD rc S3).jD (g0 := []) (by simp [rc.length]) hp
   exact k _ _ _ (z1.trans (z2.trans z3)) (k1.trans (k2.trans (k3.trans c))) S4
theorem xq (hm : X.mg "tuple" = none) (h : dU X CL b e δ (.lst ds) δ1) (hi : D.bS ds = true) (hg : Gl X "tuple") (hs : starEach [e] X.env = (false, eval e X.env) :: starEach [] X.env := by exact bw rfl) : cJ X CL b (.Call (.Name "tuple" pp) [e] [] pos) δ (.sh (.tup ds)) δ1 := fun H Z σ ts vs Q S k =>
 cL (lg B9 hg hm HZ (b8 dW dM hs) (he := hs)) (h H Z σ ts vs _ S fun v H1 Z1 z1 k1 S1 r => by
   cases r with
   | lst hq rr =>
     refine ⟨_, _, rfl, .inl ⟨hq, fun l hl => ?_⟩⟩
     obtain ⟨a, c, S2⟩ := (bA.mD (aD.m5 S1.tp hi rr) S1).RC (by simp [rr.length]) hl
     obtain ⟨Z3, z3, S3⟩ := S2.Ru
     rw [T.fc, oY] at S3
     exact k _ _ Z3 (z1.trans (a.trans z3)) (k1.trans c) S3)
theorem mF {tl HW : List T} {pa pb : Pos} (n : Vn X i x) (h0 : δ[i]? = some (some (.lst HW))) (h : cJ X CL b e δ t δ1) (h1 : δ1[i]? = some (some (.lst tl))) (hl : tl.length <= 1000000) (k : eL X CL b d8 (δ1.set i (some (.lst (tl ++ [t])))) DD)
   (j5 : attributeBase (.Name x pp) "append" X.env (eval (.Name x pp) X.env) = eval (.Name x pp) X.env := by rfl)
   (qP : ((backTo pb (starEach [e] X.env)).all (fun x => !x.1) && (backToKw pb (keywordEach [] X.env)).all (fun x => x.1.isSome) && decide ([e].length + ([] : List Keyword).length + (if ([] : List Keyword).isEmpty then 0 else 1) < 30)) = true := by rfl)
   (hline : (pa.endLine == pb.line) = true := by rfl) (hs : starEach [e] X.env = (false, eval e X.env) :: starEach [] X.env := by exact bw rfl) (Cd : swapsWith (.Call (.Attribute (.Name x pp) "append" pa) [e] [] pb) none pos.line X.env = pure false := by rfl) :
   eL X CL b (.Expr (.Call (.Attribute (.Name x pp) "append" pa) [e] [] pb) pos :: d8) δ DD :=
 ck (abl i h0 h h1 (alR hl (by rw [alb]; decide)) k n.hi n.hv n.hd n.j4 j5 qP hline hs Cd)
theorem ad7 {tl : List T} {k : Int} {j : Nat} {ps : Pos} (n : Vn X i x) (h : cJ X CL b e δ t δ1) (h2 : dU X CL b e2 δ1 (.int k) δ1) (h1 : δ1[i]? = some (some (.lst tl))) (hk : Rf tl.length k = some j) (kk : eL X CL b d8 (δ1.set i (some (.lst (tl.set j t)))) DD)
   (ha : ∀ v, assign (.Subscript (.Name x pp) e2 ps) X.env v = (do
     let ov ← holding [v] (eval (.Name x pp) X.env)
     let iv ← holding [v, ov] (eval e2 X.env)
     standAt ps
     holding [v, ov, iv] (setItem ov iv v)
     release [v, ov, iv] []) := by intro _; rfl)
   (hs : swapsWithSole [.Subscript (.Name x pp) e2 ps] e pos.line X.env = pure false := by rfl) (hw : swappedStores [.Subscript (.Name x pp) e2 ps] e X.env = pure none := by rfl) (ha1 : (assignEach [.Subscript (.Name x pp) e2 ps] X.env).map (·.2) = [assign (.Subscript (.Name x pp) e2 ps) X.env] := by rfl) :
   eL X CL b (.Assign [.Subscript (.Name x pp) e2 ps] e pos :: d8) δ DD := by
 refine ck fun H Z σ ts vs E S M => om (aaK dW (aaJ (iC n.hi n.hv n.hd n.j4) dW set_list ha) hs hw ha1) (h H Z σ ts vs _ S fun v H1 Z1 z1 k1 S1 => ?_)
 have hj : j < tl.length := (Es hk).2.1
 obtain ⟨v0, e0, _⟩ := S1.look h1
 refine ⟨v0, e0, ?_⟩
 refine h2 H1 Z1 σ _ _ _ S1 fun v2 H2 Z2 z2 k2 S2 r2 => ?_
 obtain ⟨a, us, ea, Rw, hu, S3⟩ := S2.setAt h1 hj
 rw [e0] at ea
 cases ea
 exact ⟨a, us, k, j, rfl, r2.sc rfl, Rw, by rw [hu]; exact hk, M.nx _ σ _ Z2 (z1.trans z2) S3 kk⟩
theorem EC {n : Nat} (hn : ds.length = n) (hm : X.mg "len" = none) (h : dU X CL b e δ (.lst ds) δ1) (hg : Gl X "len") (hs : starEach [e] X.env = (false, eval e X.env) :: starEach [] X.env := by exact bw rfl) : cJ X CL b (.Call (.Name "len" pp) [e] [] pos) δ (.sh (.int n)) δ1 := by
 subst hn
 exact zb hm h hg hs
theorem bT (h : cJ X CL b e δ (.lst (ds.map T.sh)) δ1) : dU X CL b e δ (.lst ds) δ1 := by
 have := ZS h
 rwa [T.fc, oY] at this
theorem Wh {ds' : List L3.D} (h : cJ X CL b e δ (.lst (ds.map T.sh)) δ1) (e' : ds = ds') : dU X CL b e δ (.lst ds') δ1 := e' ▸ bT h
end
theorem qT {α : Type} {f : α -> D} {l : List α} {k : Int} (z : α) (h0 : 0 <= k) (h1 : k < l.length) : Hs (l.map f) k = some (f (l.getD k.toNat z)) := by
 obtain ⟨j, rfl⟩ : ∃ j : Nat, k = j := ⟨k.toNat, by omega⟩
 refine bE ?_
 have hl : j < l.length := by omega
 rw [ak0, akX hl]
 simp [List.getD, hl]
theorem RV {α β : Type} {f : α -> β} {l : List α} {lo hi : Option Int} : cutD (l.map f) lo hi = (cutD l lo hi).map f := by
 unfold cutD
 rw [akD, List.map_take, List.map_drop]
noncomputable def Ih (l : Bool) (ds : List D) : D := match l with
 | true => .lst ds
 | false => .tup ds
theorem iR {α : Type} {f : α -> D} (h : ∀ a, (f a).m5 = true) : ∀ (l : List α), D.bS (l.map f) = true
 | [] => rfl
 | a :: l => by rw [akP, D.bS, h a, iR h l]; rfl
section
variable {X : Cx} {CL : Str -> Addr} {b : Bx} {δ δ1 δ2 δ3 : List (Option T)} {e e1 e2 e3 : Expr} {es : List Expr} {d d1 d2 : D} {ds : List D} {pos p2 pp : Pos} {n m : Nat} {i : Nat} {x : Str} {t : T} {d8 : List Stmt} {DD : cE}
theorem Wi {k : Int} {u : Tok} (hm : X.mg x = some (.int k u)) (hg : Gl X x) (hd : (x == ("__debug__" : Str)) = false := by decide) : cJ X CL b (.Name x pos) δ (.sh (.int k)) δ := fun H Z σ ts vs Q S kk =>
 cL (El (v := .int k) hg hm ⟨u, rfl⟩ hd) (kk _ H Z (.refl _) (.refl _) (S.push (.int k)))
theorem gP {k : Int} (hm : ∃ u, X.mg x = some (.int k u)) (hg : Gl X x) (hd : (x == ("__debug__" : Str)) = false := by decide) : cJ X CL b (.Name x pos) δ (.sh (.int k)) δ := by
 obtain ⟨u, hm⟩ := hm
 exact Wi hm hg hd
theorem vE (n : Vn X i x) (h : δ[i]? = some (some t)) (e : t.fc = d) : dU X CL b (.Name x pos) δ d δ := e ▸ vB n h
theorem ED (x : Str) : ∀ l : List Str, ZN (.str x) (l.map V.str) = decide (x ∈ l)
 | [] => by simp [ZN]
 | y :: l => by
   have ih := ED x l
   unfold ZN at ih ⊢
   rw [akP, alT, ih]
   have e : ∀ a c : Str, Rg (.str a) (.str c) = (a == c) := fun _ _ => rfl
   rw [e]
   by_cases h : y = x
   . subst h; simp
   . have h' : ¬ x = y := fun e => h e.symm
     simp [h, h']
theorem aD.strs {K : PySem.W.Frag} {Z : Hp} : ∀ {l : List Str} {vs : List V}, aD K CL Z (l.map D.str) vs -> vs = l.map V.str
 | [], _, r => by
   have r' : aD K CL Z [] _ := r
   cases r'; rfl
 | y :: l, _, r => by
   have r' : aD K CL Z (D.str y :: l.map D.str) _ := r
   cases r' with
   | cons r1 r2 => rw [r1.sc rfl, aD.strs r2]; rfl
theorem pe : ∀ l : List Str, (l.map V.str).all tY = true
 | [] => rfl
 | y :: l => by rw [akP, List.all_cons, pe l]; rfl
end
theorem abr {n : Nat} {k : Int} (h0 : 0 <= k) (h1 : k < n) : Rf n k = some k.toNat := by
 unfold Rf
 rw [akJ h0, akJ h1]
theorem mG (l : List Int) : T.bV ((l.map D.int).map T.sh) = true := by
 rw [alc]
 induction l with
 | nil => rfl
 | cons i r ih => rw [akP, T.bV, ih]; rfl
section
variable {X : Cx} {tg : Expr}
end
section
variable {X : Cx} {CL : Str -> Addr} {b : Bx} {δ δ1 : List (Option T)} {e : Expr} {ds : List D} {tg : Expr} {pr pc : Pos}
end
section
variable {K : PySem.W.Frag} {CL : Str -> Addr} {b : Bx} {H Z : Hp} {δ : List (Option T)} {σ : L2.St} {ts tt : List T} {vs : List V} {t : T}
theorem bA.abt {i j : Nat} (S : bA K CL b H Z δ σ ts vs) (hi : δ[i]? = some (some (.tup tt))) (hj : tt[j]? = some t) :
   ∃ a0 us0 v, σ[i]? = some (some (.ref a0)) /\ Z a0 = some (.tup us0) /\ us0[j]? = some v /\ bA K CL b H Z (δ.set i (some (.tup (tt.set j (.sh .any))))) σ (t :: ts) (v :: vs) := by
 obtain ⟨fp, gp, e, r, nd, k⟩ := S.rep
 obtain ⟨v0, f1, f2, f3, hv, qF, rt, put, _⟩ := e.get hi
 subst qF
 cases rt with
 | @tup a0 us0 _ _ hq r0 =>
   obtain ⟨vj, g1, g2, g3, hvj, hg, rj, set⟩ := r0.at hj
   subst hg
   have r2 := set (H' := H) (t' := .sh .any) (v' := vj) (g := []) (fun _ _ => rfl) (.sh (.any vj))
   rw [eW hvj] at r2
   have e2 := put (H' := H) (.refl _) (fun _ _ => rfl) (bR.tup hq r2)
   rw [eW hv] at e2
   have hp : ((f1 ++ ((g1 ++ ([] ++ g3)) ++ f3)) ++ (g2 ++ gp)).Perm ((f1 ++ ((g1 ++ (g2 ++ g3)) ++ f3)) ++ gp) := by
     simp only [alA, akx]
     refine ak8 f1 (ak8 g1 ?_)
     have := (akY (l₁ := g3 ++ f3) (l₂ := g2)).append_right gp
     simp only [akx] at this
     exact this
   exact ⟨a0, us0, vj, hv, hq, hvj, ⟨⟨_, g2 ++ gp, e2, .cons rj r, hp.nodup_iff.mpr nd, fun a ha => k a (hp.mem_iff.mp ha)⟩, S.bh, S.zz, S.zh, S.new, S.tp, S.tab⟩⟩
end
section
variable {X : Cx} {CL : Str -> Addr} {b : Bx} {δ : List (Option T)} {tt : List T} {t : T} {i : Nat} {x : Str} {pp pc ps : Pos} {kj : Nat}
theorem gB (j : Nat) (n : Vn X i x) (h : δ[i]? = some (some (.tup tt))) (hj : tt[j]? = some t) : cJ X CL b (.Subscript (.Name x pp) (.Constant (.int j) kj pc) ps) δ t (δ.set i (some (.tup (tt.set j (.sh .any))))) := fun H Z σ ts vs Q S k => by
 obtain ⟨a0, us0, v, hv, hq, hvj, S'⟩ := S.abt h hj
 exact cL (HM Kp (iC n.hi n.hv n.hd n.j4) J7 (fun _ _ => rfl)) ⟨_, hv, a0, us0, j, v, rfl, rfl, wX.of (S.zh _ _ hq), bE hvj, k v H Z (.refl _) (.refl _) S'⟩
end
section
variable {X : Cx} {CL : Str -> Addr} {b : Bx} {δ δ1 : List (Option T)} {e : Expr} {ds : List D} {t : T} {i : Nat} {x : Str} {pos pp p2 : Pos} {kj : Nat}
end
section
variable {K : PySem.W.Frag} {CL : Str -> Addr} {b : Bx} {H H' Z Z' : Hp} {δ δ' : List (Option T)} {σ σ' : L2.St} {ts tl : List T} {vs us : List V} {t : T} {v : V}
theorem iF.get : ∀ {fs : List (Str × D)} {gs : List (Str × V)} {f : Str} {d : D}, iF K CL Z fs gs -> fs.lookup f = some d -> ∃ v, gs.lookup f = some v /\ bM K CL Z d v
 | _, _, _, _, .nil, e => by simp at e
 | _, _, f, d, .cons (x := x) r t, e => by
   rw [akW] at e ⊢
   cases h : f == x with
   | true => rw [h] at e; cases e; exact ⟨_, rfl, r⟩
   | false => rw [h] at e; exact iF.get t e
noncomputable def ko (f : Str) (t : T) : List (Str × T) -> List (Str × T)
 | [] => [(f, t)]
 | (g, x) :: r => if g = f then (g, t) :: r else (g, x) :: ko f t r
theorem cQ.length {fs : List (Str × T)} {gs : List (Str × V)} {fp : List Addr} (h : cQ K CL H Z fs gs fp) : fs.length = gs.length :=
 cQ.ind (P := fun d v _ => d.length = v.length) rfl (fun _ _ i => congrArg (· + 1) i) h
theorem cQ.put {f : Str} {g : List Addr} (q : bR K CL H Z t v g) : ∀ {fs : List (Str × T)} {gs : List (Str × V)} {fp : List Addr}, cQ K CL H Z fs gs fp →
   ∃ Nx f', cQ K CL H Z (ko f t fs) (lC f v gs) Nx /\ f'.Sublist fp /\ Nx.Perm (g ++ f')
 | _, _, _, .nil => ⟨g ++ [], [], .cons q .nil, ak6 _, amo _⟩
 | _, _, _, .cons (x := x) (fp := fp) (gp := gp) r rs => by
   rw [ko, lC]
   by_cases h : x = f
   . rw [akJ h, akJ h]
     exact ⟨g ++ gp, gp, .cons q rs, als _ _, amo _⟩
   . rw [akH h, akH h]
     obtain ⟨p, p', h1, h2, h3⟩ := cQ.put (f := f) q rs
     refine ⟨fp ++ p, fp ++ p', .cons r h1, ak4 (ak6 _) h2, (ak8 fp h3).trans ?_⟩
     rw [← akx, ← akx]
     exact akY.append_right p'
theorem bA.KC {a : Addr} {o : HO} {Nx gp fp Nt : List Addr} {δ2 : List (Option T)} (hm : j6 o = false) (S : bA K CL b H Z δ σ ts vs) (own : ∀ c ∈ fp ++ gp, Z c = none /\ b.B c = none) (ha : a ∈ fp ++ gp)
   (e' : eN K CL (upd H a o) Z δ2 σ Nx) (r' : aL K CL (upd H a o) Z tl us Nt) (pm : (Nx ++ Nt).Nodup) (sub : ∀ c ∈ Nx ++ Nt, c ∈ fp ++ gp) :
   bA K CL b (upd H a o) Z δ2 σ tl us := by
 have oa := own a ha
 refine ⟨⟨_, _, e', r', pm, fun c hc => own c (sub c hc)⟩, fun c u q => ?_, S.zz, fun c u q => ?_, S.new, fun c u q i => ?_, S.tab⟩
 . rw [az (aK q oa.2)]; exact S.bh c u q
 . rw [az (aK q oa.1)]; exact S.zh c u q
 . by_cases hc : c = a
   . subst hc; rw [aP] at q; cases q; rw [hm] at i; cases i
   . rw [az hc] at q; exact S.tp c u q i
theorem bA.setField {i : Nat} {x : Addr} {c f : Str} {fs : List (Str × T)} (S : bA K CL b H Z δ σ (t :: ts) (v :: vs)) (hi : δ[i]? = some (some (.pin x (.ins c fs)))) :
   ∃ dx gs, σ[i]? = some (some (.ref x)) /\ H x = some (.ins (CL c) dx gs) /\ gs.length = fs.length /\ bA K CL b (upd H x (.ins (CL c) dx (lC f v gs))) Z (δ.set i (some (.pin x (.ins c (ko f t fs))))) σ ts vs := by
 obtain ⟨fp, gp, e, r, nd, k⟩ := S.rep
 obtain ⟨v0, f1, f2, f3, hv, qF, rt, put, _⟩ := e.get hi
 subst qF
 cases rt with
 | pin rt =>
 cases rt with
 | @ins a dx _ gs _ g ha rs =>
   cases r with
   | @cons _ _ _ _ ft gr q1 q2 =>
     have ne : ∀ c ∈ (f1 ++ (g ++ f3)) ++ (ft ++ gr), c ≠ x := fun c hc e => by
       subst e
       have hp : ((f1 ++ ((c :: g) ++ f3)) ++ (ft ++ gr)).Perm (c :: ((f1 ++ (g ++ f3)) ++ (ft ++ gr))) := by
         rw [akS, ← akS]
         exact (alC.append_right _)
       exact (alk.mp (hp.nodup_iff.mp nd)).1 hc
     refine ⟨dx, gs, hv, ha, rs.length.symm, ?_⟩
     have q1' := q1.mono (H' := upd H x (.ins (CL c) dx (lC f v gs))) (.refl _) fun c hc => az (ne c (by simp [hc]))
     have rs' := rs.mono (H' := upd H x (.ins (CL c) dx (lC f v gs))) (.refl _) fun c hc => az (ne c (by simp [hc]))
     obtain ⟨p, p', h1, h2, h3⟩ := cQ.put (f := f) q1' rs'
     have r1 : bR K CL (upd H x (.ins (CL c) dx (lC f v gs))) Z (.pin x (.ins c (ko f t fs))) (.ref x) (x :: p) := .pin (.ins aP h1)
     have e2 := put (H' := upd H x (.ins (CL c) dx (lC f v gs))) (.refl _) (fun c hc => az (ne c (by
       rcases akC.mp hc with h | h
       . simp [h]
       . simp [h]))) r1
     rw [eW hv] at e2
     have hp : ((f1 ++ ((x :: p) ++ f3)) ++ gr).Perm ((f1 ++ ((x :: p') ++ f3)) ++ (ft ++ gr)) := by
       have h4 : ((f1 ++ ((x :: p) ++ f3)) ++ gr).Perm ((f1 ++ ((x :: (ft ++ p')) ++ f3)) ++ gr) := ((h3.cons x).append_right f3).append_left f1 |>.append_right gr
       refine h4.trans ?_
       simp only [akS, akx]
       refine ak8 f1 (List.Perm.cons x ?_)
       have := (akY (l₁ := ft) (l₂ := p' ++ f3)).append_right gr
       simp only [akx] at this
       exact this
     have sb : ((f1 ++ ((x :: p') ++ f3)) ++ (ft ++ gr)).Sublist ((f1 ++ ((x :: g) ++ f3)) ++ (ft ++ gr)) :=
       ak4 (ak4 (ak6 _) (ak4 (List.Sublist.cons₂ x h2) (ak6 _))) (ak6 _)
     exact S.KC rfl k (by simp) e2 (q2.mono (.refl _) fun c hc => az (ne c (by simp [hc]))) (hp.nodup_iff.mpr (nd.sublist sb)) fun c hc => sb.subset (hp.mem_iff.mp hc)
end
section
variable {X : Cx} {CL : Str -> Addr} {b : Bx} {δ δ1 δ2 : List (Option T)} {e : Expr} {es : List Expr} {t : T} {d : D} {c f x : Str} {fs : List (Str × D)} {pos pp : Pos} {DD : cE} {i : Nat}
theorem dX (hc : iP X.K (CL c)) (n : aF X.K (CL c) f) (h : dU X CL b e δ (.ins c fs) δ1) (hl : fs.lookup f = some d) (hb : attributeBase e f X.env (eval e X.env) = eval e X.env := by rfl) :
   dU X CL b (.Attribute e f pos) δ d δ1 := fun H Z σ ts vs Q S k =>
 cL (Kh dW hb) (h H Z σ ts vs _ S fun v H' Z' z s S' r => by
   cases r with
   | @ins a dx _ gs _ ha rf =>
     obtain ⟨w, hw, VZ⟩ := rf.get hl
     exact ⟨a, CL c, dx, gs, w, rfl, ha, hc, n, hw, k w H' Z' z s S' VZ⟩)
theorem uz (hc : iP X.K (CL c)) (n : aF X.K (CL c) f) (h : cJ X CL b e δ (.sh (.ins c fs)) δ1) (hl : fs.lookup f = some d) (hb : attributeBase e f X.env (eval e X.env) = eval e X.env := by rfl) :
   cJ X CL b (.Attribute e f pos) δ (.sh d) δ1 := fun H Z σ ts vs Q S k =>
 cL (Kh dW hb) (h H Z σ ts vs _ S fun v H' Z' z s S' => by
   obtain ⟨fp, gp, _, r, _, _⟩ := S'.rep
   cases r with
   | cons r _ =>
     cases r with
     | sh r =>
       cases r with
       | @ins a dx _ gs _ ha rf =>
         obtain ⟨w, hw, VZ⟩ := rf.get hl
         exact ⟨a, CL c, dx, gs, w, rfl, S'.zh _ _ ha, hc, n, hw, k w H' Z' z s (S'.pop.push VZ)⟩)
theorem lH {d8 : List Stmt} {a : Addr} {gs : List (Str × T)} {pa pb pc : Pos} (hc : iP X.K (CL c)) (n : aF X.K (CL c) f) (nm : Vn X i x) (h : cJ X CL b e δ t δ1) (h1 : δ1[i]? = some (some (.pin a (.ins c gs)))) (hl : gs.length < 1000)
   (k : eL X CL b d8 (δ1.set i (some (.pin a (.ins c (ko f t gs))))) DD) (hs : swapsWith e (some (.Attribute (.Name x pa) f pb)) pc.line X.env = pure false := by rfl) :
   eL X CL b (.Assign [.Attribute (.Name x pa) f pb] e pc :: d8) δ DD := ck fun H Z σ ts vs E S M =>
 om (Q6 (iC nm.hi nm.hv nm.hd nm.j4) dW hs) (h H Z σ ts vs _ S fun v H' Z' z s S' => by
   obtain ⟨dx, ws, hv, hx, hlen, S2⟩ := S'.setField (f := f) h1
   exact ⟨.ref a, hv, a, CL c, dx, ws, rfl, hx, hc, n, by rw [hlen]; exact hl, M.nx _ σ _ Z' z S2 k⟩)
end
noncomputable def spI (K : PySem.W.Frag) (CL : Str -> Addr) {A : Type} (c : Str) (n : Nat) (arg : A -> List D) (Pre : A -> Prop) (res : A -> List (Str × T)) : Sp := fun vs H Q _ =>
 ∃ (W H0 : Hp) (a : A) (x dx : Addr) (us : List V), vs = .ref x :: us /\ H0 x = none /\ H0 dx = none /\ dx ≠ x /\ H = upd (upd H0 dx (.own x)) x (.ins (CL c) dx []) ∧
   aG W H0 /\ (∀ c o, H0 c = some o -> j6 o = true -> W c = some o) /\ aD K CL W (arg a) us /\ (arg a).length + 1 = n /\ Pre a /\ oW CL W ∧
   ∀ H' W' fp, aG H0 H' -> aG W W' -> aG W' H' -> (∀ c o, W' c = some o -> W c = none -> H0 c = none) -> (∀ c o, H' c = some o -> j6 o = true -> W' c = some o) →
     bR K CL H' W' (.ins c (res a)) (.ref x) fp -> fp.Nodup -> (∀ c ∈ fp, W' c = none /\ H0 c = none) -> Q .non H'
section
variable {X : Cx} {CL : Str -> Addr} {b : Bx} {δ δ1 δ2 : List (Option T)} {e o : Expr} {es : List Expr} {pos pp apos : Pos}
variable {A : Type} {k n : Nat} {f : Addr} {fd : FuncData} {ps : List Str} {arg : A -> List D} {Pre : A -> Prop} {x c m : Str}
theorem Wj {res : A -> List (Str × T)} (a : A) (M : Mk X.K (CL c) f) (F : bN X.prog X.w X.K X.mg X.base fO k f fd ps (spI X.K CL c n arg Pre res)) (hr : dg (k + 1) X.A) (hm : X.mg x = some (.ref (CL c))) (hb : Binds X.K fd ps [])
   (h : OY X CL b (e :: es) δ (arg a) δ1) (hn : (arg a).length + 1 = n) (hp : Pre a) (hc : T.cM (res a) = true) (hg : Gl X x)
   (tU : (x == ("__debug__" : Str)) = false := by decide) (he : starEach (e :: es) X.env = (false, eval e X.env) :: starEach es X.env := by exact bw rfl) (hpl : (backTo pos (starEach es X.env)).any (·.1) = false := by rfl) :
   cJ X CL b (.Call (.Name x pp) (e :: es) [] pos) δ (.ins c (res a)) δ1 := fun H Z σ ts vs Q S kk =>
 cL (Ep M F hr hg hm hb .nil tZ Ex tU he hpl) (h H Z σ ts vs _ S fun us H1 Z1 z1 k1 S1 r x dx hx hdx ne => by
   rw [akK]
   refine ⟨H1, H1, a, x, dx, us, rfl, hx, hdx, ne, rfl, .refl _, fun _ _ q _ => q, r, hn, hp, S1.HV, fun H' W' fp hh ww wh nw tp rt nd own => ⟨rfl, ?_⟩⟩
   obtain ⟨Z', z', S'⟩ := S1.back hh S1.zh ww wh nw tp rt nd own (.inr (by rw [T.clean]; exact hc))
   exact kk _ H' Z' (z1.trans z') (k1.trans hh) S')
theorem RW {res : A -> List (Str × T)} (a : A) (M : Mk X.K (CL c) f) (F : bN X.prog X.w X.K X.mg X.base fO k f fd ps (spI X.K CL c n arg Pre res)) (hr : dg (k + 1) X.A) (hm : X.mg x = some (.ref (CL c))) (hb : Binds X.K fd ps [])
   (h : Nk X CL b (e :: es) δ ((arg a).map T.sh) δ1) (hn : (arg a).length + 1 = n) (hp : Pre a) (hg : Gl X x)
   (tU : (x == ("__debug__" : Str)) = false := by decide) (he : starEach (e :: es) X.env = (false, eval e X.env) :: starEach es X.env := by exact bw rfl) (hpl : (backTo pos (starEach es X.env)).any (·.1) = false := by rfl) :
   cJ X CL b (.Call (.Name x pp) (e :: es) [] pos) δ (.ins c (res a)) δ1 := fun H Z σ ts vs Q S kk =>
 cL (Ep M F hr hg hm hb .nil tZ Ex tU he hpl) (h H Z σ ts vs _ S fun us H1 Z1 hl z1 k1 S1 x dx hx hdx ne => by
   rw [akK]
   have hl' : us.length = (arg a).length := by rw [hl, akD]
   have S2 := S1.drops (by simp [hl'])
   refine ⟨Z1, H1, a, x, dx, us, rfl, hx, hdx, ne, rfl, S1.zh, S1.tp, S1.Wb hl', hn, hp, S1.Rt, fun H' W' fp hh ww wh nw tp rt nd own => ⟨rfl, ?_⟩⟩
   obtain ⟨Z', z', S'⟩ := S2.back hh (.refl _) ww wh nw tp rt nd own (.inl rfl)
   exact kk _ H' Z' (z1.trans z') (k1.trans hh) S')
theorem Wk {res : A -> T} {fs : List (Str × D)} {ds : List D} {pl : Sem Bool} (a : A) (cc : iP X.K (CL c)) (hm : Meth X.K (CL c) m f) (F : bN X.prog X.w X.K X.mg X.base fO k f fd ps (mE X.K CL n arg Pre res)) (hr : dg k X.A) (hb : Binds X.K fd ps [])
   (ho : dU X CL b o δ (.ins c fs) δ1) (hf : fs.lookup m = none) (h : OY X CL b (e :: es) δ1 ds δ2) (hab : arg a = .ins c fs :: ds) (hn : (arg a).length = n) (hp : Pre a) (hc : (res a).clean = true)
   (he : starEach (e :: es) X.env = (false, eval e X.env) :: starEach es X.env := by exact bw rfl) (hpl : (backTo pos (starEach es X.env)).any (·.1) = false := by rfl)
   (ht : eval (.Call (.Attribute o m apos) (e :: es) [] pos) X.env = (do
     let ov ← eval o X.env
     standAt apos.atName
     let (f, first) ← holding [ov] (getMethod ov m pl)
     callWith pos f first (backTo pos (starEach (e :: es) X.env)) (backToKw pos (keywordEach [] X.env))) := by rfl) :
   cJ X CL b (.Call (.Attribute o m apos) (e :: es) [] pos) δ (res a) δ2 := fun H Z σ ts vs Q S kk =>
 cL (Nf dW cc hm F hr hb .nil tZ Ex he hpl ht) (ho H Z σ ts vs _ S fun v H1 Z1 z1 k1 S1 r1 => by
   cases r1 with
   | @ins aa dx _ gs _ ha rf =>
     have hfm : gs.lookup m = none := by
       have : ∀ {fs : List (Str × D)} {gs : List (Str × V)}, iF X.K CL H1 fs gs -> fs.lookup m = none -> gs.lookup m = none := by
         intro fs gs r
         induction fs generalizing gs with
         | nil => intro _; cases r; rfl
         | cons p fs ih =>
           cases r with
           | cons q r =>
             intro h
             rw [akW] at h ⊢
             split at h
             . cases h
             . rename_i hh; exact ih r h
       exact this rf hf
     refine ⟨aa, dx, gs, rfl, ha, hfm, h H1 Z1 σ ts vs _ S1 fun us H2 Z2 z2 k2 S2 r2 => ?_⟩
     rw [akK]
     refine ⟨H2, a, .refl _, fun _ _ q _ => q, by rw [hab]; exact .cons (.ins (k2 _ _ ha) (rf.mono k2)) r2, hn, hp, S2.HV, fun v H' W' fp hh ww wh nw tp rt nd own => ?_⟩
     obtain ⟨Z', z', S'⟩ := S2.back hh S2.zh ww wh nw tp rt nd own (.inr hc)
     exact kk v H' Z' (z1.trans (z2.trans z')) (k1.trans (k2.trans hh)) S')
theorem RX {res : A -> T} {fs : List (Str × D)} {pl : Sem Bool} (a : A) (cc : iP X.K (CL c)) (hm : Meth X.K (CL c) m f) (F : bN X.prog X.w X.K X.mg X.base fO k f fd ps (mE X.K CL n arg Pre res)) (hr : dg k X.A) (hb : Binds X.K fd ps [])
   (ho : dU X CL b o δ (.ins c fs) δ1) (hf : ∀ {H : Hp} {gs : List (Str × V)}, iF X.K CL H fs gs -> gs.lookup m = none) (hab : arg a = [.ins c fs]) (hn : (arg a).length = n) (hp : Pre a) (hc : (res a).clean = true)
   (ht : eval (.Call (.Attribute o m apos) [] [] pos) X.env = (do
     let ov ← eval o X.env
     standAt apos.atName
     let (f, first) ← holding [ov] (getMethod ov m pl)
     callWith pos f first (backTo pos (starEach [] X.env)) (backToKw pos (keywordEach [] X.env))) := by rfl) :
   cJ X CL b (.Call (.Attribute o m apos) [] [] pos) δ (res a) δ1 := fun H Z σ ts vs Q S kk =>
 cL (Q9 dW cc hm F hr hb .nil tZ ht) (ho H Z σ ts vs _ S fun v H1 Z1 z1 k1 S1 r1 => by
   cases r1 with
   | @ins aa dx _ gs _ ha rf =>
     refine ⟨aa, dx, gs, rfl, ha, hf rf, ?_⟩
     refine ⟨H1, a, .refl _, fun _ _ q _ => q, by rw [hab]; exact .cons (.ins ha rf) .nil, hn, hp, S1.HV, fun v H' W' fp hh ww wh nw tp rt nd own => ?_⟩
     obtain ⟨Z', z', S'⟩ := S1.back hh S1.zh ww wh nw tp rt nd own (.inr hc)
     exact kk v H' Z' (z1.trans z') (k1.trans hh) S')
end
theorem EE {P : Program} {w : World} {K : PySem.W.Frag} {mg : Str -> Option Value} {base : Heap} {CL : Str -> Addr} {x qual c : Str} {st : Stmt} {f : Addr} {fd : FuncData} {N ps : List Str} {k : Nat} {A : Type} {arg : A -> List D} {Pre : A -> Prop} {res : A -> List (Str × T)} (F : ki K x qual st f fd) (S : aM N ps (ao st))
   (hb : ∀ (dF : Value) (Ar : Around) (outer : List Env) (s : Shared) (H : Hp) (E : XK) (b : Bx) (a : A) (y : Addr), dg k (Ar.deeper (envOfC qual (ao st) s.heap.objs.size f dF)) -> Pre a →
     eL (yR fO P w K mg base N qual (ao st) f dF Ar outer s H E).QM CL b (dS st) (some (.pin y (.ins c [])) :: ((arg a).map (fun d => some (T.sh d)) ++ List.replicate (N.length - ((arg a).length + 1)) none))
       { nx := fun δ => δ[0]? = some (some (.pin y (.ins c (res a)))), rt := fun _ _ => False }) :
   bN P w K mg base fO (k + 1) f fd ps (spI K CL c ps.length arg Pre res) := by
 refine F.ok S (fun vs H Q E h => ?_) (fun dF Ar outer s H vs Q E hr h => ?_)
 . obtain ⟨W, H0, a, y, dx, us, rfl, _, _, _, _, _, _, r, hl, _⟩ := h
   rw [akZ, ← r.length]; exact hl
 . obtain ⟨W, H0, a, y, dx, us, rfl, hy, hdx, ne, rfl, wh, tp, r, hl, hp, tb, kk⟩ := h
   have old : ∀ {d : Addr} {o : HO}, H0 d = some o -> upd (upd H0 dx (.own y)) y (.ins (CL c) dx []) d = some o := fun {d o} q => by
     rw [az (aK q hy), az (aK q hdx)]; exact q
   refine ⟨_, QD, hb dF Ar outer s _ E ⟨H0, W⟩ a y hr hp _ W _ [] [] _ ⟨⟨[y] ++ [], [], ?_, .nil, by simp, fun d hd => ?_⟩, fun d o q => old q, .refl _, fun d o q => old (wh d o q), fun d o q z => ?_, fun d o q i => ?_, tb⟩ ⟨fun δ' σ' H' Z' s' S' e => ?_, fun t v H' Z' δ' σ' s' S' e => e.elim, fun _ _ _ _ _ _ e => e.elim, fun _ _ _ _ _ _ e => e.elim⟩⟩
   . unfold L2.start
     rw [akP, akZ, akS, ← r.length]
     exact .cons (.pin (.ins aP .nil)) (jF _ r)
   . have : d = y := by simpa using hd
     subst this
     exact ⟨Kx wh hy, hy⟩
   . have q' : W d = some o := q
     have z' : W d = none := z
     rw [q'] at z'; cases z'
   . by_cases h1 : d = y
     . subst h1; rw [aP] at q; cases q; cases i
     . rw [az h1] at q
       by_cases h2 : d = dx
       . subst h2; rw [aP] at q; cases q; cases i
       . rw [az h2] at q; exact tp d o q i
   . obtain ⟨fp, gp, eE, _, nd, own⟩ := S'.rep
     obtain ⟨v, f1, f2, f3, hv, qF, rt, _, _⟩ := eE.get e
     subst qF
     cases rt with
     | pin rt =>
       refine kk H' Z' f2 S'.bh S'.zz S'.zh S'.new S'.tp rt ?_ fun d hd => own d (by simp [hd])
       have h1 := (ak5.mp nd).1
       exact (ak5.mp (ak5.mp h1).2.1).1
section
variable {X : Cx} {CL : Str -> Addr} {b : Bx} {δ δ1 δ2 : List (Option T)} {e e1 e2 : Expr} {es : List Expr} {t : T} {d : D} {ds zZ : List D} {x : Str} {pos pp : Pos} {DD : cE} {i : Nat} {d8 body : List Stmt}
theorem EF (g : Gx X) (P : Nat -> List (Option T) -> Prop) (m : Nat) (h0 : P m δ)
   (hs : ∀ m δ, P m δ -> ∃ p δ1, yw X CL b e δ p δ1 ∧
     (p = true -> eL X CL b body δ1 { nx := fun δ2 => ∃ m', m' < m /\ P m' δ2, rt := DD.rt, bk := fun δ2 => eL X CL b d8 δ2 DD, ct := fun δ2 => ∃ m', m' < m /\ P m' δ2 }) /\ (p = false -> eL X CL b d8 δ1 DD)) :
   eL X CL b (.While e body [] pos :: d8) δ DD := ck fun H Z σ ts vs E S M =>
 om (QT g.xe V5 QD) (by
   refine ⟨fun m σ H => ∃ Z2 δ2, aG Z Z2 /\ bA X.K CL b H Z2 δ2 σ ts vs /\ P m δ2, ⟨m, Z, δ, .refl _, S, h0⟩, ?_⟩
   rintro m σ H ⟨Z2, δ2, z2, S2, p2⟩
   obtain ⟨p, δ3, ht, h1, h2⟩ := hs m δ2 p2
   refine ht H Z2 σ ts vs _ S2 fun H3 Z3 z3 k3 S3 => ?_
   cases p with
   | true =>
     rw [akJ rfl]
     refine ⟨fun σ' H' => ∃ m', m' < m /\ ∃ Z2 δ2, aG Z Z2 /\ bA X.K CL b H' Z2 δ2 σ' ts vs /\ P m' δ2, fun σ' H' q => q, ?_⟩
     refine h1 rfl H3 Z3 σ ts vs _ S3 ⟨fun δ' σ' H' Z' s' S' ⟨m', l, q⟩ => ⟨m', l, Z', δ', z2.trans (z3.trans s'), S', q⟩, fun t v H' Z' δ' σ' s' S' q => M.rt t v H' Z' δ' σ' (z2.trans (z3.trans s')) S' q,
       fun δ' σ' H' Z' s' S' q => M.nx δ' σ' H' Z' (z2.trans (z3.trans s')) S' q, fun δ' σ' H' Z' s' S' ⟨m', l, q⟩ => ⟨m', l, Z', δ', z2.trans (z3.trans s'), S', q⟩⟩
   | false =>
     rw [akH (by decide)]
     exact M.nx δ3 σ H3 Z3 (z2.trans z3) S3 (h2 rfl))
noncomputable def ad8 (K : PySem.W.Frag) : R2 := fun x y H Q => ∃ l b xs zs, x = .ref l /\ y = .ref b /\ mC K H l xs /\ mC K H b zs /\ xs.length + zs.length <= sizeLine /\ ∀ p, H p = none -> Q (.ref p) (upd H p (.lst (xs ++ zs)))
theorem Ny : yX X (binaryOp .Add) (ad8 X.K) := by
 intro pins s σ H x y v u Q I rx ry h
 obtain ⟨l, b, xs, zs, rfl, rfl, hH, hB, hz, q⟩ := h
 cases rx
 cases ry
 obtain ⟨its, r, pl, _⟩ := I.list hH
 obtain ⟨qE, r2, pl2, _⟩ := I.list hB
 have e1 := r.length
 have e2 := r2.length
 obtain ⟨⟨c1, dd, da1, sl⟩, ho, hc, n, hd⟩ := pl.isList
 obtain ⟨⟨c2, dd2, da2, sl2⟩, ho2, RZ, n2, hd2⟩ := pl2.isList
 cases hc; cases RZ; cases hd; cases hd2
 refine concat_meets ⟨_, ho, rfl⟩ ⟨_, ho2, rfl⟩ noFill_list_add seq_list_add PySem.F.slot_list_add PySem.F.entry_list_add (PySem.F.args_list_add_2 (Value.ref l) (Value.ref b))
   (list_addW l b its.toArray qE.toArray n n2 dd dd2 sl sl2 (by rw [akI, akI]; omega)) ⟨ho, ho2, ?_⟩
 have ea : its.toArray ++ qE.toArray = (its ++ qE).toArray := by simp
 rw [ea]
 exact ⟨.ref _, _, I.adS (t' := s.toks) (r.append r2) (by rw [ak1]; omega), rfl, q _ I.fresh⟩
theorem aD.app {K : PySem.W.Frag} {Z : Hp} {ds zZ : List L3.D} {vs vs2 : List V} (h : aD K CL Z ds vs) (r2 : aD K CL Z zZ vs2) : aD K CL Z (ds ++ zZ) (vs ++ vs2) :=
 aD.ind (P := fun ds vs => aD K CL Z (ds ++ zZ) (vs ++ vs2)) r2 (fun r _ i => .cons r i) h
theorem mH (h1 : dU X CL b e1 δ (.lst ds) δ1) (h2 : dU X CL b e2 δ1 (.lst zZ) δ2) (i1 : D.bS ds = true) (i2 : D.bS zZ = true) (hz : ds.length + zZ.length <= sizeLine) :
   cJ X CL b (.BinOp e1 .Add e2 pos) δ (.lst ((ds ++ zZ).map T.sh)) δ2 := fun H Z σ ts vs Q S k =>
 cL (M6 Ny dW dW) (h1 H Z σ ts vs _ S fun v1 H1 Z1 z1 k1 S1 r1 => h2 H1 Z1 σ ts vs _ S1 fun v2 H2 Z2 z2 k2 S2 r2 => by
   have r1' := r1.mono k2
   cases r1' with
   | lst hq1 rr1 =>
     cases r2 with
     | lst hq2 rr2 =>
       refine ⟨_, _, _, _, rfl, rfl, hq1, hq2, by rw [← rr1.length, ← rr2.length]; exact hz, fun p hp => ?_⟩
       have rc := aD.app (aD.m5 S2.tp i1 rr1) (aD.m5 S2.tp i2 rr2)
       obtain ⟨c, S4⟩ := (bA.mD rc S2).jD (g0 := []) (by simp [rc.length, rr1.length, rr2.length]) hp
       exact k _ _ _ (z1.trans z2) (k1.trans (k2.trans c)) S4)
theorem boot_min : bootBuiltins "min" = some (.builtin "min") := by decide +kernel
theorem boot_max : bootBuiltins "max" = some (.builtin "max") := by decide +kernel
theorem boot_str : bootBuiltins "str" = some (.type "str") := by decide +kernel
theorem Wm {i j : Int} (g : Gx X) (hm : X.mg "min" = none) (hg : Gl X "min") (h : OY X CL b [e1, e2] δ [.int i, .int j] δ1) (hs : starEach [e1, e2] X.env = (false, eval e1 X.env) :: starEach [e2] X.env := by exact bw rfl) (hpl : (backTo pos (starEach [e2] X.env)).any (·.1) = false := by rfl) :
   cJ X CL b (.Call (.Name "min" pp) [e1, e2] [] pos) δ (.sh (.int (if j < i then j else i))) δ1 := fun H Z σ ts vs Q S k =>
 cL (qN (OD g.calm) hg hm boot_min Ex (he := hs) (hpl := hpl)) (h H Z σ ts vs _ S fun us H1 Z1 z1 k1 S1 r => by
   cases r with
   | cons r1 r =>
     cases r with
     | cons r2 r =>
       cases r
       rw [r1.sc rfl, r2.sc rfl]
       exact ⟨i, j, rfl, k _ H1 Z1 z1 k1 (S1.push (.int _))⟩)
theorem Wn {i j : Int} (g : Gx X) (hm : X.mg "max" = none) (hg : Gl X "max") (h : OY X CL b [e1, e2] δ [.int i, .int j] δ1) (hs : starEach [e1, e2] X.env = (false, eval e1 X.env) :: starEach [e2] X.env := by exact bw rfl) (hpl : (backTo pos (starEach [e2] X.env)).any (·.1) = false := by rfl) :
   cJ X CL b (.Call (.Name "max" pp) [e1, e2] [] pos) δ (.sh (.int (if j > i then j else i))) δ1 := fun H Z σ ts vs Q S k =>
 cL (qN (OB g.calm) hg hm boot_max Ex (he := hs) (hpl := hpl)) (h H Z σ ts vs _ S fun us H1 Z1 z1 k1 S1 r => by
   cases r with
   | cons r1 r =>
     cases r with
     | cons r2 r =>
       cases r
       rw [r1.sc rfl, r2.sc rfl]
       exact ⟨i, j, rfl, k _ H1 Z1 z1 k1 (S1.push (.int _))⟩)
theorem mJ {i : Int} (hm : X.mg "str" = none) (hg : Gl X "str") (h : dU X CL b e δ (.int i) δ1) (hi : i.natAbs.log2 < 1920) (hs : starEach [e] X.env = (false, eval e X.env) :: starEach [] X.env := by exact bw rfl) :
   cJ X CL b (.Call (.Name "str" pp) [e] [] pos) δ (.sh (.str (toString i))) δ1 := fun H Z σ ts vs Q S k =>
 cL (lg En hg hm boot_str (b8 dW dM hs) (he := hs)) (h H Z σ ts vs _ S fun v H1 Z1 z1 k1 S1 r => by
   rw [r.sc rfl]
   exact ⟨i, rfl, hi, k _ H1 Z1 z1 k1 (S1.push (.str _))⟩)
end
structure Fm (X : Cx) (CL : Str -> Addr) (x : Str) (k n : Nat) {A : Type} (arg : A -> List D) (Pre : A -> Prop) (res : A -> List (Str × T)) : Prop where
 ex : ∃ f fd ps, Mk X.K (CL x) f /\ bN X.prog X.w X.K X.mg X.base fO k f fd ps (spI X.K CL x n arg Pre res) /\ X.mg x = some (.ref (CL x)) /\ Binds X.K fd ps []
 room : dg (k + 1) X.A
structure Fq (X : Cx) (CL : Str -> Addr) (c m : Str) (k n : Nat) {A : Type} (arg : A -> List D) (Pre : A -> Prop) (res : A -> T) : Prop where
 ex : ∃ f fd ps, Meth X.K (CL c) m f /\ bN X.prog X.w X.K X.mg X.base fO k f fd ps (mE X.K CL n arg Pre res) /\ Binds X.K fd ps []
 room : dg k X.A
 cls : iP X.K (CL c)
noncomputable def KD (N : List Str) (y : Addr) (c : Str) (ds : List D) : List (Option T) := some (.pin y (.ins c [])) :: (ds.map (fun d => some (T.sh d)) ++ List.replicate (N.length - (ds.length + 1)) none)
section
variable {X : Cx} {CL : Str -> Addr} {b : Bx} {δ δ1 δ2 : List (Option T)} {e e1 e2 o : Expr} {es : List Expr} {d : L3.D} {t : T} {i : Nat} {x c m : Str} {pos pp apos : Pos} {D : cE} {d8 : List Stmt} {ds : List L3.D}
theorem mk_ {k n : Nat} {A : Type} {arg : A -> List L3.D} {Pre : A -> Prop} {res : A -> List (Str × T)} (a : A) (F : Fm X CL x k n arg Pre res) (hg : Gl X x) (h : OY X CL b (e :: es) δ (arg a) δ1) (hp : Pre a) (hc : T.cM (res a) = true) (hn : (arg a).length + 1 = n := by rfl)
   (tU : (x == ("__debug__" : Str)) = false := by decide) (he : starEach (e :: es) X.env = (false, eval e X.env) :: starEach es X.env := by exact bw rfl) (hpl : (backTo pos (starEach es X.env)).any (·.1) = false := by rfl) :
   cJ X CL b (.Call (.Name x pp) (e :: es) [] pos) δ (.ins x (res a)) δ1 := by
 obtain ⟨f, fd, ps, M, F1, m, b⟩ := F.ex
 exact Wj a M F1 F.room m b h hn hp hc hg tU he hpl
theorem mkF {k n : Nat} {A : Type} {arg : A -> List L3.D} {Pre : A -> Prop} {res : A -> List (Str × T)} (a : A) (F : Fm X CL x k n arg Pre res) (hg : Gl X x) (h : Nk X CL b (e :: es) δ ((arg a).map T.sh) δ1) (hp : Pre a) (hn : (arg a).length + 1 = n := by rfl)
   (tU : (x == ("__debug__" : Str)) = false := by decide) (he : starEach (e :: es) X.env = (false, eval e X.env) :: starEach es X.env := by exact bw rfl) (hpl : (backTo pos (starEach es X.env)).any (·.1) = false := by rfl) :
   cJ X CL b (.Call (.Name x pp) (e :: es) [] pos) δ (.ins x (res a)) δ1 := by
 obtain ⟨f, fd, ps, M, F1, m, b⟩ := F.ex
 exact RW a M F1 F.room m b h hn hp hg tU he hpl
end
theorem fj {α : Type} {f : Str} {d : α} {fs : List (Str × α)} : ((f, d) :: fs).lookup f = some d := by
 rw [akW, alN]
theorem bu {α : Type} {f g : Str} {d : α} {fs : List (Str × α)} (h : (f == g) = false) : ((g, d) :: fs).lookup f = fs.lookup f := by
 rw [akW, h]
theorem iS {f : Str} {t : T} : ko f t [] = [(f, t)] := rfl
theorem aR {f g : Str} {t u : T} {fs : List (Str × T)} (h : ¬ g = f) : ko f t ((g, u) :: fs) = (g, u) :: ko f t fs := by
 rw [ko, akH h]
theorem xr {f : Str} {t u : T} {fs : List (Str × T)} : ko f t ((f, u) :: fs) = (f, t) :: fs := by
 rw [ko, akJ rfl]
section
variable {X : Cx} {CL : Str -> Addr} {b : Bx} {δ δ1 δ2 : List (Option T)} {e1 e2 : Expr} {x : Str} {pos : Pos} {d : L3.D}
theorem vI (x : Int) : ∀ l : List Int, ZN (.int x) (l.map V.int) = decide (x ∈ l)
 | [] => by simp [ZN]
 | y :: l => by
   have ih := vI x l
   unfold ZN at ih ⊢
   rw [akP, alT, ih]
   by_cases h : y = x
   . subst h; simp [Rg]
   . have h' : ¬ x = y := fun e => h e.symm
     simp [Rg, h, h']
theorem aD.ints {K : PySem.W.Frag} {Z : Hp} : ∀ {l : List Int} {vs : List V}, aD K CL Z (l.map D.int) vs -> vs = l.map V.int
 | [], _, r => by
   have r' : aD K CL Z [] _ := r
   cases r'; rfl
 | y :: l, _, r => by
   have r' : aD K CL Z (D.int y :: l.map D.int) _ := r
   cases r' with
   | cons r1 r2 => rw [r1.sc rfl, aD.ints r2]; rfl
theorem iT : ∀ l : List Int, (l.map V.int).all tY = true
 | [] => rfl
 | y :: l => by rw [akP, List.all_cons, iT l]; rfl
noncomputable def z6 (d : L3.D) : Option (List L3.D) := match d with
 | .lst ds => some ds
 | .tup ds => some ds
 | _ => none
theorem bM.z6 {K : PySem.W.Frag} {Z : Hp} {v : V} {ds : List L3.D} (r : bM K CL Z d v) (h : L3.z6 d = some ds) : ∃ p us, v = .ref p /\ (mC K Z p us \/ wX K Z p us) /\ aD K CL Z ds us := by
 cases r with
 | tup hq rr => cases h; exact ⟨_, _, rfl, .inr hq, rr⟩
 | lst hq rr => cases h; exact ⟨_, _, rfl, .inl hq, rr⟩
 | non => cases h
 | bl => cases h
 | int => cases h
 | str => cases h
 | any => cases h
 | val => cases h
 | oj => cases h
 | dct => cases h
 | ins => cases h
theorem Nz {l : List Int} {i : Int} (h1 : dU X CL b e1 δ (.int i) δ1) (h2 : dU X CL b e2 δ1 d δ2) (hd : L3.z6 d = some (l.map .int)) (hm : behindInMarks .In e2 = false) :
   yw X CL b (.Compare e1 [.In] [e2] pos) δ (decide (i ∈ l)) δ2 /\ cJ X CL b (.Compare e1 [.In] [e2] pos) δ (.sh (.bl (decide (i ∈ l)))) δ2 := by
 constructor
 . intro H Z σ ts vs Q S k
   refine HR (sC sE dW dW hm) (h1 H Z σ ts vs _ S fun v1 H1 Z1 z1 k1 S1 r1 => h2 H1 Z1 σ ts vs _ S1 fun v2 H2 Z2 z2 k2 S2 r2 => ?_)
   obtain ⟨p, us, rfl, hq, rr⟩ := bM.z6 r2 hd
   have e := rr.ints
   subst e
   refine ⟨_, _, rfl, hq, by rw [r1.sc rfl]; rfl, iT l, _, rfl, ?_⟩
   rw [akH akO, r1.sc rfl, vI]
   exact k H2 Z2 (z1.trans z2) (k1.trans k2) S2
 . intro H Z σ ts vs Q S k
   refine cL (vt sE dW dW hm) (h1 H Z σ ts vs _ S fun v1 H1 Z1 z1 k1 S1 r1 => h2 H1 Z1 σ ts vs _ S1 fun v2 H2 Z2 z2 k2 S2 r2 => ?_)
   obtain ⟨p, us, rfl, hq, rr⟩ := bM.z6 r2 hd
   have e := rr.ints
   subst e
   refine ⟨_, _, rfl, hq, by rw [r1.sc rfl]; rfl, iT l, ?_⟩
   rw [akH akO, r1.sc rfl, vI]
   exact k _ H2 Z2 (z1.trans z2) (k1.trans k2) (S2.push (.bl _))
theorem Wo {l : List Int} {i : Int} (h1 : dU X CL b e1 δ (.int i) δ1) (h2 : dU X CL b e2 δ1 d δ2) (hd : L3.z6 d = some (l.map .int)) (hm : behindInMarks .NotIn e2 = false) :
   yw X CL b (.Compare e1 [.NotIn] [e2] pos) δ (!decide (i ∈ l)) δ2 /\ cJ X CL b (.Compare e1 [.NotIn] [e2] pos) δ (.sh (.bl (!decide (i ∈ l)))) δ2 := by
 constructor
 . intro H Z σ ts vs Q S k
   refine HR (sC vA dW dW hm) (h1 H Z σ ts vs _ S fun v1 H1 Z1 z1 k1 S1 r1 => h2 H1 Z1 σ ts vs _ S1 fun v2 H2 Z2 z2 k2 S2 r2 => ?_)
   obtain ⟨p, us, rfl, hq, rr⟩ := bM.z6 r2 hd
   have e := rr.ints
   subst e
   refine ⟨_, _, rfl, hq, by rw [r1.sc rfl]; rfl, iT l, _, rfl, ?_⟩
   rw [akJ rfl, r1.sc rfl, vI]
   exact k H2 Z2 (z1.trans z2) (k1.trans k2) S2
 . intro H Z σ ts vs Q S k
   refine cL (vt vA dW dW hm) (h1 H Z σ ts vs _ S fun v1 H1 Z1 z1 k1 S1 r1 => h2 H1 Z1 σ ts vs _ S1 fun v2 H2 Z2 z2 k2 S2 r2 => ?_)
   obtain ⟨p, us, rfl, hq, rr⟩ := bM.z6 r2 hd
   have e := rr.ints
   subst e
   refine ⟨_, _, rfl, hq, by rw [r1.sc rfl]; rfl, iT l, ?_⟩
   rw [akJ rfl, r1.sc rfl, vI]
   exact k _ H2 Z2 (z1.trans z2) (k1.trans k2) (S2.push (.bl _))
theorem NB {l : List Str} (h1 : dU X CL b e1 δ (.str x) δ1) (h2 : dU X CL b e2 δ1 d δ2) (hd : L3.z6 d = some (l.map .str)) (hm : behindInMarks .In e2 = false) :
   yw X CL b (.Compare e1 [.In] [e2] pos) δ (decide (x ∈ l)) δ2 /\ cJ X CL b (.Compare e1 [.In] [e2] pos) δ (.sh (.bl (decide (x ∈ l)))) δ2 := by
 constructor
 . intro H Z σ ts vs Q S k
   refine HR (sC sE dW dW hm) (h1 H Z σ ts vs _ S fun v1 H1 Z1 z1 k1 S1 r1 => h2 H1 Z1 σ ts vs _ S1 fun v2 H2 Z2 z2 k2 S2 r2 => ?_)
   obtain ⟨p, us, rfl, hq, rr⟩ := bM.z6 r2 hd
   have e := rr.strs
   subst e
   refine ⟨_, _, rfl, hq, by rw [r1.sc rfl]; rfl, pe l, _, rfl, ?_⟩
   rw [akH akO, r1.sc rfl, ED]
   exact k H2 Z2 (z1.trans z2) (k1.trans k2) S2
 . intro H Z σ ts vs Q S k
   refine cL (vt sE dW dW hm) (h1 H Z σ ts vs _ S fun v1 H1 Z1 z1 k1 S1 r1 => h2 H1 Z1 σ ts vs _ S1 fun v2 H2 Z2 z2 k2 S2 r2 => ?_)
   obtain ⟨p, us, rfl, hq, rr⟩ := bM.z6 r2 hd
   have e := rr.strs
   subst e
   refine ⟨_, _, rfl, hq, by rw [r1.sc rfl]; rfl, pe l, ?_⟩
   rw [akH akO, r1.sc rfl, ED]
   exact k _ H2 Z2 (z1.trans z2) (k1.trans k2) (S2.push (.bl _))
end
section
variable {X : Cx} {CL : Str -> Addr} {b : Bx} {δ δ1 δ2 : List (Option T)} {e : Expr} {es : List Expr} {d : L3.D} {ds : List L3.D} {t : T} {i : Nat} {x : Str} {pos pp : Pos} {DD : cE} {d8 : List Stmt}
theorem cN : Nk X CL b [] δ (([] : List L3.D).map T.sh) δ := aZ
theorem aJ (h1 : cJ X CL b e δ (.sh d) δ1) (h2 : Nk X CL b es δ1 (ds.map T.sh) δ2) (hs : starEach (e :: es) X.env = (false, eval e X.env) :: starEach es X.env := by exact bw rfl) : Nk X CL b (e :: es) δ ((d :: ds).map T.sh) δ2 := aQ h1 h2 hs
theorem EG (h : Nk X CL b es δ (ds.map T.sh) δ1) (hl : ds.length <= sizeLine) : cJ X CL b (.List es pos) δ (.lst (ds.map T.sh)) δ1 := bW h (by simpa using hl)
theorem fS (h : cJ X CL b e δ (.lst (ds.map T.sh)) δ1) : cJ X CL b e δ (.sh (.lst ds)) δ1 := by
 have := Ky h
 rwa [T.fc, oY] at this
theorem zc (h : cJ X CL b e δ t δ1) (q : t.fc = d) : cJ X CL b e δ (.sh d) δ1 := q ▸ Ky h
theorem Wq (h : DD.bk δ) : eL X CL b (.Break pos :: d8) δ DD := ck (RJ h)
theorem ad9 {d2 : L3.D} (h : dU X CL b e δ d δ1) (q : d = d2) : dU X CL b e δ d2 δ1 := q ▸ h
theorem aV {t2 : T} (h : cJ X CL b e δ t δ1) (q : t = t2) : cJ X CL b e δ t2 δ1 := q ▸ h
end
structure EH (Z H Z' H' : Hp) : Prop where
 z : aG Z Z'
 h : aG H H'
 zh : aG Z' H'
 new : ∀ a o, Z' a = some o -> Z a = none -> H a = none
 tp : ∀ a o, H' a = some o -> j6 o = true -> Z' a = some o
theorem EH.refl {Z H : Hp} (zh : aG Z H) (tp : ∀ a o, H a = some o -> j6 o = true -> Z a = some o) : EH Z H Z H := ⟨.refl _, .refl _, zh, fun a o q z => (by rw [q] at z; cases z), tp⟩
theorem EH.tup {Z H : Hp} {p : Addr} {xs : List V} (zh : aG Z H) (tp : ∀ a o, H a = some o -> j6 o = true -> Z a = some o) (hp : H p = none) : EH Z H (upd Z p (.tup xs)) (upd H p (.tup xs)) := by
 have zp : Z p = none := zh.free hp
 refine ⟨aG.upd zp, aG.upd hp, fun a o q => ?_, fun a o q z => ?_, fun a o q i => ?_⟩
 . by_cases e : a = p
   . subst e; rw [aP] at q ⊢; exact q
   . rw [az e] at q ⊢; exact zh a o q
 . by_cases e : a = p
   . subst e; exact hp
   . rw [az e, z] at q; cases q
 . by_cases e : a = p
   . subst e; rw [aP] at q ⊢; exact q
   . rw [az e] at q ⊢; exact tp a o q i
section
variable {K : PySem.W.Frag} {CL : Str -> Addr} {b : Bx} {H H' Z Z' : Hp} {δ : List (Option T)} {σ : L2.St} {ts : List T} {vs : List V}
theorem bA.grow (S : bA K CL b H Z δ σ ts vs) (g : EH Z H Z' H') : bA K CL b H' Z' δ σ ts vs := by
 obtain ⟨fp, gp, e, r, nd, k⟩ := S.rep
 have old : ∀ a ∈ fp ++ gp, ∃ o, H a = some o := fun a ha => (akC.mp ha).elim (e.there a) (r.there a)
 have keep : ∀ a ∈ fp ++ gp, H' a = H a := fun a ha => by
   obtain ⟨o, q⟩ := old a ha
   rw [q]; exact g.h a o q
 refine ⟨⟨fp, gp, e.mono g.z (fun a ha => keep a (akF _ ha)), r.mono g.z (fun a ha => keep a (aky _ ha)), nd, fun a ha => ⟨?_, (k a ha).2⟩⟩, S.bh.trans g.h, S.zz.trans g.z, g.zh, fun a o q z => ?_, g.tp, S.tab⟩
 . cases q : Z' a with
   | none => rfl
   | some o =>
     obtain ⟨u, hu⟩ := old a ha
     rw [g.new a o q (k a ha).1] at hu; cases hu
 . cases e2 : Z a with
   | none => exact S.bh.free (g.new a o q e2)
   | some u =>
     have := g.z a u e2
     rw [q] at this; cases this
     exact S.new a o e2 z
noncomputable def NC (δ : List (Option T)) : List Nat -> List D -> List (Option T)
 | i :: is, d :: ds => NC (δ.set i (some (.sh d))) is ds
 | _, _ => δ
noncomputable def z7 (σ : L2.St) : List Nat -> List V -> L2.St
 | i :: is, v :: vs => z7 (σ.set i (some v)) is vs
 | _, _ => σ
theorem bA.sets {ps : List D} {ys : List V} : ∀ {is : List Nat} {δ : List (Option T)} {σ : L2.St}, bA K CL b H Z δ σ ts vs -> aD K CL Z ps ys -> (∀ i ∈ is, i < δ.length) -> bA K CL b H Z (NC δ is ps) (z7 σ is ys) ts vs := by
 intro is
 induction is generalizing ps ys with
 | nil =>
   intro δ σ S r _
   cases ps <;> cases ys <;> exact S
 | cons i is ih =>
   intro δ σ S r hl
   cases r with
   | nil => exact S
   | cons r rr => exact ih ((S.push r).set (hl i akA)) rr (fun j hj => by rw [List.length_set]; exact hl j (akE _ hj))
end
section
variable {X : Cx} {CL : Str -> Addr} {b : Bx} {δ δ1 : List (Option T)} {ds : List D} {iter tg : Expr} {pos : Pos}
structure EI (X : Cx) (CL : Str -> Addr) (b : Bx) (δ1 : List (Option T)) (σ : L2.St) (ts : List T) (vs : List V) (Z H : Hp) (ds : List D) (J : It) (H1 : Hp) : Prop where
 ex : ∃ Z1, aG Z Z1 /\ aG H H1 /\ bA X.K CL b H1 Z1 δ1 σ ts vs /\ (∀ i H2, aG Z1 H2 -> i < ds.length -> J.go i H2) ∧
   (∀ i Z2 H2 x H', aG Z1 Z2 -> aG Z2 H2 -> (∀ a o, H2 a = some o -> j6 o = true -> Z2 a = some o) -> i < ds.length -> J.ZI i H2 x H' -> ∃ Z3 d, ds[i]? = some d /\ EH Z2 H2 Z3 H' /\ bM X.K CL Z3 d x) /\ (∀ H2, aG Z1 H2 -> J.stop ds.length H2)
noncomputable def ZV (X : Cx) (CL : Str -> Addr) (b : Bx) (tg e : Expr) (δ : List (Option T)) (ds : List D) (δ1 : List (Option T)) : Prop :=
 ∃ wi, PI X tg e wi /\ ∀ (H Z : Hp) (σ : L2.St) (ts : List T) (vs : List V) (R : It -> Hp -> Prop), bA X.K CL b H Z δ σ ts vs -> (∀ J H1, EI X CL b δ1 σ ts vs Z H ds J H1 -> R J H1) -> wi σ H R
theorem ZW (h : Vx X CL b tg iter δ ds δ1) : ZV X CL b tg iter δ ds δ1 := by
 obtain ⟨wi, pi, hw⟩ := h
 refine ⟨wi, pi, fun H Z σ ts vs R S k => hw H Z σ ts vs R S fun J H1 zz => ?_⟩
 obtain ⟨Z1, us, z1, k1, S1, rr, go, yl, st⟩ := zz
 refine k J H1 ⟨Z1, z1, k1, S1, go, fun i Z2 H2 x H' s1 s2 tp hi hy => ?_, st⟩
 obtain ⟨e, hu⟩ := yl i H2 x H' (s1.trans s2) hi hy
 subst e
 obtain ⟨d, hd, rd⟩ := rr.Rq hu
 exact ⟨Z2, d, hd, .refl s2 tp, rd.mono s1⟩
noncomputable def Tgt (X : Cx) (CL : Str -> Addr) (tg : Expr) (is : List Nat) (parts : D -> Option (List D)) : Prop :=
 ∃ t : TG, PG X tg t /\ ∀ (Z H : Hp) (d : D) (ps : List D) (x : V) (σ : L2.St) (Q : L2.St -> Hp -> Prop), aG Z H -> bM X.K CL Z d x -> parts d = some ps -> (∀ ys, aD X.K CL Z ps ys -> Q (z7 σ is ys) H) -> t x σ H Q
noncomputable def part1 (d : D) : Option (List D) := some [d]
noncomputable def part2 : D -> Option (List D)
 | .tup [a, c] => some [a, c]
 | _ => none
theorem O4 {d : D} {ps : List D} (h : part2 d = some ps) : ∃ d1 d2, d = .tup [d1, d2] /\ ps = [d1, d2] := by
 unfold part2 at h
 split at h
 . cases h; exact ⟨_, _, rfl, rfl⟩
 . cases h
theorem KG {K : PySem.W.Frag} {i j : Nat} {Z H : Hp} {d : D} {ps : List D} {x : V} {σ : L2.St} {Q : L2.St -> Hp -> Prop} (zh : aG Z H) (r : bM K CL Z d x) (e : part2 d = some ps) (k : ∀ ys, aD K CL Z ps ys -> Q (z7 σ [i, j] ys) H) : aaH K 2 (HC (yo i) (HC (yo j) aaG)) x σ H Q := by
 obtain ⟨d1, d2, rfl, rfl⟩ := O4 e
 cases r with
 | tup hq rr =>
   cases rr with
   | cons r1 rr =>
     cases rr with
     | cons r2 rr =>
       cases rr
       exact ⟨_, _, rfl, aG.Rp zh hq, rfl, _, _, rfl, _, _, rfl, rfl, k _ (.cons r1 (.cons r2 .nil))⟩
theorem R0 {i : Nat} {x : Str} {px : Pos} (hN : X.N.Nodup) (n : Ln X i x) : Tgt X CL (.Name x px) [i] part1 :=
 ⟨yo i, vq hN n.hi n.loc n.hf, fun Z H d ps x σ Q zh r e k => by
   cases e
   exact k [x] (.cons r .nil)⟩
theorem Wr {i j k : Nat} {x y : Str} {px py pt : Pos} (hN : X.N.Nodup) (hc : X.calm = true) (n : Ln X i x) (m : Ln X j y) (hs : (assignEach [.Name x px, .Name y py] X.env).map (·.2) = assign (.Name x px) X.env :: (assignEach [.Name y py] X.env).map (·.2) := by rfl) (Vv : (assignEach [.Name y py] X.env).map (·.2) = assign (.Name y py) X.env :: (assignEach [] X.env).map (·.2) := by rfl)
   (hn : (assignEach [.Name x px, .Name y py] X.env).length = 2 := by rfl) (HF : (assignEach [.Name x px, .Name y py] X.env).findIdx? (·.1) = none := by rfl) : Tgt X CL (.Tuple [.Name x px, .Name y py] k pt) [i, j] part2 :=
 ⟨aaH X.K 2 (HC (yo i) (HC (yo j) aaG)), aaI hc (HD (vq hN n.hi n.loc n.hf) (HD (vq hN m.hi m.loc m.hf) VL Vv) hs) hn HF, fun Z H d ps x σ Q zh r e k => KG zh r e k⟩
theorem Ws {D : cE} {d8 : List Stmt} (is : List Nat) (parts : L3.D -> Option (List L3.D)) (P : Nat -> List (Option T) -> Prop) (h : ZV X CL b tg iter δ ds δ1) (ht : Tgt X CL tg is parts) (h0 : P 0 δ1) (hl : ∀ j δ, P j δ -> ∀ i ∈ is, i < δ.length)
   (hs : ∀ j d δ, ds[j]? = some d -> P j δ -> ∃ ps, parts d = some ps /\ eL X CL b d8 (NC δ is ps) { nx := P (j + 1), rt := D.rt, bk := D.nx, ct := P (j + 1) }) (hd : ∀ δ, P ds.length δ -> D.nx δ)
   (hp : PassesOwn (model X.prog X.w) X.A X.env X.xe) (hc : X.calm = true) (hq : ∀ x, foldedSetIterable iter X.env x = pure x := by intro _; rfl) :
   OZ X CL b (.For tg iter d8 [] pos) δ D := fun H Z σ ts vs E S M => by
 obtain ⟨wi, pi, hw⟩ := h
 obtain ⟨t, pg, ht⟩ := ht
 refine om (QX hp hc pi pg QD hq) (hw H Z σ ts vs _ S fun J H1 zz => ?_)
 obtain ⟨Z1, z1, k1, S1, go, yl, st⟩ := zz
 refine ⟨fun j m σ H2 => m = ds.length - j /\ j <= ds.length /\ ∃ Z2 δ2, aG Z1 Z2 /\ bA X.K CL b H2 Z2 δ2 σ ts vs /\ P j δ2, ⟨_, rfl, akV _, Z1, δ1, .refl _, S1, h0⟩, ?_⟩
 rintro j m σ H2 ⟨rfl, hj, Z2, δ2, s, S2, p2⟩
 by_cases vo : j < ds.length
 . refine .inr ⟨go j H2 (s.trans S2.zh) vo, fun σ' H' => ∃ Z2 δ2, aG Z1 Z2 /\ bA X.K CL b H' Z2 δ2 σ' ts vs /\ P (j + 1) δ2, fun σ' H' h => ⟨ds.length - (j + 1), by omega, rfl, vo, h⟩, fun y H' hy => ?_⟩
   obtain ⟨Z3, d, VG, gr, rd⟩ := yl j Z2 H2 y H' s S2.zh S2.tp vo hy
   obtain ⟨ps, NF, hb⟩ := hs j d δ2 VG p2
   have S3 := S2.grow gr
   refine ht Z3 H' d ps y σ _ S3.zh rd NF fun ys rys => ?_
   have S4 := S3.sets (is := is) rys (hl j δ2 p2)
   have s3 := s.trans gr.z
   exact hb _ Z3 _ ts vs _ S4 ⟨fun δ' σ' H' Z' s' S' k => ⟨Z', δ', s3.trans s', S', k⟩, fun t v H' Z' δ' σ' s' S' k => M.rt t v H' Z' δ' σ' (z1.trans (s3.trans s')) S' k, fun δ' σ' H' Z' s' S' k => M.nx δ' σ' H' Z' (z1.trans (s3.trans s')) S' k, fun δ' σ' H' Z' s' S' k => ⟨Z', δ', s3.trans s', S', k⟩⟩
 . have e : j = ds.length := by omega
   subst e
   exact .inl ⟨st H2 (s.trans S2.zh), M.nx δ2 σ H2 Z2 (z1.trans s) S2 (hd δ2 p2)⟩
theorem aby {D : cE} {body d8 : List Stmt} {is : List Nat} {parts : L3.D -> Option (List L3.D)} (g : Gx X) (ht : Tgt X CL tg is parts) (P : Nat -> List (Option T) -> Prop) (h : ZV X CL b tg iter δ ds δ1) (h0 : P 0 δ1) (hl : ∀ j δ, P j δ -> ∀ i ∈ is, i < δ.length)
   (hs : ∀ j d δ, ds[j]? = some d -> P j δ -> ∃ ps, parts d = some ps /\ eL X CL b body (NC δ is ps) { nx := P (j + 1), rt := D.rt, bk := fun δ2 => eL X CL b d8 δ2 D, ct := P (j + 1) }) (hd : ∀ δ, P ds.length δ -> eL X CL b d8 δ D) (hq : ∀ x, foldedSetIterable iter X.env x = pure x := by intro _; rfl) :
   eL X CL b (.For tg iter body [] pos :: d8) δ D :=
 ck (Ws (D := { D with nx := fun δ1 => eL X CL b d8 δ1 D }) is parts P h ht h0 hl hs hd g.xe g.calm hq)
end
structure qU (X : Cx) (scope : Scope) (xs : List Str) (Nc : List Str) (ix : List Nat) : Prop where
 kind : scope.kind = .function
 xm : ∀ y ∈ scope.names, y.2 ≠ .cell
 nd : Nc.Nodup
 names : ∀ y ∈ scope.names, y.2 = .local -> scope.names.lookup y.1 = some .local
 own : ∀ x ∈ xs, scope.names.lookup x = some .local
 frees : ∀ y ∈ scope.names, y.2 = .free -> scope.names.lookup y.1 = some .free /\ (X.env.kindOf y.1 = some .cell \/ X.env.kindOf y.1 = some .free)
 hd : Nc = xs ++ ix.filterMap (X.N[·]?)
 ZU : ∀ i ∈ ix, ∃ y, X.N[i]? = some y /\ scope.names.lookup y = some .free
noncomputable def O5 (σ : L2.St) (ix : List Nat) (os : List (Option V)) : L2.St := os ++ ix.map fun i => (σ[i]?).getD none
section
variable {X : Cx} {scope : Scope} {xs : List Str} {Nc : List Str} {ix : List Nat} {pins : List (Addr × Obj)} {σ : L2.St} {H : Hp} {s : Shared}
theorem Ii {fp : List Addr} (sc : qU X scope xs Nc ix) (I : Inv X pins σ H s) (qF : ∀ b ∈ fp, kH X pins H b /\ b < s.heap.objs.size) {h' : Heap} {m : Str -> Option Value} {tk : Nat}
   (hn : h'.Ns s.heap.objs.size m) (hk : ∀ b o, s.heap.get? b = some o -> h'.get? b = some o) :
   Inv (dN X scope Nc s.heap.objs.size s H fp) [] (O5 σ ix (List.replicate xs.length none)) H { s with heap := h', toks := tk } := by
 have frees : ∀ y ∈ scope.names, y.2 = .free -> ∃ c, X.env.cells.lookup y.1 = some c := fun y hy e => I.ok.has y.1 (sc.frees y hy e).2
 have sub : ∀ {y : Str} {c : Addr}, (cX X.env scope.names []).lookup y = some c -> X.env.cells.lookup y = some c := fun {y c} e => o8 frees (fun _ _ z => by cases z) e
 have hlen : (O5 σ ix (List.replicate xs.length none)).length = Nc.length := by
   have all : ∀ l : List Nat, (∀ i ∈ l, ∃ y, X.N[i]? = some y /\ scope.names.lookup y = some .free) -> (l.filterMap (X.N[·]?)).length = l.length := by
     intro l
     induction l with
     | nil => intro _; rfl
     | cons i r ih =>
       intro h
       obtain ⟨y, e, _⟩ := h i akA
       rw [ald, e]
       show _ + 1 = _ + 1
       rw [ih fun j hj => h j (akE _ hj)]
   unfold O5
   rw [sc.hd, ak1, ak1, akD, alQ, all ix sc.ZU]
 have C0 : s.heap.get? s.heap.objs.size = none := Heap.get?_none_of_le (akG _)
 refine ⟨⟨I.ok.mod, sc.kind, I.ok.glob, I.ok.blt, akG _, fun y z c h1 h2 => I.ok.inj y z c (sub h1) (sub h2), fun y hy => ?_, fun y c hf _ => (by cases (show false = true from hf)), I.ok.hd, I.ok.frames, .inl rfl, fun b hb => ⟨ala (qF b hb).2, fun y c e => (qF b hb).1.2.2.2.2.1 y c (sub e)⟩, I.bs, alq I.ok.Vu I.sz, fun b o e hb => ?_, fun b hb hf => ?_, I.stack, I.Ek⟩,
   rfl, I.bare, Un.kept hk, ⟨m, hn, fun i y v h1 h2 h3 => ?_⟩, fun y c e => ?_, I.dJ.fresh (akG _), fun y c e => I.qI y c (sub e), fun p hp => absurd (show p ∈ ([] : List (Addr × Obj)) from hp) (by simp), I.dJ.kept hk, hlen⟩
 . 
   have hy' : (relabel scope X.env).names.lookup y = some .cell \/ (relabel scope X.env).names.lookup y = some .free := hy
   cases e : scope.names.lookup y with
   | none => 
     have := kG (env := X.env) e
     rcases hy' with q | q <;> (rw [show (relabel scope X.env).names.lookup y = none from this] at q; cases q)
   | some k =>
     have q := fX (env := X.env) e
     have hk : k = .free := by
       by_cases hk : k = .free
       . exact hk
       . have hb : (k == NameKind.free) = false := by simpa using hk
         rw [akH (by rw [hb]; simp)] at q
         have nc : k ≠ .cell := fun z => by
           subst z
           exact sc.xm _ (alu e) rfl
         rcases hy' with z | z
         . rw [show (relabel scope X.env).names.lookup y = some k from q] at z
           exact absurd (akU z) nc
         . rw [show (relabel scope X.env).names.lookup y = some k from q] at z
           exact absurd (akU z) hk
     subst hk
     exact lF e
 . 
   rcases (qF b hb).1.2.2.2.1 with z | z
   . exact I.ok.QJ b o e z
   . exact absurd (ak9 (akT e) (alq I.ok.Vu z)) (ame _)
 . rcases akB.mp (I.Ej b hf) with z | z
   . exact (qF b hb).1.2.1 z
   . exact (qF b hb).1.2.2.1 z
 . 
   unfold O5 at h2
   by_cases hi : i < xs.length
   . rw [List.getElem?_append_left (by rw [alQ]; exact hi), List.getElem?_replicate, akJ hi] at h2
     cases h2
   . obtain ⟨n, rfl⟩ : ∃ n, i = xs.length + n := ⟨i - xs.length, by omega⟩
     rw [List.getElem?_append_right (by rw [alQ]; omega), alQ, Nat.add_sub_cancel_left, ak0] at h2
     cases ei : ix[n]? with
     | none => rw [ei] at h2; cases h2
     | some j =>
       rw [ei] at h2
       have R1 : (σ[j]?).getD none = some v := akU h2
       have hj : σ[j]? = some (some v) := by
         cases q : σ[j]? with
         | none => rw [q] at R1; cases R1
         | some o => rw [q] at R1; exact congrArg some R1
       obtain ⟨y', hy1, hy2⟩ := sc.ZU j (alr ei)
       have hNc : Nc[xs.length + n]? = some y' := by
         have all : ∀ (l : List Nat) (i : Nat), (∀ j ∈ l, ∃ y, X.N[j]? = some y /\ scope.names.lookup y = some .free) -> l[i]? = some j -> (l.filterMap (X.N[·]?))[i]? = some y' := by
           intro l
           induction l with
           | nil => intro i _ h; simp at h
           | cons a r ih =>
             intro i h hi
             obtain ⟨ya, ea, _⟩ := h a akA
             rw [ald, ea]
             cases i with
             | zero =>
               simp at hi
               subst hi
               rw [hy1] at ea
               cases ea
               rfl
             | succ i => exact ih i (fun j hj => h j (List.mem_cons_of_mem _ hj)) (by simpa using hi)
         rw [sc.hd, List.getElem?_append_right (by omega), Nat.add_sub_cancel_left]
         exact all ix n sc.ZU ei
       have ey : y' = y := by
         have ZX : Nc[xs.length + n]? = some y := h1
         rw [hNc] at ZX
         exact akU ZX
       subst ey
       have zO := (sc.frees (y', .free) (alu hy2) rfl).2
       have abA : ZD X.env.scope y' := zO.elim (fun z => .inr (.inl z)) (fun z => .inr (.inr z))
       obtain ⟨m0, hn0, hl0⟩ := I.loc
       obtain ⟨u, ru, lk⟩ := hl0 j y' v hy1 hj abA
       refine ⟨u, ru, ?_⟩
       rcases lk with ⟨kk, _⟩ | ⟨_, c, hc, tX⟩
       . rcases zO with z | z
         . rw [kk] at z; cases z
         . rw [kk] at z; cases z
       . obtain ⟨c', QK⟩ := lF (env := X.env) (cs := []) hy2
         have : c' = c := by
           have := sub QK
           rw [hc] at this
           exact (akU this).symm
         subst this
         obtain ⟨o, ho, hd⟩ := tX
         refine .inr ⟨?_, c', QK, o, hk _ _ ho, hd⟩
         have q := fX (env := X.env) hy2
         show (relabel scope X.env).names.lookup y' = some .cell \/ (relabel scope X.env).names.lookup y' = some .free
         rw [show (relabel scope X.env).names.lookup y' = _ from q]
         split
         . exact .inl rfl
         . exact .inr rfl
 . obtain ⟨v, o, ho, hd⟩ := I.cell y c (sub e)
   exact ⟨v, o, hk _ _ ho, hd⟩
noncomputable def R4 (X : Cx) (tg elt : Expr) (ifs : List Expr) (n : Nat) (σ : L2.St) (ix : List Nat) (D : Addr) (N : Hp -> Prop) (xv : V) (os : List (Option V)) (H3 : Hp) : Prop :=
 ∃ t : TG, PG X tg t /\ t xv (O5 σ ix os) H3 fun σ8 H4 => ∃ os', os'.length = n /\ σ8 = O5 σ ix os' /\ abk X ifs σ8 H4 fun ok H5 =>
   if ok = true then Ca X elt σ8 H5 fun y H6 => ∃ acc, H6 D = some (.lst acc) /\ acc.length < sizeLine /\ N (upd H6 D (.lst (acc ++ [y]))) else N H5
theorem KH {elt iter tg : Expr} {pos : Pos} {ifs : List Expr} {J : It} {fp : List Addr} {it : Addr} {tn : Nat -> Heap -> Prop} {G : Addr -> Hp -> Prop} {RR : Value -> Addr -> Result -> Shared -> Prop} {E : Value -> Shared -> Prop}
   (sc : qU X scope xs Nc ix) (hc : X.calm = true) (I : Inv X pins σ H s) (Tn : Turn X.prog X.w X.K tg J fp it tn) (st : tn 0 s.heap) (hf : ∀ b ∈ fp, kH X pins H b)
   (loop : ∀ D, H D = none -> ∃ W : Nat -> Nat -> Hp -> Prop, (∃ m, W 0 m (upd H D (.lst []))) /\ ∀ i m H2, W i m H2 -> (J.stop i H2 /\ G D H2) ∨
     (J.go i H2 /\ ∃ N : Hp -> Prop, (∀ H', N H' -> ∃ m', m' < m /\ W (i + 1) m' H') /\ ∀ xv H3, J.ZI i H2 xv H3 -> ∀ C s0 H0 f0 os, os.length = xs.length -> R4 (dN X scope Nc C s0 H0 f0) tg elt ifs xs.length σ ix D N xv os H3))
   (hRR : ∀ D C s' H', (∃ m, s'.heap.Ns C m) -> (∃ o, s'.heap.get? C = some o /\ ∀ v, o.data ≠ .cell v) -> H' C = none -> (C ≠ X.env.locals /\ C ∉ X.fs /\ X.s₀.heap.objs.size <= C /\ (∀ y c, X.env.cells.lookup y = some c -> c ≠ C) /\ ∀ q ∈ X.pn ++ pins, q.1 ≠ C) -> (∀ h', Heap.SameBut C s'.heap h' -> Inv X pins σ H' { s' with heap := h' }) -> G D H' -> RR (.ref D) C (.ok .next) s') :
   wpAny (model X.prog X.w) X.A (newList []) (fun acc s₃ => wpAny (model X.prog X.w) X.A (newFunctionEnv scope X.env.globals (cX X.env scope.names []) [] X.env.qual none .none (some X.env)) (fun R5 s₄ =>
     codeAny (model X.prog X.w) X.A (.compStart (.ListComp elt [⟨tg, iter, ifs, 0⟩] scope pos) 0 (.ref it) acc { R5 with scope := relabel scope X.env }) (RR acc R5.locals) s₄) E s₃) E s := by
 refine wpAny_newObj_type ?_
 have I3 : Inv X pins σ (upd H s.heap.objs.size (.lst [])) { s with heap := s.heap.push { cls := .type "list", dict := none, data := .seq ([] : List Value).toArray } } :=
   I.laid (t' := s.toks) (fun b u e => akN _ e) (akG _) ⟨by show 0 <= sizeLine; exact akV _, [], 0, .nil, ak3 _ rfl⟩
 have hD : H s.heap.objs.size = none := I.dJ.fresh (akG _)
 obtain ⟨W, ⟨m0, w0⟩, turn⟩ := loop _ hD
 have R6 : ∀ b ∈ fp, kH X pins (upd H s.heap.objs.size (.lst [])) b /\ b < (s.heap.push { cls := .type "list", dict := none, data := .seq ([] : List Value).toArray }).objs.size := fun b hb => by
   obtain ⟨f0, f1⟩ := hf b hb
   obtain ⟨o, ho, _⟩ := Tn.obj 0 _ st b hb
   have vo := akT ho
   refine ⟨⟨by rw [az (ala vo)]; exact f0, f1⟩, ?_⟩
   rw [Heap.size_push]; exact Nat.lt_succ_of_lt vo
 have st3 : tn 0 (s.heap.push { cls := .type "list", dict := none, data := .seq ([] : List Value).toArray }) := Tn.keep 0 _ _ st fun b _ o e => akN _ e
 generalize hs3 : ({ s with heap := s.heap.push { cls := .type "list", dict := none, data := .seq ([] : List Value).toArray } } : Shared) = s3 at I3 ⊢
 have hh3 : s3.heap = s.heap.push { cls := .type "list", dict := none, data := .seq ([] : List Value).toArray } := by rw [← hs3]
 rw [← hh3] at R6 st3
 refine wpAny_newFunctionEnv sc.xm (by intro y hy; simp at hy) (fun h₁ abC abD => ?_) sc.kind
 have old : ∀ b o, s3.heap.get? b = some o -> h₁.get? b = some o := fun b o e => (abD.2 b (ala (akT e))).trans (akN _ e)
 have J0 := Ii (tk := s3.toks + ([] : List (Str × Value)).length) sc I3 R6 abC old
 have st4 : tn 0 h₁ := Tn.keep 0 _ _ st3 fun b _ o e => old b o e
 have ZY : ∀ s4 : Shared, s4 = { s3 with heap := h₁, toks := s3.toks + ([] : List (Str × Value)).length } -> codeAny (model X.prog X.w) X.A (.compLoop (.ListComp elt [⟨tg, iter, ifs, 0⟩] scope pos) 0 (.ref it) (.ref s.heap.objs.size) (compEnvC scope (cX X.env scope.names []) s3.heap.objs.size X.env)) (RR (.ref s.heap.objs.size) s3.heap.objs.size) s4 := by
   rintro s4 rfl
   have stat : ∀ {H' : Hp}, (∀ b ∈ fp, H' b = none) -> ∀ b ∈ fp, kH (dN X scope Nc s3.heap.objs.size s3 (upd H s.heap.objs.size (.lst [])) fp) [] H' b := fun {H'} hn b hb => by
     obtain ⟨⟨f0, f1, f2, f3, f4, f5⟩, vo⟩ := R6 b hb
     refine ⟨hn b hb, ala vo, fun z => ?_, .inl hb, fun y c e => f4 y c (o8 (fun y hy e => I.ok.has y.1 (sc.frees y hy e).2) (fun _ _ z => by cases z) e), fun p hp => absurd (show p ∈ ([] : List (Addr × Obj)) from hp) (by simp)⟩
     rcases akB.mp (I3.Ej b z) with q | q
     . exact f1 q
     . exact f2 q
   refine EA (fun n s' => ∃ i o H', o.length = xs.length /\ Inv (dN X scope Nc s3.heap.objs.size s3 (upd H s.heap.objs.size (.lst [])) fp) [] (O5 σ ix o) H' s' /\ tn i s'.heap /\ (∀ b ∈ fp, H' b = none) /\ W i n H') ?_ m0 ⟨0, _, _, alQ, J0, st4, fun b hb => (R6 b hb).1.1, w0⟩
   rintro n s5 ⟨i, o5, H5, ol5, I5, st5, fr5, w5⟩
   rcases turn i n H5 w5 with ⟨stop, g⟩ | ⟨go, N, hN, step⟩
   . refine eB (Tn.done (dN X scope Nc s3.heap.objs.size s3 (upd H s.heap.objs.size (.lst [])) fp) rfl rfl rfl hc i [] s5 _ H5 _ I5 (stat fr5) st5 stop) fun r s6 zz => ?_
     obtain ⟨hr, I6⟩ := zz
     subst hr
     obtain ⟨m6, hn6, _⟩ := I6.loc
     obtain ⟨oc, esc, epc, hoc, hdc, _⟩ := id hn6
     have fpC := I3.Em (akG s3.heap.objs.size) (H' := fun _ => none) rfl
     refine hRR _ _ s6 H5 ⟨m6, hn6⟩ ⟨oc, hoc, fun v z => by rw [hdc] at z; cases z⟩ I6.free ⟨fpC.2.1, fpC.2.2.1, ?_, fpC.2.2.2.2.1, fpC.2.2.2.2.2⟩ (fun h' hs' => O2 I3 (fun b hb => (R6 b hb).1) I6 hs') g
     exact I3.sz
   . refine eB (Tn.item (dN X scope Nc s3.heap.objs.size s3 (upd H s.heap.objs.size (.lst [])) fp) rfl rfl rfl hc i [] s5 _ H5 _ I5 (stat fr5) st5 go) fun r s6 zz => ?_
     obtain ⟨u, hr, h6⟩ := zz
     subst hr
     refine eB h6 fun _ s7 zz => ?_
     obtain ⟨xv, H7, I7, r7, y7, st7, fr7⟩ := zz
     have I7' := I7.pinned (stat fr7) (Tn.obj _ _ st7)
     obtain ⟨t, hg, ht⟩ := step xv _ y7 s3.heap.objs.size s3 (upd H s.heap.objs.size (.lst [])) fp o5 ol5
     refine eB (hg _ s7 _ H7 xv u _ I7' r7 ht) fun _ s8 zz => ?_
     obtain ⟨σ8, H8, I8, os8, ol8, e8, h8⟩ := zz
     subst e8
     refine eB (RL I8 h8 rfl) fun ok s9 zz => ?_
     obtain ⟨H9, I9, q9⟩ := zz
     have again : ∀ {Ha : Hp} {sa : Shared}, Inv (dN X scope Nc s3.heap.objs.size s3 (upd H s.heap.objs.size (.lst [])) fp) ([] ++ zK fp s7.heap) (O5 σ ix os8) Ha sa -> N Ha -> ∃ m, m < n /\ ∃ i o H', o.length = xs.length /\ Inv (dN X scope Nc s3.heap.objs.size s3 (upd H s.heap.objs.size (.lst [])) fp) [] (O5 σ ix o) H' sa /\ tn i sa.heap /\ (∀ b ∈ fp, H' b = none) /\ W i m H' := fun {Ha sa} Ia na => by
       obtain ⟨m', hm, wa⟩ := hN Ha na
       refine ⟨m', hm, i + 1, os8, Ha, ol8, Ia.qK, Tn.keep _ _ _ st7 fun b hb o e => (Ia.pin (b, o) (aky _ (aky _ (jA hb e)))).1, fun b hb => ?_, wa⟩
       obtain ⟨o, e, d⟩ := Tn.obj _ _ st7 b hb
       exact (Ia.pin (b, o) (aky _ (aky _ (jA hb e)))).2.1
     cases ok with
     | false =>
       rw [akH akO] at q9 ⊢
       exact again I9 q9
     | true =>
       rw [akJ rfl] at q9 ⊢
       refine eB (q9 _ s9 I9) fun v sa zz => ?_
       obtain ⟨y, Ha, Ia, ra, acc, Wt, hlen, na⟩ := zz
       refine eB (xh (X := dN X scope Nc s3.heap.objs.size s3 (upd H s.heap.objs.size (.lst [])) fp) _ sa _ Ha (.ref s.heap.objs.size) [y] (.ref s.heap.objs.size) [v] (fun _ Hb => Hb = upd Ha s.heap.objs.size (.lst (acc ++ [y]))) Ia rfl (.cons ra .nil) ⟨_, acc, y, rfl, rfl, Wt, hlen, rfl⟩) fun _ sb zz => ?_
       obtain ⟨_, Hb, Ib, _, eb⟩ := zz
       subst eb
       exact again Ib na
 exact codeAny_compStart_list (ZY _ rfl) (Tn.self _ 0 _ _ _ st4 (ZY _ rfl))
end
noncomputable def O6 (ps : List D) : List (Option T) := ps.map fun p => some (.sh p)
theorem DK : ∀ {ys : List V} {os : List (Option V)} {pre r : L2.St}, os.length = ys.length -> z7 (pre ++ (os ++ r)) (List.range' pre.length ys.length) ys = pre ++ (ys.map some ++ r)
 | [], os, pre, r, h => by
   have : os = [] := amq.mp h
   subst this
   rfl
 | y :: ys, os, pre, r, h => by
   match os, h with
   | o :: os, h =>
     show z7 ((pre ++ (o :: (os ++ r))).set pre.length (some y)) (List.range' (pre.length + 1) ys.length) ys = _
     rw [List.set_append_right _ _ (akG _), Nat.sub_self, List.set_cons_zero]
     have := DK (ys := ys) (os := os) (pre := pre ++ [some y]) (r := r) (by simpa using h)
     simp only [ak1, akZ, List.length_nil, akx, List.singleton_append] at this
     rw [this]
     simp
theorem Wu {K : PySem.W.Frag} {CL : Str -> Addr} {H Z : Hp} : ∀ {ps : List D} {ys : List V} {δc : List (Option T)} {σc : L2.St}, aD K CL Z ps ys -> eN K CL H Z δc σc [] -> eN K CL H Z (O6 ps ++ δc) (ys.map some ++ σc) [] := fun {ps ys δc σc} h e =>
 aD.ind (P := fun ps ys => eN K CL H Z (O6 ps ++ δc) (ys.map some ++ σc) []) e (fun r _ i => .cons (fp := []) (gp := []) (.sh r) i) h
section
variable {X : Cx} {CL : Str -> Addr} {b : Bx} {H Z W1 : Hp} {δ δc : List (Option T)} {σ : L2.St} {ts : List T} {vs : List V} {ds : List D} {scope : Scope} {Nc : List Str} {n : Nat} {ix : List Nat} {elt tg : Expr} {ifs : List Expr} {p : D -> Bool} {g : D -> T} {J : It} {parts : D -> Option (List D)}
noncomputable def xu (X : Cx) (CL : Str -> Addr) (scope : Scope) (Nc : List Str) (n : Nat) (tg : Expr) (parts : D -> Option (List D)) (ifs : List Expr) (elt : Expr) (δc : List (Option T)) (ds : List D) (p : D -> Bool) (g : D -> T) : Prop :=
 ∀ C s0 H0 f0 b', Tgt (dN X scope Nc C s0 H0 f0) CL tg (List.range' 0 n) parts /\ ∀ d, d ∈ ds -> ∃ ps, parts d = some ps /\ ps.length = n /\ TIv (dN X scope Nc C s0 H0 f0) CL b' ifs (O6 ps ++ δc) (p d) /\ (p d = true -> cJ (dN X scope Nc C s0 H0 f0) CL b' elt (O6 ps ++ δc) (g d) (O6 ps ++ δc))
structure GW (K : PySem.W.Frag) (CL : Str -> Addr) (H W1 : Hp) (D : Addr) (l : List T) (k : Nat) (H2 Z2 : Hp) (J3 : List V) (fp : List Addr) : Prop where
 a1 : aG H H2
 a2 : aG W1 Z2
 a3 : aG Z2 H2
 a4 : Z2 D = none
 a5 : ∀ a o, Z2 a = some o -> W1 a = none -> H a = none
 a6 : ∀ a o, H2 a = some o -> j6 o = true -> Z2 a = some o
 a7 : H2 D = some (.lst J3)
 a8 : aL K CL H2 Z2 l J3 fp
 a9 : fp.Nodup
 b1 : D ∉ fp
 b2 : ∀ a ∈ fp, Z2 a = none /\ H a = none
 b3 : J3.length <= k
theorem z8 (S : bA X.K CL b H Z δ σ ts vs) (zw : aG Z W1) (wh : aG W1 H) (tp : ∀ a o, H a = some o -> j6 o = true -> W1 a = some o)
   (cap : ∀ H', eN X.K CL H' W1 δc (ix.map fun i => (σ[i]?).getD none) []) (inner : xu X CL scope Nc n tg parts ifs elt δc ds p g)
   (hgo : ∀ i H2, aG W1 H2 -> i < ds.length -> J.go i H2)
   (hy : ∀ i Z2 H2 x H', aG W1 Z2 -> aG Z2 H2 -> (∀ a o, H2 a = some o -> j6 o = true -> Z2 a = some o) -> i < ds.length -> J.ZI i H2 x H' -> ∃ Z3 d, ds[i]? = some d /\ EH Z2 H2 Z3 H' /\ bM X.K CL Z3 d x)
   (HF : ∀ H2, aG W1 H2 -> J.stop ds.length H2) (hlen : ds.length <= sizeLine) (c : W1 = Z \/ ∀ d ∈ ds, (g d).clean = true) :
   ∀ D, H D = none -> ∃ W : Nat -> Nat -> Hp -> Prop, (∃ m, W 0 m (upd H D (.lst []))) /\ ∀ i m H2, W i m H2 -> (J.stop i H2 /\ ∃ Z2, aG Z Z2 /\ aG H H2 /\ bA X.K CL b H2 Z2 δ σ (.lst ((ds.filter p).map g) :: ts) (.ref D :: vs)) ∨
     (J.go i H2 /\ ∃ N : Hp -> Prop, (∀ H', N H' -> ∃ m', m' < m /\ W (i + 1) m' H') /\ ∀ xv H3, J.ZI i H2 xv H3 -> ∀ C s0 H0 f0 os, os.length = n -> R4 (dN X scope Nc C s0 H0 f0) tg elt ifs n σ ix D N xv os H3) := by
 intro D hD
 have wD : W1 D = none := wh.free hD
 refine ⟨fun i m H2 => m = ds.length - i /\ i <= ds.length /\ ∃ Z2 J3 fp, GW X.K CL H W1 D (((ds.take i).filter p).map g) i H2 Z2 J3 fp, ⟨ds.length, rfl, akV _, W1, [], [], aG.upd hD, .refl _, wh.trans (aG.upd hD), wD, fun a o q z => ?_, fun a o q i => ?_, aP, .nil, alG, by simp, by simp, by simp⟩, ?_⟩
 . rw [q] at z; cases z
 . by_cases ha : a = D
   . subst ha; rw [aP] at q; cases q; cases i
   . rw [az ha] at q; exact tp a o q i
 . rintro i m H2 ⟨rfl, hi, Z2, J3, fp, hh, wz, zh, zD, nw, tp2, hD2, ra, nd, nD, own, hav⟩
   by_cases vo : i < ds.length
   . refine .inr ⟨hgo i H2 (wz.trans zh) vo, fun H' => ∃ Z2 J3 fp, GW X.K CL H W1 D (((ds.take (i + 1)).filter p).map g) (i + 1) H' Z2 J3 fp, fun H' h => ⟨ds.length - (i + 1), by omega, rfl, vo, h⟩, fun xv H3 y C s0 H0 f0 os hos => ?_⟩
     obtain ⟨Z3, d, hd, gr, rd⟩ := hy i Z2 H2 xv H3 wz zh tp2 vo y
     have abE : ∀ a, Z2 a = none -> (∃ o, H2 a = some o) -> Z3 a = none := fun a e ⟨o, e2⟩ => by
       cases q : Z3 a with
       | none => rfl
       | some u => rw [gr.new a u q e] at e2; cases e2
     have nw3 : ∀ a o, Z3 a = some o -> W1 a = none -> H a = none := fun a o q z => by
       cases e : Z2 a with
       | none => exact hh.free (gr.new a o q e)
       | some u =>
         have := gr.z a u e
         rw [q] at this; cases this
         exact nw a o e z
     have ra3 : aL X.K CL H3 Z3 (((ds.take i).filter p).map g) J3 fp := ra.mono gr.z fun a ha => by
       obtain ⟨o, e⟩ := ra.there a ha
       rw [e]; exact gr.h a o e
     have ow3 : ∀ a ∈ fp, Z3 a = none /\ H a = none := fun a ha => ⟨abE a (own a ha).1 (ra.there a ha), (own a ha).2⟩
     have zD3 : Z3 D = none := abE D zD ⟨_, hD2⟩
     have ZZ : H3 D = some (.lst J3) := gr.h D _ hD2
     have hh3 := hh.trans gr.h
     have wz3 := wz.trans gr.z
     have zh3 := gr.zh
     have tp3 := gr.tp
     clear own nw ra zD hD2 hh wz zh tp2 gr abE
     have agJ : d ∈ ds := alr hd
     have NK : ds.take (i + 1) = ds.take i ++ [d] := by rw [al5, hd]; rfl
     obtain ⟨tgt, O7⟩ := inner C s0 H0 f0 ⟨H3, Z3⟩
     obtain ⟨ps, NF, hpl, it, ie⟩ := O7 d agJ
     obtain ⟨t, pg, ht⟩ := tgt
     refine ⟨t, pg, ht Z3 H3 d ps xv _ _ zh3 rd NF fun ys rys => ?_⟩
     have hyl : ys.length = n := by rw [← rys.length]; exact hpl
     have es : z7 (O5 σ ix os) (List.range' 0 n) ys = O5 σ ix (ys.map some) := by
       have := DK (ys := ys) (os := os) (pre := []) (r := ix.map fun i => (σ[i]?).getD none) (by rw [hos, hyl])
       rw [hyl] at this
       exact this
     refine ⟨ys.map some, by rw [akD]; exact hyl, es, ?_⟩
     rw [es]
     have S0 : bA X.K CL ⟨H3, Z3⟩ H3 Z3 (O6 ps ++ δc) (O5 σ ix (ys.map some)) [] [] :=
       ⟨⟨[], [], Wu rys ((cap H3).mono wz3 fun a ha => by cases ha), .nil, alG, fun a ha => by cases ha⟩, .refl _, .refl _, zh3, fun a o q z => (by have z' : Z3 a = none := z; rw [show Z3 a = some o from q] at z'; cases z'), tp3, (S.Rt.mono zw).mono wz3⟩
     refine it.sem S0 fun H4 Z4 z4 k4 S4 => ?_
     have agL : ∀ a ∈ fp, H4 a = H3 a := fun a ha => by
       obtain ⟨o, e⟩ := ra3.there a ha
       rw [e]; exact k4 a o e
     have R7 : ∀ a, Z3 a = none -> (∃ o, H3 a = some o) -> Z4 a = none := fun a e ⟨o, e2⟩ => by
       cases q : Z4 a with
       | none => rfl
       | some u =>
         have := S4.new a u q e
         rw [show H3 a = none from this] at e2; cases e2
     cases hp : p d with
     | false =>
       refine Ku ⟨Z4, J3, fp, hh3.trans k4, wz3.trans z4, S4.zh, R7 D zD3 ⟨_, ZZ⟩, fun a o q z => ?_, S4.tp, k4 D _ ZZ, ?_, nd, nD, fun a ha => ⟨R7 a (ow3 a ha).1 (ra3.there a ha), (ow3 a ha).2⟩, by omega⟩
       . cases e : Z3 a with
         | none => exact hh3.free (S4.new a o q e)
         | some u => 
           have := z4 a u e
           rw [q] at this; cases this
           exact nw3 a o e z
       . rw [NK, amk, List.filter_cons_of_neg (by simp [hp]), List.filter_nil, akK]
         exact ra3.mono z4 agL
     | true =>
       refine Kv ((ie hp) H4 Z4 (O5 σ ix (ys.map some)) [] [] _ S4 fun yv H5 Z5 z5 k5 S5 => ⟨J3, k5 D _ (k4 D _ ZZ), by omega, ?_⟩)
       obtain ⟨f1, g1, e1, r1, nd1, aee⟩ := S5.rep
       cases r1 with
       | @cons _ _ _ _ fy fn ry rn =>
         cases rn
         rw [akK] at nd1 aee
         have ndy : fy.Nodup := (ak5.mp nd1).2.1
         have Wv : ∀ a ∈ fy, Z5 a = none /\ H3 a = none := fun a ha => aee a (aky _ ha)
         have KJ : ∀ a, Z3 a = none -> (∃ o, H3 a = some o) -> Z5 a = none := fun a e ⟨o, e2⟩ => by
           cases q : Z5 a with
           | none => rfl
           | some u =>
             have := S5.new a u q e
             rw [show H3 a = none from this] at e2; cases e2
         have yD : ∀ a ∈ fy, a ≠ D := fun a ha e => by
           subst e
           rw [(Wv a ha).2] at ZZ; cases ZZ
         have h5D : H5 D = some (.lst J3) := k5 D _ (k4 D _ ZZ)
         have sD : aG H (upd H5 D (.lst (J3 ++ [yv]))) := fun a o q => by
           rw [az (aK q hD)]
           exact k5 a o (k4 a o (hh3 a o q))
         refine ⟨Z5, J3 ++ [yv], fp ++ fy, sD, wz3.trans (z4.trans z5), fun a o q => ?_, KJ D zD3 ⟨_, ZZ⟩, fun a o q z => ?_, fun a o q im => ?_, aP, ?_, ?_, ?_, fun a ha => ?_, ?_⟩
         . rw [az (aK q (KJ D zD3 ⟨_, ZZ⟩))]; exact S5.zh a o q
         . cases e : Z3 a with
           | none => exact hh3.free (S5.new a o q e)
           | some u =>
             have := z5 a u (z4 a u e)
             rw [q] at this; cases this
             exact nw3 a o e z
         . by_cases ha : a = D
           . subst ha; rw [aP] at q; cases q; cases im
           . rw [az ha] at q; exact S5.tp a o q im
         . rw [NK, amk, List.filter_cons_of_pos hp, List.filter_nil, akM]
           refine aL.app (ra3.mono (z4.trans z5) fun a ha => ?_) (by
             have := aL.cons (fp := fy) (gp := []) (ry.mono (.refl _) fun a ha => az (yD a ha)) (aL.nil (H := upd H5 D (.lst (J3 ++ [yv]))) (Z := Z5))
             rwa [akK] at this)
           have : a ≠ D := fun e => nD (e ▸ ha)
           rw [az this]
           obtain ⟨o, e⟩ := ra3.there a ha
           rw [e]; exact k5 a o (k4 a o e)
         . refine ak5.mpr ⟨nd, ndy, fun a ha a' Rw e => ?_⟩
           subst e
           obtain ⟨o, e⟩ := ra3.there a ha
           rw [(Wv a Rw).2] at e; cases e
         . intro h
           rcases akC.mp h with h | h
           . exact nD h
           . exact yD D h rfl
         . rcases akC.mp ha with h | h
           . exact ⟨KJ a (ow3 a h).1 (ra3.there a h), (ow3 a h).2⟩
           . exact ⟨(Wv a h).1, hh3.free (Wv a h).2⟩
         . rw [ak1, List.length_singleton]; omega
   . have e : i = ds.length := by omega
     subst e
     refine .inl ⟨HF H2 (wz.trans zh), ?_⟩
     rw [aly] at ra
     obtain ⟨Z', z', S'⟩ := S.back (H' := H2) (W := W1) (W' := Z2) (t := .lst ((ds.filter p).map g)) (v := .ref D) (fp := D :: fp) hh zw wz zh nw tp2 (.lst hD2 ra) (alk.mpr ⟨nD, nd⟩) (fun a ha => by
       rcases akB.mp ha with h | h
       . subst h; exact ⟨zD, hD⟩
       . exact own a h) (c.imp id fun c => by
         rw [gA]
         exact zT fun d hd => c d (List.mem_filter.mp hd).1)
     exact ⟨Z', z', hh, S'⟩
end
section
variable {X : Cx} {CL : Str -> Addr} {b : Bx} {δ δ1 : List (Option T)} {scope : Scope} {xs : List Str} {Nc : List Str} {ix : List Nat} {elt iter tg : Expr} {ifs : List Expr} {pos : Pos} {ds : List D} {p : D -> Bool} {g : D -> T} {δc : List (Option T)} {parts : D -> Option (List D)}
theorem DL {J : It} {fp : List Addr} {it : Addr} {tn : Nat -> Heap -> Prop} {pins : List (Addr × Obj)} {σ : L2.St} {H H1 Z : Hp} {s : Shared} {ts : List T} {vs : List V} {RR : Value -> Addr -> Result -> Shared -> Prop} {E : Value -> Shared -> Prop}
   (sc : qU X scope xs Nc ix) (hc : X.calm = true) (C : EI X CL b δ1 σ ts vs Z H ds J H1) (I : L2.Inv X pins σ H1 s) (Tn : Turn X.prog X.w X.K tg J fp it tn) (st : tn 0 s.heap) (hf : ∀ b ∈ fp, kH X pins H1 b)
   (hb : (δc = Ce δ1 ix /\ ∀ d ∈ ds, (g d).clean = true) \/ δc = HX δ1 ix) (inner : xu X CL scope Nc xs.length tg parts ifs elt δc ds p g) (hlen : ds.length <= sizeLine)
   (hRR : ∀ D C s' H' Z', (∃ m, s'.heap.Ns C m) -> (∃ o, s'.heap.get? C = some o /\ ∀ v, o.data ≠ .cell v) -> H' C = none -> (C ≠ X.env.locals /\ C ∉ X.fs /\ X.s₀.heap.objs.size <= C /\ (∀ y c, X.env.cells.lookup y = some c -> c ≠ C) /\ ∀ q ∈ X.pn ++ pins, q.1 ≠ C) -> (∀ h', Heap.SameBut C s'.heap h' -> L2.Inv X pins σ H' { s' with heap := h' }) -> aG Z Z' -> aG H H' -> bA X.K CL b H' Z' δ1 σ (.lst ((ds.filter p).map g) :: ts) (.ref D :: vs) -> RR (.ref D) C (.ok .next) s') :
   wpAny (model X.prog X.w) X.A (newList []) (fun acc s₃ => wpAny (model X.prog X.w) X.A (newFunctionEnv scope X.env.globals (cX X.env scope.names []) [] X.env.qual none .none (some X.env)) (fun R5 s₄ =>
     codeAny (model X.prog X.w) X.A (.compStart (.ListComp elt [⟨tg, iter, ifs, 0⟩] scope pos) 0 (.ref it) acc { R5 with scope := relabel scope X.env }) (RR acc R5.locals) s₄) E s₃) E s := by
 obtain ⟨Z1, z1, k1, S1, go, yl, stp⟩ := C.ex
 have lp : ∀ D, H1 D = none -> ∃ W : Nat -> Nat -> Hp -> Prop, (∃ m, W 0 m (upd H1 D (.lst []))) /\ ∀ i m H2, W i m H2 -> (J.stop i H2 /\ ∃ Z2, aG Z1 Z2 /\ aG H1 H2 /\ bA X.K CL b H2 Z2 δ1 σ (.lst ((ds.filter p).map g) :: ts) (.ref D :: vs)) ∨
     (J.go i H2 /\ ∃ N : Hp -> Prop, (∀ H', N H' -> ∃ m', m' < m /\ W (i + 1) m' H') /\ ∀ xv H3, J.ZI i H2 xv H3 -> ∀ C s0 H0 f0 os, os.length = xs.length -> R4 (dN X scope Nc C s0 H0 f0) tg elt ifs xs.length σ ix D N xv os H3) := by
   rcases hb with ⟨e, cl⟩ | e
   . subst e
     exact z8 (W1 := H1) S1 S1.zh (.refl _) (fun _ _ q _ => q) (zU S1 ix) inner (fun i H2 s => go i H2 (S1.zh.trans s)) (fun i Z2 H2 y H' s => yl i Z2 H2 y H' (S1.zh.trans s)) (fun H2 s => stp H2 (S1.zh.trans s)) hlen (.inr cl)
   . subst e
     exact z8 (W1 := Z1) S1 (.refl _) S1.zh S1.tp (HY S1 ix) inner go yl stp hlen (.inl rfl)
 exact KH sc hc I Tn st hf lp fun D C s' H' m io nC ch ci ⟨Z', z', k', S'⟩ => hRR D C s' H' Z' m io nC ch ci (z1.trans z') (k1.trans k') S'
theorem yy (sc : qU X scope xs Nc ix) {pins : List (Addr × Obj)} {σ : L2.St} {H : Hp} {s : Shared} (I : L2.Inv X pins σ H s) : closureFor scope X.env = pure (cX X.env scope.names []) :=
 m7 fun y hy e => I.ok.has y.1 (sc.frees y hy e).2
theorem Ij (sc : qU X scope xs Nc ix) (hc : X.calm = true) (h : ZV X CL b tg iter δ ds δ1) (hb : (δc = Ce δ1 ix /\ ∀ d ∈ ds, (g d).clean = true) \/ δc = HX δ1 ix) (inner : xu X CL scope Nc xs.length tg parts ifs elt δc ds p g) (hlen : ds.length <= sizeLine)
   (hs : ∀ x, foldedSetIterable iter X.env x = pure x := by intro _; rfl) : cJ X CL b (.ListComp elt [⟨tg, iter, ifs, 0⟩] scope pos) δ (.lst ((ds.filter p).map g)) δ1 := fun H Z σ ts vs Q S k pins s I => by
 obtain ⟨wi, pi, hw⟩ := h
 rw [eval_ListComp]
 refine wpAny_comprehension_free (use := none) rfl hs (yy sc I) sc.kind sc.names ?_
 refine eB (pi pins s σ H _ I (hw H Z σ ts vs (fun J H1 => EI X CL b δ1 σ ts vs Z H ds J H1) S fun J H1 C => C)) fun v s1 h1 => eB h1 fun itv s2 zz => ?_
 obtain ⟨it, fp, tn, J, H1, e, I1, Tn, st, hf, C⟩ := zz
 subst e
 refine DL (RR := fun acc C => compPost (model X.prog X.w) X.A X.xe none (EP X pins σ Q) acc C) sc hc C I1 Tn st hf hb inner hlen fun D C' s' H' Z' m io nC ch ci z' k' S' => ?_
 obtain ⟨m, hn⟩ := m
 exact ⟨m, hn, fun h' hs' => ⟨.ref D, H', ci h' hs', rfl, k _ H' Z' z' k' S'⟩⟩
theorem Ww {D : cE} {y : Str} {py aef : Pos} (i : Nat) (sc : qU X scope xs Nc ix) (hc : X.calm = true) (h : ZV X CL b tg iter δ ds δ1) (hb : (δc = Ce δ1 ix /\ ∀ d ∈ ds, (g d).clean = true) \/ δc = HX δ1 ix) (inner : xu X CL scope Nc xs.length tg parts ifs elt δc ds p g) (hlen : ds.length <= sizeLine)
   (k : D.nx (δ1.set i (some (.lst ((ds.filter p).map g))))) (hl : i < δ1.length) (hN : X.N.Nodup) (hi : X.N[i]? = some y) (hx : Loc X.env.scope y) (hf' : X.fn y = true \/ X.env.scope.names.lookup y = some .local)
   (Cd : swapsWith (.ListComp elt [⟨tg, iter, ifs, 0⟩] scope pos) (some (.Name y py)) aef.line X.env = pure true)
   (hs : ∀ x, foldedSetIterable iter X.env x = pure x := by intro _; rfl) : OZ X CL b (.Assign [.Name y py] (.ListComp elt [⟨tg, iter, ifs, 0⟩] scope pos) aef) δ D := fun H Z σ ts vs E S M pins s I => by
 obtain ⟨wi, pi, hw⟩ := h
 rw [exec_Assign_Name_used _ _ _ _ Cd]
 refine akQ (wpAny_standAt (akQ ?_))
 show wpAny _ X.A (do let _ ← comprehension (.ListComp elt [⟨tg, iter, ifs, 0⟩] scope pos) scope X.env _ (newList []) false (eval iter X.env) (some (assign (.Name y py) X.env))) _ _ s
 refine akQ (alM (wpAny_comprehension_free (use := some (assign (.Name y py) X.env)) (Q := fun _ s' => SP X pins E .next s') rfl hs (yy sc I) sc.kind sc.names ?_) (fun _ s' hq => alh (alh hq)) fun _ _ e => e)
 refine eB (pi pins s σ H _ I (hw H Z σ ts vs (fun J H1 => EI X CL b δ1 σ ts vs Z H ds J H1) S fun J H1 C => C)) fun v s1 h1 => eB h1 fun itv s2 zz => ?_
 obtain ⟨it, fp, tn, J, H1, e, I1, Tn, st, hf, C⟩ := zz
 subst e
 refine DL (RR := fun acc C => compPost (model X.prog X.w) X.A X.xe (some (assign (.Name y py) X.env)) (fun _ s' => SP X pins E .next s') acc C) sc hc C I1 Tn st hf hb inner hlen fun D' C' s' H' Z' m io nC ch ci z' k' S' => ?_
 obtain ⟨m, hn⟩ := m
 obtain ⟨o, ho, tX⟩ := io
 have I' : L2.Inv X pins σ H' s' := ci s'.heap (.refl ..)
 have I2 : L2.Inv X (pins ++ [(C', o)]) σ H' s' := I'.yV fun q hq => by
   rcases akC.mp hq with z | z
   . exact I'.pin q (aky _ z)
   . have e : q = (C', o) := by simpa using z
     subst e
     exact ⟨ho, nC, ch.1, ch.2.1, tX⟩
 show wpAny _ X.A (assign (.Name y py) X.env (.ref D')) _ _ s'
 have hg : PG X (.Name y py) (yo i) := vq hN hi hx hf'
 refine eB (hg _ s' σ H' (.ref D') (.ref D') (fun σ8 H8 => σ8 = σ.set i (some (.ref D')) /\ H8 = H') I2 rfl ⟨rfl, rfl⟩) fun _ s8 zz => ?_
 obtain ⟨σ8, H8, I8, e8, e8'⟩ := zz
 subst e8
 subst e8'
 obtain ⟨hC8, nC8, _⟩ := I8.pin (C', o) (aky _ (aky _ (by simp)))
 refine ⟨m, hn.at' fun o' e' => by rw [ho] at e'; cases e'; exact hC8, fun h' hs' => ?_⟩
 have I9 : L2.Inv X pins (σ.set i (some (.ref D'))) _ s8 := I8.yV fun q hq => I8.pin q (aky _ (akF _ hq))
 have I10 := I9.turned (it := C') (h' := h') (t' := s8.toks) (fun b o hb e => (hs'.2 b hb).trans e) nC8 ch.1.symm.symm (.inr ch.2.2.1) ch.2.2.2.1 ch.2.2.2.2
 exact ⟨_, _, I10, M.nx _ _ _ Z' z' (S'.set hl) k⟩
theorem abG {D : cE} {d8 : List Stmt} {i : Nat} {x : Str} {pos' pc : Pos} (gx : Gx X) (n : Ln X i x) (sc : qU X scope xs Nc ix) (h : ZV X CL b tg iter δ ds δ1)
   (hb : (δc = Ce δ1 ix /\ ∀ d ∈ ds, (g d).clean = true) \/ δc = HX δ1 ix) (inner : xu X CL scope Nc xs.length tg parts ifs elt δc ds p g) (hlen : ds.length <= sizeLine) (k : eL X CL b d8 (δ1.set i (some (.lst ((ds.filter p).map g)))) D) (hl : i < δ1.length)
   (Cd : swapsWith (.ListComp elt [⟨tg, iter, ifs, 0⟩] scope pc) (some (.Name x pos')) pos.line X.env = pure true \/ swapsWith (.ListComp elt [⟨tg, iter, ifs, 0⟩] scope pc) (some (.Name x pos')) pos.line X.env = pure false) (hs : ∀ x, foldedSetIterable iter X.env x = pure x := by intro _; rfl) :
   eL X CL b (.Assign [.Name x pos'] (.ListComp elt [⟨tg, iter, ifs, 0⟩] scope pc) pos :: d8) δ D := by
 rcases Cd with Cd | Cd
 . exact ck (Ww i sc gx.calm h hb inner hlen k hl gx.nd n.hi n.loc n.hf Cd hs)
 . exact ck (RK i (Ij sc gx.calm h hb inner hlen hs) k hl gx.nd n.hi n.loc Cd n.hf)
theorem abH {i : Nat} {x : Str} {C : Addr} {s : Shared} {H : Hp} {fp : List Addr} (h1 : Nc[i]? = some x) (h2 : scope.names.lookup x = some .local) (hd : (x == ("__debug__" : Str)) = false := by decide) (j4 : (x == ("__classdict__" : Str)) = false := by decide) : Ln (dN X scope Nc C s H fp) i x :=
 ⟨jG h1 h2 hd j4, .inl (lookup_relabel_local h2), .inr (lookup_relabel_local h2)⟩
end
noncomputable def Ite (K : PySem.W.Frag) (a : Addr) : It :=
 ⟨fun i H => ∃ xs x, mC K H a xs /\ xs[i]? = some x, fun i H x H' => ∃ T y, H T = none /\ x = .ref T /\ (∀ xs, mC K H a xs -> xs[i]? = some y) /\ H' = upd H T (.tup [.int i, y]), fun i H => ∃ xs, mC K H a xs /\ xs.length <= i⟩
theorem O8 {P : Program} {w : World} {K : PySem.W.Frag} {elts : List Expr} {kk : Nat} {pt : Pos} (a e it : Addr) (hne : e ≠ it) : Turn P w K (.Tuple elts kk pt) (Ite K a) [e, it] e (fun i h => (∃ old, PySem.IsEnum h e it i old) /\ h.IsListIter it a i) where
 mem := by simp
 obj := fun i h st b hb => by
   obtain ⟨⟨old, he⟩, hit⟩ := st
   rcases akB.mp hb with z | z
   . subst z
     exact ⟨_, he, fun v z => by
       have z' : Data.fields _ = Data.cell v := z
       cases z'⟩
   . have z : b = it := by simpa using z
     subst z
     obtain ⟨o, e, c, d⟩ := hit
     exact ⟨o, e, fun v z => by rw [d] at z; cases z⟩
 keep := fun i h h' st k => by
   obtain ⟨⟨old, he⟩, hit⟩ := st
   exact ⟨⟨old, k e (by simp) _ he⟩, hit.at fun o q => k it (by simp) o q⟩
 item := by
   intro X hP hw hK hc i pins s σ H E I hf st hg
   subst hP hw hK
   obtain ⟨xs, x, hq, hx⟩ := hg
   obtain ⟨its, rv, p, hz⟩ := I.list hq
   obtain ⟨u, hu, ru⟩ := rv.get hx
   obtain ⟨⟨old, he⟩, hit⟩ := st
   have fe := hf e (by simp)
   have fi := hf it (by simp)
   have hT0 : H s.heap.objs.size = none := I.dJ.fresh (akG _)
   have fT := I.Em (akG s.heap.objs.size) hT0
   refine PySem.wpAny_pyNext_enum_item he hit p.isList (x := u) (by simpa using hu) hne fun h' ho agN hT hsz hk => ⟨_, rfl, ?_⟩
   refine PySem.wpAny_letOwnedTupleGo_enum ho fun h2 he2 Vv => ?_
   replace Vv : Heap.SameBut e h' h2 := Vv
   have eT : e < s.heap.objs.size := akT he
   have keep : ∀ b o, b ≠ e -> b ≠ it -> s.heap.get? b = some o -> h2.get? b = some o := fun b o h1 h3 q => (Vv.2 b h1).trans (hk b o h1 h3 q)
   have hT2 : h2.get? s.heap.objs.size = some { cls := .type "tuple", data := .seq #[.int i s.toks, u] } := (Vv.2 _ (Nat.ne_of_gt eT)).trans hT
   have nH : ∀ b o, H b = some o -> b ≠ e /\ b ≠ it /\ b ≠ s.heap.objs.size := fun b o q => ⟨fun z => (by rw [z, fe.1] at q; cases q), fun z => (by rw [z, fi.1] at q; cases q), fun z => (by rw [z, hT0] at q; cases q)⟩
   have I' : L2.Inv X pins σ (upd H s.heap.objs.size (.tup [.int i, x])) { s with heap := h2, toks := s.toks + 1 } := by
     refine I.step (g' := s.gens) (d' := s.drawn) (ch := [e, it, s.heap.objs.size]) (fun b hb => ?_) (fun b o _ _ hc q _ => ?_) (fun b o _ _ hc q _ => ⟨o.slots, ?_⟩) (fun b o hc q n => ?_) (fun b o hc q => ⟨o, ?_⟩) (fun b ys q => ?_) (fun b o u q => ?_) (fun b ps q => ⟨#[], ?_⟩) (fun m hm => ?_) (fun b o q => ?_) I.bare
     . rcases akB.mp hb with z | hb
       . subst z; exact ⟨fe.2.2.2.1, fe.2.1, fe.2.2.2.2.1, fe.2.2.2.2.2⟩
       . rcases akB.mp hb with z | hb
         . subst z; exact ⟨fi.2.2.2.1, fi.2.1, fi.2.2.2.2.1, fi.2.2.2.2.2⟩
         . have z : b = s.heap.objs.size := by simpa using hb
           subst z; exact ⟨fT.2.2.2.1, fT.2.1, fT.2.2.2.2.1, fT.2.2.2.2.2⟩
     . exact keep b o (fun z => hc (by simp [z])) (fun z => hc (by simp [z])) q
     . exact keep b o (fun z => hc (by simp [z])) (fun z => hc (by simp [z])) q
     . rw [az (fun z => hc (by simp [z]))]; exact n
     . exact keep b o (fun z => hc (by simp [z])) (fun z => hc (by simp [z])) q
     . rw [az (nH b _ q).2.2]; exact q
     . rw [az (nH b _ q).2.2]; exact q
     . rw [az (nH b _ q).2.2, q]; simp
     . obtain ⟨o, es, ep, ho, r⟩ := hm
       exact ⟨o, es, ep, keep _ o (Ne.symm fe.2.1) (Ne.symm fi.2.1) ho, r⟩
     . by_cases hb : b = s.heap.objs.size
       . subst hb
         rw [aP] at q
         cases q
         exact ⟨alj (cI (akz rfl)), [.int i s.toks, u], .cons ⟨s.toks, rfl⟩ (.cons ru .nil), ⟨_, hT2, rfl, _, rfl⟩⟩
       . rw [az hb] at q
         refine (I.dJ b o q).Eg (fun c v hc z => keep c v ?_ ?_ z) (fun c z => by rw [az (nH c _ z).2.2]; exact z) (fun c ys z => by rw [az (nH c _ z).2.2]; exact z) fun c ys z => by rw [az (nH c _ z).2.2]; exact z
         . rcases hc with z | z
           . rw [z]; exact (nH b _ q).1
           . exact (nH c _ z).1
         . rcases hc with z | z
           . rw [z]; exact (nH b _ q).2.1
           . exact (nH c _ z).2.1
   have ei : ((i + 1 : Nat) : Int) = (i : Int) + 1 := by omega
   refine ⟨.ref s.heap.objs.size, _, I', rfl, ⟨_, x, hT0, rfl, fun ys hy => by rw [I.HB hy hq]; exact hx, rfl⟩, ⟨⟨u, by rw [ei]; exact he2⟩, agN.at fun o q => (Vv.2 it (Ne.symm hne)).trans q⟩, fun b hb => ?_⟩
   have hb' := hf b hb
   obtain ⟨o, VF, _⟩ : ∃ o, s.heap.get? b = some o /\ True := by
     rcases akB.mp hb with z | z
     . subst z; exact ⟨_, he, trivial⟩
     . have z : b = it := by simpa using z
       subst z
       obtain ⟨o, q, _⟩ := hit
       exact ⟨o, q, trivial⟩
   rw [az (ala (akT VF))]
   exact hb'.1
 done := by
   intro X hP hw hK hc i pins s σ H E I hf st hg
   subst hP hw hK
   obtain ⟨xs, hq, hx⟩ := hg
   obtain ⟨its, rv, p, hz⟩ := I.list hq
   obtain ⟨⟨old, he⟩, hit⟩ := st
   obtain ⟨f0, f1, f2, f3, f4, f5⟩ := hf it (by simp)
   have hl := rv.length
   exact PySem.wpAny_pyNext_enum_end (I.ok.hd hc) he hit p.isList (by simp; omega) fun h' eb => ⟨rfl, I.turned (t' := s.toks) (fun b o hb e => eb b o hb e) f0 f1 f3 f4 f5⟩
 self := fun _ _ _ _ _ st h => by
   obtain ⟨⟨old, he⟩, _⟩ := st
   exact PySem.wpAny_pyIter_enum he h
section
variable {X : Cx} {elts : List Expr} {kk : Nat} {pt : Pos}
noncomputable def aeh (K : PySem.W.Frag) (ta : TA) : TI := fun σ H R => ta σ H fun vs H1 => ∃ a xs, vs = [.ref a] /\ mC K H1 a xs /\ R (Ite K a) H1
theorem Wx {a : Expr} {ta : TA} {p pos : Pos} (hg : Gl X "enumerate") (hm : X.mg "enumerate" = none) (ha : PA X [a] ta) (hs : starEach [a] X.env = (false, eval a X.env) :: starEach [] X.env) : PI X (.Tuple elts kk pt) (.Call (.Name "enumerate" p) [a] [] pos) (aeh X.K ta) := by
 intro pins s σ H R I h
 refine Call_ (w6 I hg hm boot_enumerate (amb (eB (ha pos pins s σ H _ I h) fun us s1 zz => ?_) hs rfl))
 obtain ⟨vs, H1, I1, r1, q1⟩ := zz
 obtain ⟨l, xs, e, hq, q⟩ := q1
 subst e
 cases r1 with
 | cons r rr =>
   cases rr
   cases r
   obtain ⟨its, rv, p, hz⟩ := I1.list hq
   refine PySem.call_enumerate_list p.isList fun h' he hit hsz hk => ?_
   have I2 : L2.Inv X pins σ H1 { s1 with heap := h' } := I1.kept (t' := s1.toks) fun b o e => hk b o e
   refine PySem.wpAny_pyIter_enum he ?_
   refine ⟨s1.heap.objs.size + 1, [s1.heap.objs.size + 1, s1.heap.objs.size], _, _, H1, rfl, I2, O8 l _ _ (Nat.succ_ne_self _), ⟨⟨_, he⟩, hit⟩, fun b hb => ?_, q⟩
   rcases akB.mp hb with z | z
   . subst z
     exact I1.Em (alL _) (I1.dJ.fresh (alL _))
   . have z : b = s1.heap.objs.size := by simpa using z
     subst z
     exact I1.Em (akG _) (I1.dJ.fresh (akG _))
end
noncomputable def z9 (ds : List D) : List D := (List.range ds.length).map fun (i : Nat) => .tup [.int i, ds.getD i .non]
theorem xx (ds : List D) : (z9 ds).length = ds.length := by simp [z9]
theorem O9 {ds : List D} {i : Nat} {d : D} (h : ds[i]? = some d) : (z9 ds)[i]? = some (.tup [.int i, d]) := by
 have hi : i < ds.length := (ak7.mp h).1
 unfold z9
 rw [ak0, alV hi]
 show some (D.tup [.int i, ds.getD i .non]) = _
 rw [ale, h]
 rfl
section
variable {X : Cx} {CL : Str -> Addr} {b : Bx} {δ δ1 : List (Option T)} {e : Expr} {ds : List D} {elts : List Expr} {kk : Nat} {pt pr pc : Pos}
theorem Wy (hm : X.mg "enumerate" = none) (h : cJ X CL b e δ (.sh (.lst ds)) δ1) (hg : Gl X "enumerate") (hs : starEach [e] X.env = (false, eval e X.env) :: starEach [] X.env := by exact bw rfl) : ZV X CL b (.Tuple elts kk pt) (.Call (.Name "enumerate" pr) [e] [] pc) δ (z9 ds) δ1 := by
 refine ⟨_, Wx hg hm (b8 dW dM hs) hs, fun H Z σ ts vs R S k => h H Z σ ts vs _ S fun v H1 Z1 z1 k1 S1 => ?_⟩
 obtain ⟨fp, gp, _, r, _, _⟩ := S1.rep
 cases r with
 | cons r _ =>
   cases r with
   | sh r =>
     cases r with
     | @lst a us _ hq rr =>
       have hl := rr.length
       refine ⟨a, us, rfl, S1.zh.seq hq, k _ _ ⟨Z1, z1, k1, S1.pop, fun i H2 s hi => ?_, fun i Z2 H2 x H' s1 s2 tp hi hy => ?_, fun H2 s => ?_⟩⟩
       . rw [xx] at hi
         have hi' : i < us.length := by rw [← hl]; exact hi
         exact ⟨us, us[i], s.seq hq, akX hi'⟩
       . rw [xx] at hi
         obtain ⟨T, y, hT, rfl, hx, rfl⟩ := hy
         obtain ⟨d, hd, rd⟩ := rr.Rq (hx us ((s1.trans s2).seq hq))
         have gr : EH Z2 H2 _ _ := EH.tup (xs := [.int i, y]) s2 tp hT
         exact ⟨_, _, O9 hd, gr, .tup (wX.of aP) (.cons (.int _) (.cons ((rd.mono s1).mono gr.z) .nil))⟩
       . rw [xx]
         exact ⟨us, s.seq hq, by rw [← hl]; exact akG _⟩
end
noncomputable def insI (x : Int) : List Int -> List Int
 | [] => [x]
 | y :: l => if x <= y then x :: y :: l else y :: insI x l
noncomputable def sortI : List Int -> List Int
 | [] => []
 | x :: l => insI x (sortI l)
theorem insI_perm (x : Int) : ∀ l, (insI x l).Perm (x :: l)
 | [] => .refl _
 | y :: l => by
   rw [insI]
   split
   . exact .refl _
   . exact ((insI_perm x l).cons y).trans (.swap x y l)
theorem sortI_perm : ∀ l, (sortI l).Perm l
 | [] => .refl _
 | x :: l => (insI_perm x (sortI l)).trans ((sortI_perm l).cons x)
theorem DM (l : List Int) : (sortI l).length = l.length := (sortI_perm l).length_eq
theorem yz (x : Int) : ∀ {l : List Int}, l.Pairwise (· <= ·) -> (insI x l).Pairwise (· <= ·)
 | [], _ => List.pairwise_singleton _ _
 | y :: l, h => by
   rw [insI]
   obtain ⟨h1, h2⟩ := alo.mp h
   split
   . rename_i e
     refine alo.mpr ⟨fun z hz => ?_, h⟩
     rcases akB.mp hz with rfl | hz
     . exact e
     . exact Int.le_trans e (h1 z hz)
   . rename_i e
     refine alo.mpr ⟨fun z hz => ?_, yz x h2⟩
     rcases akB.mp ((insI_perm x l).mem_iff.mp hz) with rfl | hz
     . omega
     . exact h1 z hz
theorem vJ : ∀ l, (sortI l).Pairwise (· <= ·)
 | [] => .nil
 | x :: l => yz x (vJ l)
theorem yC : ∀ {a b : List Int}, a.Perm b -> a.Pairwise (· <= ·) -> b.Pairwise (· <= ·) -> a = b
 | [], b, p, _, _ => (List.nil_perm.mp p).symm
 | x :: a, [], p, _, _ => absurd p.length_eq (by simp)
 | x :: a, y :: b, p, ha, hb => by
   obtain ⟨a1, a2⟩ := alo.mp ha
   obtain ⟨b1, b2⟩ := alo.mp hb
   have e : x = y := by
     have h1 : x ∈ y :: b := p.mem_iff.mp akA
     have h2 : y ∈ x :: a := p.mem_iff.mpr akA
     rcases akB.mp h1 with e | h1
     . exact e
     . rcases akB.mp h2 with e | h2
       . exact e.symm
       . exact Int.le_antisymm (a1 y h2) (b1 x h1)
   subst e
   rw [yC (List.Perm.cons_inv p) a2 b2]
theorem Ik {l z : List Int} (p : z.Perm l) (s : z.Pairwise (· <= ·)) : z = sortI l := yC (p.trans (sortI_perm l).symm) s (vJ l)
theorem pA : ∀ {us : List Value} {ns : List Int}, IntsAre us ns -> Vals (ns.map V.int) us
 | _, _, .nil => .nil
 | _, _, .cons n t r => .cons ⟨t, rfl⟩ (pA r)
section
variable {X : Cx}
theorem EJ : qL X (.builtin "sorted") (fun xs H Q => ∃ p ns, xs = [.ref p] /\ mC X.K H p (ns.map .int) /\ ns.length < 64 /\ ∀ l, H l = none -> Q (.ref l) (upd H l (.lst ((sortI ns).map .int)))) := by
 intro pins s σ H xs us Q I r h
 obtain ⟨p, ns, rfl, hq, hl, q⟩ := h
 obtain ⟨u, rfl, rx⟩ := vals1 r
 cases rx
 obtain ⟨its, r', pl, hz⟩ := I.list hq
 have hlen := r'.length
 rw [akD] at hlen
 refine sorted_ints pl.isList (intsAre_of r') (by omega) fun out ns' a1 a2 a3 => ?_
 obtain ⟨e, he⟩ := sortedAll_at s.heap its out
 have e2 : ns' = sortI ns := Ik a2 a3
 subst e2
 refine ⟨.ref (s.heap.objs.size + 1), _, I.laid (t' := s.toks) (fun _ _ => sortedAll_old) (alL _) (show eV X.prog X.w _ _ _ (.lst ((sortI ns).map .int)) from ⟨?_, out.toList, e, pA a1, ?_⟩), rfl, q _ (I.dJ.fresh (alL _))⟩
 . rw [akD, DM]
   rw [akD] at hz
   exact hz
 . simpa using he
theorem pB : bootBuiltins "sorted" = some (.builtin "sorted") := by decide +kernel
end
section
variable {X : Cx} {CL : Str -> Addr} {b : Bx} {δ δ1 : List (Option T)} {e : Expr} {pos pp : Pos}
theorem sF {K : PySem.W.Frag} {Z : Hp} {l : List Int} {us : List V} (h : aD K CL Z (l.map D.int) us) : us = l.map V.int := by
 refine aD.ind (P := fun ds us => ∀ l : List Int, ds = l.map D.int -> us = l.map V.int) ?_ ?_ h l rfl
 . intro l e
   cases l with
   | nil => rfl
   | cons => cases e
 . intro d v ds vs r _ i l e
   cases l with
   | nil => cases e
   | cons a l =>
     injection e with e1 e2
     subst e1
     rw [i l e2]
     cases r
     rfl
theorem ints_rep {K : PySem.W.Frag} {Z : Hp} : ∀ (l : List Int), aD K CL Z (l.map D.int) (l.map V.int)
 | [] => .nil
 | _ :: l => .cons (.int _) (ints_rep l)
theorem uA {l : List Int} (hm : X.mg "sorted" = none) (h : dU X CL b e δ (.lst (l.map .int)) δ1) (hl : l.length < 64) (hg : Gl X "sorted") (hs : starEach [e] X.env = (false, eval e X.env) :: starEach [] X.env := by exact bw rfl) : cJ X CL b (.Call (.Name "sorted" pp) [e] [] pos) δ (.lst (((sortI l).map D.int).map T.sh)) δ1 := fun H Z σ ts vs Q S k =>
 cL (qN EJ hg hm pB (b8 dW dM hs) (he := hs)) (h H Z σ ts vs _ S fun v H1 Z1 z1 k1 S1 r => by
   cases r with
   | @lst a us _ hq rr =>
     have := sF rr
     subst this
     refine ⟨a, l, rfl, hq, hl, fun p hp => ?_⟩
     obtain ⟨c, S2⟩ := (bA.mD (ints_rep (sortI l)) S1).jD (g0 := []) (by simp) hp
     exact k _ _ _ z1 (k1.trans c) S2)
end
section
variable {X : Cx}
theorem Pa (hc : X.calm = true) : qL X (.builtin "sum") (fun xs H Q => ∃ (p : Addr) (ns : List Int), xs = [.ref p] /\ mC X.K H p (ns.map V.int) /\ Q (.int ns.sum) H) := by
 intro pins s σ H xs us Q I r h
 obtain ⟨p, ns, rfl, hq, q⟩ := h
 obtain ⟨u, rfl, rx⟩ := vals1 r
 cases rx
 obtain ⟨its, r', pl, hz⟩ := I.list hq
 have hi := intsAre_of r'
 obtain ⟨xs, hx⟩ := hi.allInts.items
 have hn := hi.numsOf
 have hl := pl.isList
 rw [hx] at hl
 refine sum_intListG (I.ok.hd hc) hl fun h' tk t' hk => ⟨.int ns.sum, H, I.kept (t' := tk) hk, ?_, q⟩
 refine ⟨t', ?_⟩
 have e : its = (intItems xs).toList := by rw [← hx]
 rw [e, nums_intItems] at hn
 rw [preSum_eq, al3 (by simp), hn]
theorem Pb : bootBuiltins "sum" = some (.builtin "sum") := by decide +kernel
end
section
variable {X : Cx} {CL : Str -> Addr} {b : Bx} {δ δ1 : List (Option T)} {e : Expr} {pos pp : Pos}
theorem Wz {l : List Int} (g : Gx X) (hm : X.mg "sum" = none) (h : dU X CL b e δ (.lst (l.map .int)) δ1) (hg : Gl X "sum") (hs : starEach [e] X.env = (false, eval e X.env) :: starEach [] X.env := by exact bw rfl) : cJ X CL b (.Call (.Name "sum" pp) [e] [] pos) δ (.sh (.int l.sum)) δ1 := fun H Z σ ts vs Q S k =>
 cL (qN (Pa g.calm) hg hm Pb (b8 dW dM hs) (he := hs)) (h H Z σ ts vs _ S fun v H1 Z1 z1 k1 S1 r => by
   cases r with
   | @lst a us _ hq rr =>
     have := sF rr
     subst this
     exact ⟨a, l, rfl, hq, k _ H1 Z1 z1 k1 (S1.push (.int _))⟩)
end
section
variable {prog : Program} {w : World} {A : Around} {s : Shared}
end
section
variable {prog : Program} {w : World} {A : Around} {s : Shared}
end
section
variable {X : Cx}
end
section
variable {X : Cx} {CL : Str -> Addr} {b : Bx} {δ δ1 : List (Option T)} {e : Expr} {ds : List D} {pos pp pq pr : Pos}
end
theorem pC {α β : Type} {f : α -> β} {l : List α} {j : Nat} {d : β} (h : (l.map f)[j]? = some d) : ∃ x, d = f x /\ l[j]? = some x /\ x ∈ l /\ j < l.length /\ l.drop j = x :: l.drop (j + 1) /\ l.take (j + 1) = l.take j ++ [x] := by
 rw [ak0] at h
 cases hx : l[j]? with
 | none => rw [hx] at h; cases h
 | some x =>
   rw [hx] at h
   cases h
   have hj : j < l.length := (ak7.mp hx).1
   have e : l[j] = x := (ak7.mp hx).2
   exact ⟨x, rfl, rfl, alr hx, hj, by rw [List.drop_eq_getElem_cons hj, e], by rw [al5, hx]; rfl⟩
noncomputable def D.at1 : L3.D -> L3.D
 | .tup (a :: _) => a
 | d => d
noncomputable def D.at2 : L3.D -> L3.D
 | .tup (_ :: a :: _) => a
 | d => d
section
variable {X : Cx} {CL : Str -> Addr} {b : Bx} {δ δ1 : List (Option T)} {e : Expr} {elts : List Expr} {kk : Nat} {pt pr pc : Pos}
theorem Pg {α : Type} (f : α -> L3.D) (z : α) (l : List α) : z9 (l.map f) = (List.range l.length).map fun (i : Nat) => L3.D.tup [.int i, f (l.getD i z)] := by
 unfold z9
 rw [akD]
 apply amf
 intro i hi
 have hi : i < l.length := alF.mp hi
 have : (l.map f).getD i .non = f (l.getD i z) := by
   rw [ale, ale, ak0, akX hi]
   rfl
 rw [this]
theorem R8 {α : Type} {f : α -> L3.D} {l : List α} (z : α) (hm : X.mg "enumerate" = none) (h : cJ X CL b e δ (.sh (.lst (l.map f))) δ1) (hg : Gl X "enumerate") (hs : starEach [e] X.env = (false, eval e X.env) :: starEach [] X.env := by exact bw rfl) :
   ZV X CL b (.Tuple elts kk pt) (.Call (.Name "enumerate" pr) [e] [] pc) δ ((List.range l.length).map fun (i : Nat) => L3.D.tup [.int i, f (l.getD i z)]) δ1 := by
 have := Wy (elts := elts) (kk := kk) (pt := pt) (pr := pr) (pc := pc) hm h hg hs
 rwa [Pg f z l] at this
end
section
variable {K : PySem.W.Frag} {CL : Str -> Addr} {b : Bx} {H H' Z Z' : Hp} {δ δ' : List (Option T)} {σ σ' : L2.St} {ts tl : List T} {vs us : List V} {t : T} {v : V}
end
section
variable {X : Cx} {CL : Str -> Addr} {b : Bx} {δ δ1 δ2 : List (Option T)} {e e2 : Expr} {t : T} {tl HW tt tt0 : List T} {D : cE} {pos pp pa pb : Pos}
end
section
variable {X : Cx} {CL : Str -> Addr} {b : Bx} {δ δ1 : List (Option T)} {e : Expr} {t : T} {i : Nat} {x : Str} {pos pp : Pos} {DD : cE} {d8 : List Stmt}
end
section
variable {X : Cx}
end
section
variable {K : PySem.W.Frag} {CL : Str -> Addr} {b : Bx} {H Z : Hp} {δ : List (Option T)} {σ : L2.St} {ts tl : List T} {vs : List V} {t : T} {v : V}
end
section
variable {X : Cx} {CL : Str -> Addr} {b : Bx} {δ δ1 : List (Option T)} {e : Expr} {t : T} {tl HW : List T} {D : cE} {pos pp pa pb pc : Pos} {kj i : Nat} {x : Str} {d8 : List Stmt}
end
section
variable {X : Cx} {CL : Str -> Addr} {b : Bx} {δ δ1 : List (Option T)} {e : Expr} {pos pp : Pos}
end
section
variable {K : PySem.W.Frag} {CL : Str -> Addr} {b : Bx} {H Z : Hp} {δ : List (Option T)} {σ : L2.St} {ts tl Vz : List T} {vs : List V} {v : V}
theorem bA.extend {i : Nat} (S : bA K CL b H Z δ σ (.lst Vz :: ts) (v :: vs)) (hi : δ[i]? = some (some (.lst tl))) :
   ∃ a us a2 R9, σ[i]? = some (some (.ref a)) /\ H a = some (.lst us) /\ us.length = tl.length /\ v = .ref a2 /\ H a2 = some (.lst R9) /\ R9.length = Vz.length /\ bA K CL b (upd H a (.lst (us ++ R9))) Z (δ.set i (some (.lst (tl ++ Vz)))) σ ts vs := by
 obtain ⟨fp, gp, e, r, nd, k⟩ := S.rep
 obtain ⟨v0, f1, f2, f3, hv, qF, rt, put, _⟩ := e.get hi
 subst qF
 cases rt with
 | @lst a us _ g ha rs =>
   cases r with
   | @cons _ _ _ _ ft gr q1 q2 =>
     cases q1 with
     | @lst a2 R9 _ g2 WB rs2 =>
       have ne : ∀ c ∈ (f1 ++ (g ++ f3)) ++ (g2 ++ gr), c ≠ a := fun c hc e => by
         subst e
         have hp : ((f1 ++ ((c :: g) ++ f3)) ++ ((a2 :: g2) ++ gr)).Perm (c :: ((f1 ++ (g ++ f3)) ++ ((a2 :: g2) ++ gr))) := by
           rw [akS, ← akS]
           exact (alC.append_right _)
         refine (alk.mp (hp.nodup_iff.mp nd)).1 ?_
         rcases akC.mp hc with z | z
         . exact akF _ z
         . exact aky _ (akE _ z)
       refine ⟨a, us, a2, R9, hv, ha, rs.length.symm, rfl, WB, rs2.length.symm, ?_⟩
       have r1 : bR K CL (upd H a (.lst (us ++ R9))) Z (.lst (tl ++ Vz)) (.ref a) (a :: (g ++ g2)) :=
         .lst aP (aL.app (rs.mono (.refl _) fun c hc => az (ne c (by simp [hc]))) (rs2.mono (.refl _) fun c hc => az (ne c (by simp [hc]))))
       have e2 := put (H' := upd H a (.lst (us ++ R9))) (.refl _) (fun c hc => az (ne c (by
         rcases akC.mp hc with h | h
         . simp [h]
         . simp [h]))) r1
       rw [eW hv] at e2
       have hp : ((f1 ++ ((a :: (g ++ g2)) ++ f3)) ++ gr).Perm ((f1 ++ ((a :: g) ++ f3)) ++ (g2 ++ gr)) := by
         simp only [akS, akx]
         refine ak8 f1 (List.Perm.cons a (ak8 g ?_))
         rw [← akx, ← akx]
         exact akY.append_right gr
       have sb : ((f1 ++ ((a :: g) ++ f3)) ++ (g2 ++ gr)).Sublist ((f1 ++ ((a :: g) ++ f3)) ++ ((a2 :: g2) ++ gr)) :=
         ak4 (ak6 _) (by rw [akS]; exact List.sublist_cons_self _ _)
       exact S.write nd k (akA) ⟨_, ha⟩ e2 (q2.mono (.refl _) fun c hc => az (ne c (by simp [hc]))) (hp.nodup_iff.mpr (nd.sublist sb)) fun c hc => sb.subset (hp.mem_iff.mp hc)
end
section
variable {X : Cx} {CL : Str -> Addr} {b : Bx} {δ δ1 : List (Option T)} {e : Expr} {tl HW Vz : List T} {D : cE} {pos pp pa pb : Pos} {i : Nat} {x : Str} {d8 : List Stmt}
theorem NP (n : Vn X i x) (h0 : δ[i]? = some (some (.lst HW))) (h : cJ X CL b e δ (.lst Vz) δ1) (h1 : δ1[i]? = some (some (.lst tl))) (hl : tl.length + Vz.length <= 1000000) (k : eL X CL b d8 (δ1.set i (some (.lst (tl ++ Vz)))) D)
   (j5 : attributeBase (.Name x pp) "extend" X.env (eval (.Name x pp) X.env) = eval (.Name x pp) X.env := by rfl)
   (qP : ((backTo pb (starEach [e] X.env)).all (fun x => !x.1) && (backToKw pb (keywordEach [] X.env)).all (fun x => x.1.isSome) && decide ([e].length + ([] : List Keyword).length + (if ([] : List Keyword).isEmpty then 0 else 1) < 30)) = true := by rfl)
   (hline : (pa.endLine == pb.line) = true := by rfl) (hs : starEach [e] X.env = (false, eval e X.env) :: starEach [] X.env := by exact bw rfl)
   (Cd : swapsWith (.Call (.Attribute (.Name x pp) "extend" pa) [e] [] pb) none pos.line X.env = pure false := by rfl) :
   eL X CL b (.Expr (.Call (.Attribute (.Name x pp) "extend" pa) [e] [] pb) pos :: d8) δ D := ck fun H Z σ ts vs E S M =>
 om (sA (zP alH aml amm OQ (iC n.hi n.hv n.hd n.j4) (b8 dW dM hs) j5 qP hline hs rfl) Cd) (by
   obtain ⟨v0, e0, r0⟩ := S.look h0
   refine ⟨v0, e0, ?_, ?_⟩
   . rw [T.fc] at r0
     cases r0 with
     | lst hq _ => exact .inl ⟨rfl, _, hq⟩
   . refine h H Z σ ts vs _ S fun v H1 Z1 z1 k1 S1 => ?_
     obtain ⟨a, us, a2, R9, ea, ha, hu, rfl, WB, hu2, S2⟩ := S1.extend h1
     rw [e0] at ea
     cases ea
     exact ⟨a, a2, us, R9, rfl, rfl, ha, WB, by rw [hu, hu2]; exact alj (alR hl (by rw [alb]; decide)), M.nx _ σ _ Z1 z1 S2 k⟩)
end
section
variable {X : Cx} {CL : Str -> Addr} {b : Bx} {e1 e2 : Expr} {δ δ1 δ2 : List (Option T)} {ds : List L3.D} {pos : Pos}
noncomputable def aei (K : PySem.W.Frag) : R2 := fun x y H Q => ∃ l k xs, x = .ref l /\ y = .int k /\ mC K H l xs /\ -(2 ^ 63) <= k /\ k < 2 ^ 63 /\ xs.length * k.toNat <= sizeLine ∧
 ∀ p, H p = none -> Q (.ref p) (upd H p (.lst (List.replicate k.toNat xs).flatten))
theorem WC : yX X (binaryOp .Mult) (aei X.K) := by
 intro pins s σ H x y v u Q I rx ry h
 obtain ⟨l, k, xs, rfl, rfl, hH, h1, h2, hz, q⟩ := h
 cases rx
 obtain ⟨t, rfl⟩ := ry
 obtain ⟨its, r, pl, _⟩ := I.list hH
 have hl := r.length
 obtain ⟨⟨c1, dd, da1, sl⟩, e, hc, n, hd⟩ := pl.isList
 cases hc; cases hd
 have hlen : its.toArray.size * k.toNat <= sizeLine := by rw [akI, ← hl]; exact hz
 have agP : ¬ its.toArray.size * k.toNat > (2 ^ 63 - 1) / 8 := by
   have : (sizeLine : Nat) <= (2 ^ 63 - 1) / 8 := by decide
   omega
 have agQ : ¬ (!Builtin.List.listFitsIndex k) = true := by
   rw [fitsIndex_both h1 h2]
   exact akO
 have zQ : ¬ Builtin.List.listTooLong (its.toArray.size * k.toNat) = true := by
   rw [vC hlen]
   exact akO
 have agR : List.foldl (fun x1 x2 => x1 ++ x2) #[] (List.replicate (if its.toArray.isEmpty = true then 0 else k.toNat) its.toArray) = (List.replicate k.toNat its).flatten.toArray := by
   have f0 : ∀ m : Nat, List.foldl (fun x1 x2 => x1 ++ x2) #[] (List.replicate m its.toArray) = (List.replicate m its).flatten.toArray := fun m => by
     have := foldl_rep its m []
     rw [alA] at this
     exact this
   rw [f0]
   cases its with
   | nil => simp
   | cons a r' => rw [akH (by simp)]
 refine wpAny_binaryOp_repeat_ref (T := "list") (U := "int") (by decide) ⟨_, e, rfl⟩ (fun s' => typeIs_int s' k t) noFill_list_mul F.fills_int_mul F.slot_int_rmul repeat_list F.slot_int_index.lookup
   (amd F.slot_int_rmul (typeIs_int s k t) F.entry_int_rmul (F.args_int_rmul_2 _ _) (lm_int_rmul_list_any k t l its.toArray n dd sl)
     ⟨e, rfl, ⟨_, e, rfl⟩, amd F.slot_list_mul ⟨_, e, rfl⟩ F.entry_list_mul (F.args_list_mul_2 _ _) (lm_list_mul_any l its.toArray n dd sl k t agQ agP zQ) ⟨e, ?_⟩⟩)
 rw [agR]
 exact ⟨.ref _, _, I.adS (t' := s.toks) (r.rep k.toNat) (by rw [len_rep, Nat.mul_comm]; exact hz), rfl, q _ I.fresh⟩
theorem aD.rep {K : PySem.W.Frag} {Z : Hp} {ds : List L3.D} {vs : List V} (r : aD K CL Z ds vs) : ∀ k : Nat, aD K CL Z (List.replicate k ds).flatten (List.replicate k vs).flatten
 | 0 => .nil
 | k + 1 => by
   rw [alK, alK, al0, al0]
   exact aD.app r (aD.rep r k)
theorem WD {k : Int} (h1 : dU X CL b e1 δ (.lst ds) δ1) (h2 : dU X CL b e2 δ1 (.int k) δ2) (i1 : D.bS ds = true) (k1 : -(2 ^ 63) <= k) (k2 : k < 2 ^ 63) (hz : ds.length * k.toNat <= sizeLine) :
   cJ X CL b (.BinOp e1 .Mult e2 pos) δ (.lst ((List.replicate k.toNat ds).flatten.map T.sh)) δ2 := fun H Z σ ts vs Q S kk =>
 cL (M6 WC dW dW) (h1 H Z σ ts vs _ S fun v1 H1 Z1 z1 q1 S1 r1 => h2 H1 Z1 σ ts vs _ S1 fun v2 H2 Z2 z2 q2 S2 r2 => by
   have r1' := r1.mono q2
   cases r1' with
   | lst hq1 rr1 =>
     cases r2 with
     | int =>
       refine ⟨_, _, _, rfl, rfl, hq1, k1, k2, by rw [← rr1.length]; exact hz, fun p hp => ?_⟩
       have rc := aD.rep (aD.m5 S2.tp i1 rr1) k.toNat
       obtain ⟨c, S4⟩ := (bA.mD rc S2).jD (g0 := []) (by rw [akD, rc.length]) hp
       exact kk _ _ _ (z1.trans z2) (q1.trans (q2.trans c)) S4)
end
section
variable {X : Cx} {CL : Str -> Addr} {b : Bx} {δ : List (Option T)} {x : Str} {pos : Pos}
theorem aD.Z6 {K : PySem.W.Frag} {Z : Hp} : ∀ l : List Str, aD K CL Z (l.map .str) (l.map V.str)
 | [] => .nil
 | x :: l => .cons (.str x) (aD.Z6 l)
noncomputable def GT (X : Cx) (x : Str) (l : List Str) : Prop := ∃ a, X.mg x = some (.ref a) /\ ∀ H : Hp, wX X.K H a (l.map V.str)
theorem Il {l : List Str} (hm : GT X x l) (hg : Gl X x) (hd : (x == ("__debug__" : Str)) = false := by decide) : cJ X CL b (.Name x pos) δ (.sh (.tup (l.map .str))) δ := fun H Z σ ts vs Q S kk => by
 obtain ⟨a, hm, hs⟩ := hm
 exact cL (El (v := .ref a) hg hm rfl hd) (kk _ H Z (.refl _) (.refl _) (S.push (.tup (hs Z) (aD.Z6 l))))
theorem aej {l : List Str} {a : Addr} {od : Option Addr} {its : Array Value} {n : Nat} {sl : Array (Option Value)} (h1 : X.mg x = some (.ref a)) (h2 : X.K.lookup a = some ⟨.type "tuple", od, .seq its n, sl⟩) (h3 : its.size <= sizeLine) (h4 : Vals (l.map V.str) its.toList) : GT X x l :=
 ⟨a, h1, fun H => .inr ⟨_, its, n, h2, rfl, rfl, h3, h4⟩⟩
end
section
variable {X : Cx} {CL : Str -> Addr} {b : Bx} {e1 e2 e iter : Expr} {δ δ1 δ2 : List (Option T)} {pos : Pos}
end
section
variable {X : Cx} {CL : Str -> Addr} {b : Bx} {e : Expr} {δ δ1 δ2 δ3 : List (Option T)} {pos p2 : Pos}
end
end L3
namespace L3
open PySem PySem.Spec PyProof.Rows L2 PySem.Builtin PySem.Builtin.Str
section
variable {X : Cx} {CL : Str -> Addr} {b : Bx} {e o : Expr} {δ δ1 δ2 : List (Option T)} {pos apos : Pos}
end
end L3
namespace L3
open PySem PySem.Spec PyProof.Rows L2
section
variable {X : Cx} {CL : Str -> Addr} {b : Bx} {δ : List (Option T)} {pos pp : Pos} {x : Str}
theorem c0 {k n : Nat} {A : Type} {arg : A -> List L3.D} {Pre : A -> Prop} {res : A -> T} (a : A) (F : Fc X CL x k n arg Pre res) (hg : Gl X x) (ha : arg a = []) (hp : Pre a) (hc : (res a).clean = true) (hn : (arg a).length = n := by rfl)
   (tU : (x == ("__debug__" : Str)) = false := by decide) : cJ X CL b (.Call (.Name x pp) [] [] pos) δ (res a) δ := by
 obtain ⟨f, fd, ps, F1, m, kk, bb⟩ := F.ex
 intro H Z σ ts vs Q S k
 refine cL (Q8 F1 F.room hg m kk bb .nil tZ tU) ?_
 refine ⟨H, a, .refl _, fun _ _ q _ => q, by rw [ha]; exact .nil, hn, hp, S.HV, fun v H' W' fp hh ww wh nw tp rt nd own => ?_⟩
 obtain ⟨Z', z', S'⟩ := S.back hh S.zh ww wh nw tp rt nd own (.inr hc)
 exact k v H' Z' z' hh S'
end
noncomputable def Ph : Key -> D
 | .inl i => .int i
 | .inr x => .str x
noncomputable def Sb (kvs : List (Key × D)) (k : Key) : Option D := (kvs.find? fun kv => decide (kv.1 = k)).map (·.2)
noncomputable def Im (kvs : List (Key × D)) (k : Key) (d : D) : List (Key × D) :=
 if (kvs.any fun kv => decide (kv.1 = k)) = true then kvs.map (fun kv => if kv.1 = k then (kv.1, d) else kv) else kvs ++ [(k, d)]
section
variable {K : PySem.W.Frag} {CL : Str -> Addr} {b : Bx} {H Z : Hp} {δ : List (Option T)} {σ : L2.St} {ts tl : List T} {vs : List V} {t : T} {v : V} {d : D} {kvs : List (Key × D)} {gs : List (Key × V)}
theorem bO.length {kvs : List (Key × D)} {gs : List (Key × V)} (h : bO K CL Z kvs gs) : kvs.length = gs.length :=
 bO.ind (P := fun kvs gs => kvs.length = gs.length) rfl (fun _ _ i => congrArg (· + 1) i) h
theorem bO.keys {kvs : List (Key × D)} {gs : List (Key × V)} (h : bO K CL Z kvs gs) : kvs.map (·.1) = gs.map (·.1) :=
 bO.ind (P := fun kvs gs => kvs.map (·.1) = gs.map (·.1)) rfl (fun {x _ _ _ _} _ _ i => congrArg (x :: ·) i) h
theorem bO.val {k : Key} : ∀ {kvs : List (Key × D)} {gs : List (Key × V)}, bO K CL Z kvs gs -> (Sb kvs k = none /\ Ew gs k = none) \/ ∃ d v, Sb kvs k = some d /\ Ew gs k = some v /\ bM K CL Z d v
 | _, _, .nil => .inl ⟨rfl, rfl⟩
 | _, _, .cons (x := x) (d := d) (v := v) h r => by
   by_cases e : x = k
   . exact .inr ⟨d, v, by simp [Sb, e], zR e, h⟩
   . rcases bO.val (k := k) r with ⟨h1, h2⟩ | ⟨d', v', h1, h2, h3⟩
     . exact .inl ⟨by simpa [Sb, e] using h1, by rw [vD e]; exact h2⟩
     . exact .inr ⟨d', v', by simpa [Sb, e] using h1, by rw [vD e]; exact h2, h3⟩
theorem bO.any {k : Key} : ∀ {kvs : List (Key × D)} {gs : List (Key × V)}, bO K CL Z kvs gs -> (kvs.any fun kv => decide (kv.1 = k)) = (gs.any fun kv => decide (kv.1 = k))
 | _, _, .nil => rfl
 | _, _, .cons _ r => by rw [alT, alT, bO.any r]
theorem bO.repl {k : Key} (q : bM K CL Z d v) : ∀ {kvs : List (Key × D)} {gs : List (Key × V)}, bO K CL Z kvs gs -> bO K CL Z (kvs.map (fun kv => if kv.1 = k then (kv.1, d) else kv)) (gs.map (fun kv => if kv.1 = k then (kv.1, v) else kv))
 | _, _, .nil => .nil
 | _, _, .cons (x := x) h r => by
   rw [akP, akP]
   by_cases e : x = k
   . rw [akJ e, akJ e]; exact .cons q (bO.repl q r)
   . rw [akH e, akH e]; exact .cons h (bO.repl q r)
theorem bO.snoc {k : Key} (q : bM K CL Z d v) : ∀ {kvs : List (Key × D)} {gs : List (Key × V)}, bO K CL Z kvs gs -> bO K CL Z (kvs ++ [(k, d)]) (gs ++ [(k, v)])
 | _, _, .nil => .cons q .nil
 | _, _, .cons h r => .cons h (bO.snoc q r)
theorem bO.put {k : Key} (q : bM K CL Z d v) (r : bO K CL Z kvs gs) : bO K CL Z (Im kvs k d) (putK gs k v) := by
 unfold Im putK
 rw [r.any]
 split
 . exact r.repl q
 . exact r.snoc q
theorem bM.key {k : Key} (r : bM K CL Z (Ph k) v) : v = kV k := by
 cases k with
 | inl i => exact r.sc rfl
 | inr x => exact r.sc rfl
theorem WG {Z : Hp} (k : Key) : bM K CL Z (Ph k) (kV k) := by
 cases k with
 | inl i => exact .int i
 | inr x => exact .str x
theorem Io {Z : Hp} : ∀ ks : List Key, aD K CL Z (ks.map Ph) (ks.map kV)
 | [] => .nil
 | k :: ks => .cons (WG k) (Io ks)
theorem bA.abI {p : Addr} (S : bA K CL b H Z δ σ ts vs) (hp : H p = none) : aG H (upd H p (.dK [])) /\ bA K CL b (upd H p (.dK [])) Z δ σ (.oj [] :: ts) (.ref p :: vs) := by
 obtain ⟨fp, gp, e, r, nd, k⟩ := S.rep
 have zp : Z p = none := S.zh.free hp
 have sh : aG H (upd H p (.dK [])) := aG.upd hp
 have keep : ∀ a ∈ fp ++ gp, a ≠ p := fun a ha => by
   have : ∃ o, H a = some o := by
     rcases akC.mp ha with h | h
     . exact e.there a h
     . exact r.there a h
   obtain ⟨o, q⟩ := this
   exact aK q hp
 refine ⟨sh, ⟨⟨fp, [p] ++ gp, e.mono (.refl _) (fun a ha => az (keep a (akF _ ha))), .cons (.oj aP .nil) (r.mono (.refl _) fun a ha => az (keep a (by simp [ha]))), ?_, fun a ha => ?_⟩, S.bh.trans sh, S.zz, S.zh.trans sh, S.new, fun a o q i => ?_, S.tab⟩⟩
 . refine (alC (l₁ := fp) (l₂ := gp) (a := p)).nodup_iff.mpr (alk.mpr ⟨fun h => keep p h rfl, nd⟩)
 . rcases akB.mp ((alC (l₁ := fp) (l₂ := gp) (a := p)).mem_iff.mp ha) with h | h
   . subst h; exact ⟨zp, S.bh.free hp⟩
   . exact k a h
 . by_cases ha : a = p
   . subst ha; rw [aP] at q; cases q; cases i
   . rw [az ha] at q; exact S.tp a o q i
theorem bA.abJ {i : Nat} (k : Key) (S : bA K CL b H Z δ σ (.sh d :: ts) (v :: vs)) (hi : δ[i]? = some (some (.oj kvs))) :
   ∃ a gs, σ[i]? = some (some (.ref a)) /\ H a = some (.dK gs) /\ gs.length = kvs.length /\ bA K CL b (upd H a (.dK (putK gs k v))) Z (δ.set i (some (.oj (Im kvs k d)))) σ ts vs := by
 obtain ⟨fp, gp, e, r, nd, kk⟩ := S.rep
 obtain ⟨v0, f1, f2, f3, hv, qF, rt, put, _⟩ := e.get hi
 subst qF
 cases rt with
 | @oj a gs _ ha rs =>
   cases r with
   | @cons _ _ _ _ ft gr q1 q2 =>
     cases q1 with
     | sh q1 =>
       have ne : ∀ c ∈ (f1 ++ f3) ++ gr, c ≠ a := fun c hc e => by
         subst e
         have hp : ((f1 ++ ([c] ++ f3)) ++ ([] ++ gr)).Perm (c :: ((f1 ++ f3) ++ gr)) := by
           rw [alA, List.singleton_append]
           exact (alC.append_right _)
         exact (alk.mp (hp.nodup_iff.mp nd)).1 hc
       refine ⟨a, gs, hv, ha, rs.length.symm, ?_⟩
       have r1 : bR K CL (upd H a (.dK (putK gs k v))) Z (.oj (Im kvs k d)) (.ref a) [a] := .oj aP (rs.put q1)
       have e2 := put (H' := upd H a (.dK (putK gs k v))) (.refl _) (fun c hc => az (ne c (by
         rcases akC.mp hc with h | h
         . simp [h]
         . simp [h]))) r1
       rw [eW hv] at e2
       exact S.KC rfl kk (by simp) e2 (q2.mono (.refl _) fun c hc => az (ne c (by simp [hc]))) nd fun c hc => hc
end
theorem Aa {X : Cx} (hc : X.calm = true) : qL X (.type "list") (fun xs H Q => ∃ p kvs, xs = [.ref p] /\ H p = some (.dK kvs) /\ ∀ l, H l = none -> Q (.ref l) (upd H l (.lst ((kvs.map (·.1)).map kV)))) := by
 intro pins s σ H xs us Q I r h
 obtain ⟨p, kvs, rfl, hq, q⟩ := h
 obtain ⟨u, rfl, rx⟩ := vals1 r
 cases rx
 obtain ⟨z, hd, ws, rel, dd⟩ := ZR I.dJ hq
 obtain ⟨ep, Cg⟩ := dd.dictAt
 refine PySem.W.kdl_call (PySem.W.kdl_dict (knd := eO X.prog X.w) (kvs := ws) (ep := ep) hd) (I.ok.hd hc) Cg (by rw [← rel.length]; exact z) fun h' tk WH c' hk e Wt => ?_
 have hl : WH.toList.length = ws.length := by rw [alJ]; exact Wt.1
 have hv : Vals ((kvs.map (·.1)).map kV) WH.toList := by
   rw [rel.keys]
   have gen : ∀ (l : List (Key × Value)) (m : List Value), m.length = l.length -> (∀ (j : Nat) (x : Value), m[j]? = some x -> ∃ k y, l[j]? = some (k, y) /\ (eO X.prog X.w).is k x = true) -> Vals ((l.map (·.1)).map kV) m := by
     intro l
     induction l with
     | nil => intro m hm _; cases m with
       | nil => exact .nil
       | cons _ _ => simp at hm
     | cons p l ih =>
       intro m hm hx
       cases m with
       | nil => simp at hm
       | cons x m =>
         obtain ⟨k, y, e1, e2⟩ := hx 0 x rfl
         simp at e1
         subst e1
         refine .cons ?_ (ih m (by simpa using hm) fun j x' hj => by simpa using hx (j + 1) x' (by simpa using hj))
         rcases dw e2 with ⟨i, t, h1, h2⟩ | ⟨i, t, h1, h2⟩
         . subst h1 h2; exact ⟨t, rfl⟩
         . subst h1 h2; exact ⟨t, rfl⟩
   exact gen ws WH.toList hl fun j x hj => Wt.2 j x (by rw [← alY]; exact hj)
 refine ⟨.ref s.heap.objs.size, _, I.laid (t' := tk) hk (Nat.le_refl _) (show eV X.prog X.w _ h' _ (.lst ((kvs.map (·.1)).map kV)) from ⟨by simpa using z, WH.toList, c', hv, by simpa using e⟩), rfl, q _ (I.dJ.fresh (Nat.le_refl _))⟩
section
variable {X : Cx} {CL : Str -> Addr} {b : Bx} {δ δ1 δ2 : List (Option T)} {e e1 e2 : Expr} {t : T} {d : L3.D} {D : cE} {pos pp ps : Pos} {i : Nat} {x : Str} {d8 : List Stmt} {kvs : List (Key × L3.D)} {k : Key}
theorem WK : cJ X CL b (.Dict [] [] pos) δ (.oj []) δ := fun H Z σ ts vs Q S kk => cL Rn fun p hp => by
 obtain ⟨c, S1⟩ := S.abI hp
 exact kk _ _ Z (.refl _) c S1
theorem abK (k : Key) (hu : X.A.units + 64 < cLine) (n : Vn X i x) (h : cJ X CL b e δ (.sh d) δ1) (h2 : dU X CL b e2 δ1 (Ph k) δ1) (h1 : δ1[i]? = some (some (.oj kvs))) (hl : kvs.length <= 1000000) (kk : eL X CL b d8 (δ1.set i (some (.oj (Im kvs k d)))) D)
   (hs : swapsWith e (some (.Subscript (.Name x pp) e2 ps)) pos.line X.env = pure false := by rfl) :
   eL X CL b (.Assign [.Subscript (.Name x pp) e2 ps] e pos :: d8) δ D := ck fun H Z σ ts vs E S M =>
 om (V4 (by omega) (iC n.hi n.hv n.hd n.j4) dW dW hs) (h H Z σ ts vs _ S fun v H1 Z1 z1 k1 S1 => by
   obtain ⟨v0, e0, _⟩ := S1.look h1
   refine ⟨v0, e0, h2 H1 Z1 σ _ _ _ S1 fun v2 H2 Z2 z2 k2 S2 r2 => ?_⟩
   obtain ⟨a, gs, ea, ha, hg, S3⟩ := S2.abJ k h1
   rw [e0] at ea
   cases ea
   exact ⟨a, _, rfl, by rw [r2.key]; exact Rl.k ha (by rw [hg]; exact alR hl (by rw [alb]; decide)), M.nx _ σ _ Z2 (z1.trans z2) S3 kk⟩)
theorem Sd (g : Gx X) (hm : X.mg "list" = none) (h : dU X CL b e δ (.oj kvs) δ1) (hg : Gl X "list") (hs : starEach [e] X.env = (false, eval e X.env) :: starEach [] X.env := by exact bw rfl) : cJ X CL b (.Call (.Name "list" pp) [e] [] pos) δ (.lst (((kvs.map (·.1)).map Ph).map T.sh)) δ1 := fun H Z σ ts vs Q S k =>
 cL (lg (Aa g.calm) hg hm bQ (b8 dW dM hs) (he := hs)) (h H Z σ ts vs _ S fun v H1 Z1 z1 k1 S1 r => by
   cases r with
   | @oj a gs _ ha rr =>
     refine ⟨a, gs, rfl, ha, fun l hl => ?_⟩
     rw [← rr.keys]
     obtain ⟨c, S2⟩ := (bA.mD (Io (kvs.map (·.1))) S1).jD (g0 := []) (by simp) hl
     exact k _ _ _ z1 (k1.trans c) S2)
end
section
variable {K : PySem.W.Frag} {CL : Str -> Addr} {b : Bx} {H Z : Hp} {δ : List (Option T)} {σ : L2.St} {ts : List T} {vs : List V} {t : T} {v w : V} {f c : Str} {QG : List (Str × T)}
theorem cQ.WL {ft : List Addr} (rt : bR K CL H Z t v ft) : ∀ {Iq : List (Str × T)} {gs : List (Str × V)} {fp : List Addr}, cQ K CL H Z (Iq ++ (f, .sh (.val v)) :: QG) gs fp -> ∃ Nx, cQ K CL H Z (Iq ++ (f, t) :: QG) gs Nx /\ Nx.Perm (fp ++ ft)
 | [], _, _, r => by
   cases r with
   | @cons _ _ v' _ _ f1 gp h r =>
     cases h with
     | sh h =>
       cases h
       exact ⟨ft ++ gp, .cons rt r, akY⟩
 | (y, u) :: Iq, _, _, r => by
   cases r with
   | @cons _ _ v' _ _ f1 gp h r =>
     obtain ⟨Nx, r', p⟩ := cQ.WL rt (Iq := Iq) r
     refine ⟨f1 ++ Nx, .cons h r', ?_⟩
     rw [akx]
     exact p.append_left f1
theorem bA.WL {Iq : List (Str × T)} (S : bA K CL b H Z δ σ (.ins c (Iq ++ (f, .sh (.val v)) :: QG) :: t :: ts) (w :: v :: vs)) : bA K CL b H Z δ σ (.ins c (Iq ++ (f, t) :: QG) :: ts) (w :: vs) := by
 obtain ⟨fp, gp, e, r, nd, k⟩ := S.rep
 cases r with
 | @cons _ _ _ _ g1 g2 r1 r2 =>
   cases r2 with
   | @cons _ _ _ _ g3 g4 r3 r4 =>
     cases r1 with
     | @ins a dx _ gs _ fp1 ha rf =>
       obtain ⟨Nx, rf', p⟩ := cQ.WL r3 rf
       have pm : (fp ++ ((a :: Nx) ++ g4)).Perm (fp ++ ((a :: fp1) ++ (g3 ++ g4))) := by
         refine ak8 fp ?_
         rw [← akx]
         refine List.Perm.append_right g4 ?_
         rw [akS]
         exact List.Perm.cons a p
       exact ⟨⟨fp, (a :: Nx) ++ g4, e, .cons (.ins ha rf') r4, pm.nodup_iff.mpr nd, fun c hc => k c (pm.mem_iff.mp hc)⟩, S.bh, S.zz, S.zh, S.new, S.tp, S.tab⟩
end
noncomputable def PAv (X : Cx) (CL : Str -> Addr) (b : Bx) (es : List Expr) (δ : List (Option T)) (dv : V -> List D) (t : T) (δ' : List (Option T)) : Prop :=
 ∀ (H Z : Hp) (σ : L2.St) (ts : List T) (vs : List V) (Q : List V -> Hp -> Prop), bA X.K CL b H Z δ σ ts vs →
   (∀ us H' Z' v, aG Z Z' -> aG H H' -> bA X.K CL b H' Z' δ' σ (t :: ts) (v :: vs) -> aD X.K CL H' (dv v) us -> Q us H') -> OX X es σ H Q
theorem T.Ab {f : Str} {v : V} {QG : List (Str × T)} (h2 : T.cM QG = true) : ∀ {Iq : List (Str × T)}, T.cM Iq = true -> T.cM (Iq ++ (f, .sh (.val v)) :: QG) = true
 | [], _ => by rw [alA, T.cM, h2]; rfl
 | (x, t) :: Iq, h => by
   rw [T.cM, alf] at h
   rw [akS, T.cM, h.1, T.Ab h2 h.2]; rfl
section
variable {X : Cx} {CL : Str -> Addr} {b : Bx} {δ δ1 δ2 : List (Option T)} {e o : Expr} {es : List Expr} {pos pp apos : Pos} {t : T} {ds : List D} {d : D} {dv : V -> List D}
theorem Se (h : cJ X CL b e δ t δ1) (r : OY X CL b es δ1 ds δ2) (hs : notStar e = true := by rfl) : PAv X CL b (e :: es) δ (fun v => .val v :: ds) t δ2 := fun H Z σ ts vs Q S k =>
 Cb (b8 dW Ex (bw hs)) (h H Z σ ts vs _ S fun v H1 Z1 z1 k1 S1 => r H1 Z1 σ _ _ _ S1 fun us H2 Z2 z2 k2 S2 r2 => k (v :: us) H2 Z2 v (z1.trans z2) (k1.trans k2) S2 (.cons (.val v) r2))
theorem Ir (h : dU X CL b e δ d δ1) (r : PAv X CL b es δ1 dv t δ2) (hs : notStar e = true := by rfl) : PAv X CL b (e :: es) δ (fun v => d :: dv v) t δ2 := fun H Z σ ts vs Q S k =>
 Cb (b8 dW Ex (bw hs)) (h H Z σ ts vs _ S fun v H1 Z1 z1 k1 S1 r1 => r H1 Z1 σ ts vs _ S1 fun us H2 Z2 v2 z2 k2 S2 r2 => k (v :: us) H2 Z2 v2 (z1.trans z2) (k1.trans k2) S2 (.cons (r1.mono k2) r2))
variable {A : Type} {k n : Nat} {arg : A -> List D} {Pre : A -> Prop} {x c m f : Str}
theorem mkP {res : A -> List (Str × T)} (a : V -> A) {Iq QG : List (Str × T)} (F : Fm X CL x k n arg Pre res) (hg : Gl X x) (h : PAv X CL b (e :: es) δ dv t δ1) (ha : ∀ v, arg (a v) = dv v) (hp : ∀ v, Pre (a v)) (hr : ∀ v, res (a v) = Iq ++ (f, .sh (.val v)) :: QG) (hc : T.cM Iq = true) (RZ : T.cM QG = true) (hn : ∀ v, (arg (a v)).length + 1 = n := by exact fun _ => rfl)
   (tU : (x == ("__debug__" : Str)) = false := by decide) (he : starEach (e :: es) X.env = (false, eval e X.env) :: starEach es X.env := by exact bw rfl) (hpl : (backTo pos (starEach es X.env)).any (·.1) = false := by rfl) :
   cJ X CL b (.Call (.Name x pp) (e :: es) [] pos) δ (.ins x (Iq ++ (f, t) :: QG)) δ1 := fun H Z σ ts vs Q S kk => by
 obtain ⟨f', fd, ps, M, F1, hm, hb⟩ := F.ex
 exact cL (Ep M F1 F.room hg hm hb .nil tZ Ex tU he hpl) (h H Z σ ts vs _ S fun us H1 Z1 v z1 k1 S1 r y dx hx hdx ne => by
   rw [akK]
   refine ⟨H1, H1, a v, y, dx, us, rfl, hx, hdx, ne, rfl, .refl _, fun _ _ q _ => q, by rw [ha]; exact r, hn v, hp v, S1.HV, fun H' W' fp hh ww wh nw tp rt nd own => ⟨rfl, ?_⟩⟩
   obtain ⟨Z', z', S'⟩ := S1.back hh S1.zh ww wh nw tp rt nd own (.inr (by rw [T.clean, hr]; exact T.Ab RZ hc))
   rw [hr] at S'
   exact kk _ H' Z' (z1.trans z') (k1.trans hh) S'.WL)
end
section
variable {X : Cx}
end
section
variable {X : Cx} {CL : Str -> Addr} {b : Bx} {δ δ1 : List (Option T)} {e : Expr} {pos pp : Pos} {l : List Bool}
end
namespace Rv
theorem Pj : PySem.Slot "reversed" "__init__" "object.__init__" :=
 .of (owner := "object") (n := "__init__") (by rw [typeLookup_type, builtinLookup_eq_fast]; kernel_rfl) (by decide +kernel) (by decide +kernel) (by decide +kernel)
   (by first | exact .inl (by decide +kernel) | exact .inr (by decide +kernel)) (by rw [isSubtype_type]; kernel_rfl)
theorem called : TypeCalled "reversed" "reversed.__new__" "object.__init__" :=
 ⟨by decide +kernel, by decide +kernel, ⟨_, _, PySem.F.mro_reversed⟩, PySem.F.made_reversed, by decide +kernel, PySem.F.sub_reversed_self, Pj⟩
noncomputable def obj (t : Addr) (i : Int) : Obj := { cls := .type "reversed", data := .fields #[.ref t, rawInt i] }
section
variable {prog : Program} {w : World} {A : Around} {E : Value -> Shared -> Prop} {s : Shared}
end
end Rv
namespace Rv
section
variable {prog : Program} {w : World} {A : Around} {E : Value -> Shared -> Prop} {s : Shared}
end
end Rv
section
variable {X : Cx} {tg : Expr}
end
section
variable {X : Cx} {CL : Str -> Addr} {b : Bx} {δ δ1 : List (Option T)} {e : Expr} {ds : List D} {tg : Expr} {pr pc : Pos}
end
section
variable {X : Cx} {CL : Str -> Addr} {b : Bx} {δ δ1 : List (Option T)} {e : Expr} {t : T} {tl HW tt tt0 : List T} {D : cE} {pos pp pa pb : Pos}
variable {d8 : List Stmt} {i i2 : Nat} {x y : Str} {DD : cE}
end
section
variable {X : Cx} {CL : Str -> Addr} {b : Bx} {δ δ1 : List (Option T)} {e : Expr} {ds : List D} {tg : Expr} {pr pc : Pos} {l : Bool}
end
section
variable {X : Cx} {CL : Str -> Addr} {b : Bx} {δ : List (Option T)}
end
theorem Sf (l q : Addr) (xs ys : Array Value) (n m : Nat) (dq : Option Addr) (sq : Array (Option Value)) (hc : ¬(!xs.isEmpty && Builtin.List.listTooLong (xs.size + ys.size)) = true) (hx : xs.size <= sizeLine) (hy : xs.size + ys.size <= sizeLine + 1) :
   PySem.Meets (Builtin.«list.extend» ⟨[.ref l, .ref q], []⟩) (fun _ R s => s.heap.get? l = some { cls := .type "list", dict := none, data := .seq xs n, slots := #[] } /\ s.heap.get? q = some { cls := .type "tuple", dict := dq, data := .seq ys m, slots := sq } ∧
     R (.ok (.ret Value.none)) { s with heap := s.heap.update l (Obj.mapSeq fun x => x ++ ys), toks := s.toks }) :=
 PySem.Meets.of_wp fun prog w A R s h => by
   obtain ⟨hp, g, d, tk, os⟩ := s
   obtain ⟨hl, hb, h⟩ := h
   have f1 := AutoSeq1.idx_int
   have f2 := AutoSeq1.sub_tuple_tuple
   have f3 := AutoSeq1.sub_list_list
   have f4 := AutoSeq1.sub_tuple_list
   have f5 := AutoSeq1.sub_list_tuple
   have hz : (xs ++ ys).size <= sizeLine + 1 := by
     rw [Array.size_append]
     exact hy
   wp_walk using (wpAny_updateSeq hl rfl (hz := hx) (_hz' := hz)), wpAny_loadPart' hl, wpAny_loadPart' hb
   exact ⟨_, rfl, h⟩
noncomputable def aek (K : PySem.W.Frag) : V -> List V -> Hp -> VK -> Prop := fun x vs H Q => ∃ l q xs zs, x = .ref l /\ vs = [.ref q] /\ H l = some (.lst xs) /\ wX K H q zs /\ xs.length + zs.length <= sizeLine /\ Q .non (upd H l (.lst (xs ++ zs)))
theorem WM {X : Cx} : MtM X "list.extend" (aek X.K) := by
 intro pins s σ H x vs v us Q I rx rv h
 obtain ⟨l, q, xs, zs, rfl, rfl, hH, hB, hz, k⟩ := h
 cases rx
 obtain ⟨u, rfl, ru⟩ := rv.one
 cases ru
 obtain ⟨z, its, n, r, hl, e⟩ := I.OO hH
 obtain ⟨qE, r2, ⟨⟨c2, d2, da2, s2⟩, e2, RZ, n2, hd2⟩, z2⟩ := I.tuple hB
 cases RZ
 cases hd2
 have hl2 := r2.length
 have hsz : its.toArray.size + qE.toArray.size <= sizeLine := by
   rw [akI, akI]
   omega
 have zQ : ¬ (!its.toArray.isEmpty && Builtin.List.listTooLong (its.toArray.size + qE.toArray.size)) = true := by
   rw [vC hsz, Bool.and_false]
   decide
 refine amd F.slot_list_extend ⟨_, e, rfl⟩ F.entry_list_extend (F.args_list_extend_2 _ _) (Sf l q its.toArray qE.toArray n n2 d2 s2 zQ (by rw [akI]; omega) (by omega)) ⟨e, e2, ?_⟩
 refine ⟨.non, _, I.Ri (its' := its ++ qE) hH e (by simp) (r.append r2) ?_, rfl, k⟩
 rw [ak1]
 omega
section
variable {K : PySem.W.Frag} {CL : Str -> Addr} {b : Bx} {H Z : Hp} {δ : List (Option T)} {σ : L2.St} {ts tl : List T} {vs : List V} {ds : List D} {us : List V}
theorem bA.WN {i : Nat} (S : bA K CL b H Z δ σ ts vs) (hr : aD K CL Z ds us) (hi : δ[i]? = some (some (.lst tl))) :
   ∃ a ws, σ[i]? = some (some (.ref a)) /\ H a = some (.lst ws) /\ ws.length = tl.length /\ bA K CL b (upd H a (.lst (ws ++ us))) Z (δ.set i (some (.lst (tl ++ ds.map T.sh)))) σ ts vs := by
 obtain ⟨fp, gp, e, r, nd, k⟩ := S.rep
 obtain ⟨v0, f1, f2, f3, hv, qF, rt, put, _⟩ := e.get hi
 subst qF
 cases rt with
 | @lst a ws _ g ha rs =>
   have ne : ∀ c ∈ (f1 ++ (g ++ f3)) ++ gp, c ≠ a := fun c hc e => by
     subst e
     have hp : ((f1 ++ ((c :: g) ++ f3)) ++ gp).Perm (c :: ((f1 ++ (g ++ f3)) ++ gp)) := by
       rw [akS, ← akS]
       exact (alC.append_right _)
     exact (alk.mp (hp.nodup_iff.mp nd)).1 hc
   refine ⟨a, ws, hv, ha, rs.length.symm, ?_⟩
   have r1 : bR K CL (upd H a (.lst (ws ++ us))) Z (.lst (tl ++ ds.map T.sh)) (.ref a) (a :: (g ++ [])) :=
     .lst aP (aL.app (rs.mono (.refl _) fun c hc => az (ne c (by simp [hc]))) (aL.ofF hr))
   rw [akK] at r1
   have e2 := put (H' := upd H a (.lst (ws ++ us))) (.refl _) (fun c hc => az (ne c (by
     rcases akC.mp hc with h | h
     . simp [h]
     . simp [h]))) r1
   rw [eW hv] at e2
   exact S.write nd k (akA) ⟨_, ha⟩ e2 (r.mono (.refl _) fun c hc => az (ne c (by simp [hc]))) nd fun c hc => hc
end
section
variable {X : Cx} {CL : Str -> Addr} {b : Bx} {δ δ1 : List (Option T)} {e : Expr} {tl HW : List T} {ds : List L3.D} {D : cE} {pos pp pa pb : Pos} {i : Nat} {x : Str} {d8 : List Stmt}
theorem Sg (n : Vn X i x) (h0 : δ[i]? = some (some (.lst HW))) (h : dU X CL b e δ (.tup ds) δ1) (him : L3.D.bS ds = true) (h1 : δ1[i]? = some (some (.lst tl))) (hl : tl.length + ds.length <= 1000000) (k : eL X CL b d8 (δ1.set i (some (.lst (tl ++ ds.map T.sh)))) D)
   (j5 : attributeBase (.Name x pp) "extend" X.env (eval (.Name x pp) X.env) = eval (.Name x pp) X.env := by rfl)
   (qP : ((backTo pb (starEach [e] X.env)).all (fun x => !x.1) && (backToKw pb (keywordEach [] X.env)).all (fun x => x.1.isSome) && decide ([e].length + ([] : List Keyword).length + (if ([] : List Keyword).isEmpty then 0 else 1) < 30)) = true := by rfl)
   (hline : (pa.endLine == pb.line) = true := by rfl) (hs : starEach [e] X.env = (false, eval e X.env) :: starEach [] X.env := by exact bw rfl)
   (Cd : swapsWith (.Call (.Attribute (.Name x pp) "extend" pa) [e] [] pb) none pos.line X.env = pure false := by rfl) :
   eL X CL b (.Expr (.Call (.Attribute (.Name x pp) "extend" pa) [e] [] pb) pos :: d8) δ D := ck fun H Z σ ts vs E S M =>
 om (sA (zP alH aml amm WM (iC n.hi n.hv n.hd n.j4) (b8 dW dM hs) j5 qP hline hs rfl) Cd) (by
   obtain ⟨v0, e0, r0⟩ := S.look h0
   refine ⟨v0, e0, ?_, ?_⟩
   . rw [T.fc] at r0
     cases r0 with
     | lst hq _ => exact .inl ⟨rfl, _, hq⟩
   . refine h H Z σ ts vs _ S fun v H1 Z1 z1 k1 S1 r => ?_
     cases r with
     | tup hq rr =>
       obtain ⟨a, ws, ea, ha, hu, S2⟩ := S1.WN (aD.m5 S1.tp him rr) h1
       rw [e0] at ea
       cases ea
       have hz := rr.length
       exact ⟨a, _, ws, _, rfl, rfl, ha, hq, by rw [hu, ← hz]; exact alj (alR hl (by rw [alb]; decide)), M.nx _ σ _ Z1 z1 S2 k⟩)
end
section
variable {X : Cx} {CL : Str -> Addr} {b : Bx} {δ δ1 δ2 δ3 : List (Option T)} {e e1 e2 : Expr} {ds zZ : List L3.D} {pos p2 : Pos}
end
section
variable {a₀ xs : Array Keyed} {ι : Nat -> Nat} {n : Nat}
structure Tag (a₀ xs : Array Keyed) (ι : Nat -> Nat) (n : Nat) : Prop where
 pl : ∀ k, k < a₀.size -> xs[k]? = a₀[ι k]?
 lo : ∀ k, k < n -> ι k < n
 hi : ∀ k, n <= k -> ι k = k
noncomputable def qV (xs : Array Keyed) (ι : Nat -> Nat) (n : Nat) : Prop := ∀ i j, i < j -> j < n -> PyProof.Rows.K xs i < PyProof.Rows.K xs j \/ (PyProof.Rows.K xs i = PyProof.Rows.K xs j /\ ι i < ι j)
noncomputable def Ci (xs : Array Keyed) (ι : Nat -> Nat) (n : Nat) : Prop := ∀ i j, i < j -> j < n -> PyProof.Rows.K xs j < PyProof.Rows.K xs i \/ (PyProof.Rows.K xs j = PyProof.Rows.K xs i /\ ι j < ι i)
theorem Tag.grow (h : Tag a₀ xs ι n) : Tag a₀ xs ι (n + 1) := ⟨h.pl, fun k hk => by
   by_cases e : k < n
   . have := h.lo k e
     omega
   . have := h.hi k (by omega)
     omega, fun k hk => h.hi k (by omega)⟩
theorem Tag.agS (h : Tag a₀ xs ι n) {m : Nat} (hm : n <= m) : Tag a₀ xs ι m := ⟨h.pl, fun k hk => by
   by_cases e : k < n
   . have := h.lo k e
     omega
   . have := h.hi k (by omega)
     omega, fun k hk => h.hi k (by omega)⟩
noncomputable def turned (ι : Nat -> Nat) (i j : Nat) : Nat -> Nat := fun k => if i <= k /\ k < j then ι (i + j - 1 - k) else ι k
theorem Tag.turn (h : Tag a₀ xs ι n) {i j : Nat} (hj : j <= n) (hn : n <= a₀.size) (hs : xs.size = a₀.size) : Tag a₀ (mirror xs i j ((j - i) / 2)) (turned ι i j) n := by
 refine ⟨fun k hk => ?_, fun k hk => ?_, fun k hk => ?_⟩
 . rw [getElem?_mirror_all (by omega)]
   unfold turned
   split
   . exact h.pl _ (by omega)
   . exact h.pl _ hk
 . unfold turned
   split
   . exact h.lo _ (by omega)
   . exact h.lo _ hk
 . unfold turned
   rw [akH (by omega)]
   exact h.hi k hk
noncomputable def Pk (ι : Nat -> Nat) (k l : Nat) : Nat -> Nat := fun p => if p = l then ι k else if l < p /\ p <= k then ι (p - 1) else ι p
theorem Tag.sink (h : Tag a₀ xs ι n) {l : Nat} (hl : l <= n) (hn : n < a₀.size) (hs : xs.size = a₀.size) : Tag a₀ (bubble xs n (n - l)) (Pk ι n l) (n + 1) := by
 have hg := h.grow
 refine ⟨fun k hk => ?_, fun k hk => ?_, fun k hk => ?_⟩
 . rw [getElem?_bubble (by omega) (n - l) (by omega), show n - (n - l) = l by omega]
   unfold Pk
   split
   . exact h.pl _ (by omega)
   . split
     . exact h.pl _ (by omega)
     . exact h.pl _ hk
 . unfold Pk
   split
   . exact hg.lo _ (by omega)
   . split
     . exact hg.lo _ (by omega)
     . exact hg.lo _ hk
 . unfold Pk
   rw [akH (by omega), akH (by omega)]
   exact hg.hi k hk
theorem qV.le (h : qV xs ι n) {i j : Nat} (Iu : i <= j) (hj : j < n) : PyProof.Rows.K xs i <= PyProof.Rows.K xs j := by
 by_cases e : i = j
 . subst e; exact Int.le_refl _
 . rcases h i j (by omega) hj with z | z <;> omega
end
section
variable {prog : Program} {w : World} {A : Around} {E : Value -> Shared -> Prop} {s : Shared} {a₀ : Array Keyed}
theorem Iv {st : SortSt} {ι : Nat -> Nat} {a gQ : Nat} {Q : AscSt -> SortSt -> Prop} (h0 : IntKeys a₀) (hn : gQ <= a₀.size) (ha : 1 <= a) (han : a <= gQ) (hB : SBase a₀ st)
   (ht : Tag a₀ (arrOf st) ι a) (hs : qV (arrOf st) ι a)
   (h : ∀ n, a <= n -> n <= gQ -> Tag a₀ (arrOf st) ι n -> qV (arrOf st) ι n -> (n = gQ \/ PyProof.Rows.K (arrOf st) n < PyProof.Rows.K (arrOf st) (n - 1)) -> Q (none, n) st) :
   wpS (model prog w) A E s (ascLoop a gQ) Q st := by
 unfold ascLoop
 refine amn (I := fun x c z => z = st /\ c = (none, x) /\ Tag a₀ (arrOf st) ι x /\ qV (arrOf st) ι x) ?one ?all ⟨rfl, rfl, ht, hs⟩
 case all =>
   rintro c z ⟨rfl, rfl, t, o⟩
   have e : max a gQ = gQ := by omega
   rw [e] at t o ⊢
   exact h gQ han (akG _) t o (.inl rfl)
 case one =>
   rintro x c z hax hxn ⟨rfl, rfl, t, o⟩
   dsimp only
   refine alm (wpS_ltK hB h0 (by omega) (by omega) ?_)
   by_cases hl : PyProof.Rows.K (arrOf z) x < PyProof.Rows.K (arrOf z) (x - 1)
   . simp only [hl, decide_true, al8]
     exact alz (h x hax (by omega) t o (.inr hl))
   . simp only [hl, decide_false, aln, alZ]
     refine alz ⟨rfl, rfl, t.grow, fun i j Iu hj => ?_⟩
     by_cases hjx : j < x
     . exact o i j Iu hjx
     . have e : j = x := by omega
       subst e
       have q := o.le (i := i) (j := j - 1) (by omega) (by omega)
       have l1 := t.lo i Iu
       have l2 := t.hi j (akG _)
       omega
theorem Iw {st : SortSt} {ι : Nat -> Nat} {n gQ : Nat} {Q : Option Nat -> SortSt -> Prop} (h0 : IntKeys a₀) (hn : gQ <= a₀.size) (h1 : 1 <= n) (WO : n <= gQ) (hB : SBase a₀ st)
   (ht : Tag a₀ (arrOf st) ι n) (hs : Ci (arrOf st) ι n)
   (h : ∀ m z κ, SBase a₀ z -> 1 <= m -> m <= gQ -> Tag a₀ (arrOf z) κ m -> qV (arrOf z) κ m -> Q (some m) z) :
   wpS (model prog w) A E s (tail3 n gQ) Q st := by
 unfold tail3
 have hz : n <= (arrOf st).size := by rw [hB.size]; omega
 have hB2 : SBase a₀ (setArr st (mirror (arrOf st) 0 n ((n - 0) / 2))) := hB.setArr (mirror_perm _ _ _ _)
 refine alm (wpS_reverse ?_)
 refine alm (Iv (ι := turned ι 0 n) h0 hn h1 WO hB2 (ht.turn (akG _) (by omega) hB.size) ?_ fun m m1 m2 t o _ => alz (h m _ _ hB2 (by omega) m2 t o))
 intro i j Iu hj
 show PyProof.Rows.K (mirror (arrOf st) 0 n ((n - 0) / 2)) i < PyProof.Rows.K (mirror (arrOf st) 0 n ((n - 0) / 2)) j \/ _
 rw [K_mirror hz, K_mirror hz, akJ (by omega), akJ (by omega)]
 unfold turned
 rw [akJ (by omega), akJ (by omega)]
 exact hs _ _ (by omega) (by omega)
structure yT (xs : Array Keyed) (ι : Nat -> Nat) (p x : Nat) : Prop where
 f : Ci xs ι p
 l : ∀ i j, i < p -> p <= j -> j < x -> PyProof.Rows.K xs j < PyProof.Rows.K xs i
 e : ∀ i j, p <= i -> i < j -> j < x -> PyProof.Rows.K xs i = PyProof.Rows.K xs j /\ ι i < ι j
theorem yT.one {xs : Array Keyed} {ι : Nat -> Nat} {p : Nat} (h : yT xs ι p (p + 1)) : Ci xs ι (p + 1) := fun i j Iu hj => by
 by_cases e : j < p
 . exact h.f i j Iu e
 . exact .inl (h.l i j (by omega) (by omega) hj)
theorem yT.turn {xs : Array Keyed} {ι : Nat -> Nat} {p x : Nat} (h : yT xs ι p x) (hx : x <= xs.size) : Ci (mirror xs p x ((x - p) / 2)) (turned ι p x) x := by
 intro i j Iu hj
 rw [K_mirror hx, K_mirror hx]
 unfold turned
 by_cases hi : p <= i
 . rw [akJ (by omega), akJ (by omega), akJ (by omega), akJ (by omega)]
   have q := h.e (p + x - 1 - j) (p + x - 1 - i) (by omega) (by omega) (by omega)
   exact .inr ⟨q.1, q.2⟩
 . rw [akH (show ¬ (p <= i /\ i < x) by omega), akH (show ¬ (p <= i /\ i < x) by omega)]
   by_cases hjp : p <= j
   . rw [akJ (by omega), akJ (by omega)]
     exact .inl (h.l _ _ (by omega) (by omega) (by omega))
   . rw [akH (by omega), akH (by omega)]
     exact h.f i j Iu (by omega)
theorem Ci.le {xs : Array Keyed} {ι : Nat -> Nat} {n : Nat} (h : Ci xs ι n) {i j : Nat} (Iu : i <= j) (hj : j < n) : PyProof.Rows.K xs j <= PyProof.Rows.K xs i := by
 by_cases e : i = j
 . subst e; exact Int.le_refl _
 . rcases h i j (by omega) hj with z | z <;> omega
theorem Ci.half {xs : Array Keyed} {ι : Nat -> Nat} {x : Nat} (h : Ci xs ι x) (hx : 0 < x) (hl : PyProof.Rows.K xs x < PyProof.Rows.K xs (x - 1)) : yT xs ι x (x + 1) :=
 ⟨h, fun i j hi h1 h2 => by
   have e : j = x := by omega
   subst e
   have := h.le (i := i) (j := j - 1) (by omega) (by omega)
   omega, fun i j h1 h2 h3 => by omega⟩
theorem Pn {st : SortSt} {ι : Nat -> Nat} {n gQ : Nat} {Q : DescSt -> SortSt -> Prop} (h0 : IntKeys a₀) (hn : gQ <= a₀.size) (WO : n + 1 <= gQ) (hB : SBase a₀ st)
   (ht : Tag a₀ (arrOf st) ι (n + 1)) (hs : yT (arrOf st) ι n (n + 1))
   (h : ∀ m B5 z κ, SBase a₀ z -> n + 1 <= m -> m <= gQ -> B5 + 1 <= m -> Tag a₀ (arrOf z) κ m -> yT (arrOf z) κ (m - (B5 + 1)) m -> Q (none, m, B5) z) :
   wpS (model prog w) A E s (descLoop (n + 1) gQ) Q st := by
 unfold descLoop
 refine amn (I := fun x c z => ∃ B5 κ, c = (none, x, B5) /\ SBase a₀ z /\ B5 + 1 <= x /\ Tag a₀ (arrOf z) κ x /\ yT (arrOf z) κ (x - (B5 + 1)) x) ?one ?all ⟨0, ι, rfl, hB, by omega, ht, hs⟩
 case all =>
   rintro c z ⟨B5, κ, rfl, b2, q, t, o⟩
   have e : max (n + 1) gQ = gQ := by omega
   rw [e] at q t o ⊢
   exact h gQ B5 z κ b2 WO (akG _) q t o
 case one =>
   rintro x c z hax hxn ⟨B5, κ, rfl, b2, q, t, o⟩
   dsimp only
   have hz : x <= (arrOf z).size := by rw [b2.size]; omega
   refine alm (wpS_ltK b2 h0 (by omega) (by omega) ?_)
   by_cases hl : PyProof.Rows.K (arrOf z) x < PyProof.Rows.K (arrOf z) (x - 1)
   . simp only [hl, decide_true, al8]
     by_cases hq : B5 > 0
     . rw [akJ hq]
       have hm : ∀ k, PyProof.Rows.K (mirror (arrOf z) (x - (B5 + 1)) x ((x - (x - (B5 + 1))) / 2)) k = PyProof.Rows.K (arrOf z) k := K_mirror_equal hz fun k k1 k2 => by
         by_cases e : k = x - 1
         . rw [e]
         . exact (o.e k (x - 1) k1 (by omega) (by omega)).1
       refine alm (wpS_reverse (alz ⟨0, turned κ (x - (B5 + 1)) x, rfl, b2.setArr (mirror_perm _ _ _ _), by omega, (t.turn (akG _) (by omega) b2.size).grow, ?_⟩))
       have hf := o.turn hz
       refine hf.half (by omega) ?_
       rw [hm, hm]
       exact hl
     . rw [akH hq]
       have e0 : B5 = 0 := by omega
       subst e0
       obtain ⟨y, rfl⟩ : ∃ y, x = y + 1 := ⟨x - 1, by omega⟩
       have hf : Ci (arrOf z) κ (y + 1) := yT.one o
       exact alz ⟨0, κ, rfl, b2, by omega, t.grow, hf.half (by omega) hl⟩
   . simp only [hl, decide_false, aln, alZ]
     refine alm (wpS_ltK b2 h0 (by omega) (by omega) ?_)
     by_cases hg : PyProof.Rows.K (arrOf z) (x - 1) < PyProof.Rows.K (arrOf z) x
     . simp only [hg, decide_true, al8]
       exact alz (h x B5 z κ b2 hax (by omega) q t o)
     . simp only [hg, decide_false, aln, alZ]
       have he : PyProof.Rows.K (arrOf z) x = PyProof.Rows.K (arrOf z) (x - 1) := Int.le_antisymm (Int.not_lt.mp hg) (Int.not_lt.mp hl)
       refine alz ⟨B5 + 1, κ, rfl, b2, by omega, t.grow, ?_⟩
       rw [show x + 1 - (B5 + 1 + 1) = x - (B5 + 1) by omega]
       refine ⟨o.f, fun i j hi h1 h2 => ?_, fun i j h1 h2 h3 => ?_⟩
       . by_cases e : j = x
         . rw [e, he]
           exact o.l i (x - 1) hi (by omega) (by omega)
         . exact o.l i j hi h1 (by omega)
       . by_cases e : j = x
         . subst e
           have l1 := t.lo i h2
           have l2 := t.hi j (akG _)
           refine ⟨?_, by omega⟩
           rw [he]
           by_cases e2 : i = j - 1
           . rw [e2]
           . exact (o.e i (j - 1) h1 (by omega) (by omega)).1
         . exact o.e i j h1 h2 (by omega)
theorem DN {st : SortSt} {ι : Nat -> Nat} {n gQ : Nat} {Q : Option Nat -> SortSt -> Prop} (h0 : IntKeys a₀) (hn : gQ <= a₀.size) (WO : n + 1 <= gQ) (hB : SBase a₀ st)
   (ht : Tag a₀ (arrOf st) ι (n + 1)) (hs : yT (arrOf st) ι n (n + 1))
   (h : ∀ m z κ, SBase a₀ z -> 1 <= m -> m <= gQ -> Tag a₀ (arrOf z) κ m -> qV (arrOf z) κ m -> Q (some m) z) :
   wpS (model prog w) A E s (descPart n gQ) Q st := by
 unfold descPart
 refine alm (wpS_lift (wpAny_rule ⟨rfl, ?_⟩))
 refine alm (Pn h0 hn WO hB ht hs fun m B5 z κ b2 m1 m2 q t o => ?_)
 dsimp only
 have hz : m <= (arrOf z).size := by rw [b2.size]; omega
 by_cases hq : B5 > 0
 . rw [akJ hq]
   exact alm (wpS_reverse (Iw h0 hn (by omega) m2 (b2.setArr (mirror_perm _ _ _ _)) (t.turn (akG _) (by omega) b2.size) (o.turn hz) h))
 . rw [akH hq]
   have e0 : B5 = 0 := by omega
   subst e0
   obtain ⟨y, rfl⟩ : ∃ y, m = y + 1 := ⟨m - 1, by omega⟩
   exact Iw h0 hn (by omega) m2 b2 t (yT.one o) h
theorem Sh {st : SortSt} {gQ : Nat} {Q : Option Nat -> SortSt -> Prop} (h0 : IntKeys a₀) (hn : gQ <= a₀.size) (h1 : 1 <= gQ) (hB : SBase a₀ st) (ht : Tag a₀ (arrOf st) id 0)
   (h : ∀ m z κ, SBase a₀ z -> 1 <= m -> m <= gQ -> Tag a₀ (arrOf z) κ m -> qV (arrOf z) κ m -> Q (some m) z) :
   wpS (model prog w) A E s (countRun' 0 gQ) Q st := by
 rw [countRun0_eq]
 refine alm (Iv (ι := id) h0 hn (akG 1) h1 hB (ht.agS (by omega)) (fun i j Iu hj => by omega) fun n n1 n2 t o hor => ?_)
 dsimp only
 by_cases WO : n = gQ
 . rw [if_pos (by simpa using WO)]
   exact alz (h n st id hB n1 n2 t o)
 . rw [if_neg (by simpa using WO)]
   have vo := hor.resolve_left WO
   have hz : n <= (arrOf st).size := by rw [hB.size]; omega
   by_cases hgt : n > 1
   . rw [akJ hgt]
     refine alm (wpS_ltK hB h0 (by omega) (by omega) ?_)
     by_cases hr : PyProof.Rows.K (arrOf st) 0 < PyProof.Rows.K (arrOf st) (n - 1)
     . simp only [hr, decide_true, al8]
       exact alz (h n st id hB n1 n2 t o)
     . simp only [hr, decide_false, aln, alZ]
       have hal : ∀ k, 0 <= k -> k < n -> PyProof.Rows.K (arrOf st) k = PyProof.Rows.K (arrOf st) (n - 1) := fun k _ hk => by
         have a1 := o.le (i := 0) (j := k) (by omega) hk
         have a2 := o.le (i := k) (j := n - 1) (by omega) (by omega)
         omega
       have hm := K_mirror_equal (i := 0) hz hal
       refine alm (wpS_reverse (DN (ι := turned id 0 n) h0 hn (by omega) (hB.setArr (mirror_perm _ _ _ _)) (t.turn (akG _) (by omega) hB.size).grow ?_ h))
       have hh : yT (arrOf st) id 0 n := ⟨fun i j _ hj => by omega, fun i j hi => by omega, fun i j i1 i2 i3 => ⟨by rw [hal i (by omega) (by omega), hal j (by omega) i3], i2⟩⟩
       refine (hh.turn hz).half (by omega) ?_
       rw [hm, hm]
       exact vo
   . rw [akH hgt]
     have e1 : n = 1 := by omega
     subst e1
     exact DN h0 hn (by omega) hB t.grow ((show Ci (arrOf st) id 1 from fun i j Iu hj => by omega).half (by omega) vo) h
theorem abL {l r k x : Nat} (h1 : l <= r) (h2 : r <= k) (h3 : r - l <= k - x) (h4 : ¬ l ≥ r) : l <= (l + r) / 2 /\ (l + r) / 2 <= k /\ (l + r) / 2 - l <= k - (x + 1) /\ (l + r) / 2 + 1 <= r /\ r - ((l + r) / 2 + 1) <= k - (x + 1) /\ (l + r) / 2 < k := by
 have a : l <= (l + r) / 2 := by omega
 have b : (l + r) / 2 < r := by omega
 generalize (l + r) / 2 = m at a b
 clear h1
 refine ⟨a, ?_, ?_, b, ?_, ?_⟩ <;> omega
theorem Si {st : SortSt} {ι : Nat -> Nat} {n ok : Nat} {Q : Bool -> SortSt -> Prop} (h0 : IntKeys a₀) (hn : n <= a₀.size) (dJ : ok <= n) (ho1 : 1 <= ok) (hB : SBase a₀ st) (ht : Tag a₀ (arrOf st) ι ok) (hs : qV (arrOf st) ι ok)
   (h : ∀ z κ, SBase a₀ z -> Tag a₀ (arrOf z) κ n -> qV (arrOf z) κ n -> Q true z) : wpS (model prog w) A E s (binarySort' 0 n ok) Q st := by
 rw [binarySort'_eq]
 simp only [Nat.zero_add]
 refine alm (wpS_mono (amn (I := fun k c z => c = (none, ()) /\ SBase a₀ z /\ ∃ κ, Tag a₀ (arrOf z) κ k /\ qV (arrOf z) κ k)
   (Q := fun c z => c = (none, ()) /\ SBase a₀ z /\ ∃ κ, Tag a₀ (arrOf z) κ n /\ qV (arrOf z) κ n) ?one ?all ?new) ?post)
 case post =>
   rintro c z ⟨rfl, b2, κ, t, o⟩
   exact alz (h z κ b2 t o)
 case new =>
   rw [show max ok 1 = ok by omega]
   exact ⟨rfl, hB, ι, ht, hs⟩
 case all =>
   rintro c z ⟨hc, b2, κ, t, o⟩
   rw [show max (max ok 1) n = n by omega] at t o
   exact ⟨hc, b2, κ, t, o⟩
 case one =>
   rintro k c z hak hkn ⟨rfl, b2, κ, t, o⟩
   have hk : k < a₀.size := by omega
   refine alm (wpS_mono (amn (I := fun x c y => y = z /\ ∃ l r, c = (none, l, r) /\ l <= r /\ r <= k /\ r - l <= k - x /\ (∀ i, i < l -> PyProof.Rows.K (arrOf z) i <= PyProof.Rows.K (arrOf z) k) /\ (∀ i, r <= i -> i < k -> PyProof.Rows.K (arrOf z) k < PyProof.Rows.K (arrOf z) i))
     (Q := fun c y => y = z /\ ∃ l r, c = (none, l, r) /\ l <= k /\ (∀ i, i < l -> PyProof.Rows.K (arrOf z) i <= PyProof.Rows.K (arrOf z) k) /\ (∀ i, l <= i -> i < k -> PyProof.Rows.K (arrOf z) k < PyProof.Rows.K (arrOf z) i)) ?two ?fin ?beg) ?DP)
   case beg => exact ⟨rfl, 0, k, rfl, by omega, by omega, by omega, fun i hi => by omega, fun i g1 g2 => by omega⟩
   case fin =>
     rintro c y ⟨rfl, l, r, rfl, g1, g2, g3, g4, g5⟩
     have e : l = r := by omega
     subst e
     exact ⟨rfl, l, l, rfl, g2, g4, g5⟩
   case two =>
     rintro x c y _ hxk ⟨rfl, l, r, rfl, g1, g2, g3, g4, g5⟩
     dsimp only
     by_cases hge : l ≥ r
     . rw [akJ hge]
       have e : l = r := by omega
       subst e
       exact alz ⟨rfl, l, l, rfl, g2, g4, g5⟩
     . rw [akH hge]
       have M := abL g1 g2 g3 hge
       refine alm (wpS_ltK b2 h0 hk (Nat.lt_trans M.2.2.2.2.2 hk) ?_)
       by_cases hl : PyProof.Rows.K (arrOf y) k < PyProof.Rows.K (arrOf y) ((l + r) / 2)
       . simp only [hl, decide_true, al8]
         exact alz ⟨rfl, l, (l + r) / 2, rfl, M.1, M.2.1, M.2.2.1, g4, fun i i1 i2 => Int.lt_of_lt_of_le hl (o.le i1 i2)⟩
       . simp only [hl, decide_false, aln, alZ]
         exact alz ⟨rfl, (l + r) / 2 + 1, r, rfl, M.2.2.2.1, g2, M.2.2.2.2.1, fun i i1 => Int.le_trans (o.le (i := i) (j := (l + r) / 2) (Nat.lt_succ_iff.mp i1) M.2.2.2.2.2) (Int.not_lt.mp hl), g5⟩
   case DP =>
     rintro c y ⟨rfl, l, r, rfl, g2, g4, g5⟩
     show wpS _ _ _ _ (do moveDown' k l; pure (ForInStep.yield (none, ()))) _ _
     rw [moveDown'_eq]
     have hks : k < (arrOf y).size := by rw [b2.size]; exact hk
     refine alm (wpS_modify (alz ⟨rfl, b2.setArr (bubble_perm _ _ _), Pk κ k l, t.sink g2 hk b2.size, ?_⟩))
     intro i j Iu hj
     show PyProof.Rows.K (bubble (arrOf y) k (k - l)) i < PyProof.Rows.K (bubble (arrOf y) k (k - l)) j \/ (PyProof.Rows.K (bubble (arrOf y) k (k - l)) i = PyProof.Rows.K (bubble (arrOf y) k (k - l)) j /\ _)
     rw [K_bubble hks (by omega), K_bubble hks (by omega), show k - (k - l) = l by omega]
     unfold Pk
     have tk := t.hi k (akG _)
     by_cases ei : i = l
     . rw [akJ ei, akJ ei, akH (show ¬ j = l by omega), akH (show ¬ j = l by omega), akJ (by omega), akJ (by omega)]
       exact .inl (g5 _ (by omega) (by omega))
     . rw [akH ei, akH ei]
       by_cases ej : j = l
       . rw [akJ ej, akJ ej, akH (by omega), akH (by omega)]
         have := g4 i (by omega)
         have := t.lo i (by omega)
         omega
       . rw [akH ej, akH ej]
         by_cases hi : l < i /\ i <= k
         . rw [akJ hi, akJ hi, akJ (by omega), akJ (by omega)]
           exact o _ _ (by omega) (by omega)
         . rw [akH hi, akH hi]
           by_cases hj2 : l < j /\ j <= k
           . rw [akJ hj2, akJ hj2]
             exact o _ _ (by omega) (by omega)
           . rw [akH hj2, akH hj2]
             exact o _ _ (by omega) (by omega)
noncomputable def Sj (a₀ : Array Keyed) (st : SortSt) : Prop := failedOf st = none /\ pendingOf st = #[(0, a₀.size, 0)] /\ ∃ κ, Tag a₀ (arrOf st) κ a₀.size /\ qV (arrOf st) κ a₀.size /\ (arrOf st).size = a₀.size
theorem Z7 {st : SortSt} {κ : Nat -> Nat} (hB : SBase a₀ st) (t : Tag a₀ (arrOf st) κ a₀.size) (o : qV (arrOf st) κ a₀.size) : Sj a₀ (setPending st ((pendingOf st).push (0, a₀.size, 0))) :=
 ⟨hB.failed, by show (pendingOf st).push _ = _; rw [hB.pend]; rfl, κ, t, o, hB.size⟩
theorem Pp {st : SortSt} {Q : Unit -> SortSt -> Prop} (h0 : IntKeys a₀) (hB : SBase a₀ st) (ht : Tag a₀ (arrOf st) id 0) (h2 : 2 <= a₀.size) (Z8 : a₀.size < 64)
   (h : ∀ z κ, failedOf z = none -> Tag a₀ (arrOf z) κ a₀.size -> qV (arrOf z) κ a₀.size -> (arrOf z).size = a₀.size -> Q () z) : wpS (model prog w) A E s sortRuns' Q st := by
 rw [sortRuns'_eq]
 refine alm (wpS_get ?_)
 dsimp only
 have hmr : minRun' a₀.size a₀.size 0 = a₀.size := by
   obtain ⟨f, hf⟩ : ∃ f, a₀.size = f + 1 := ⟨a₀.size - 1, by omega⟩
   have q : minRun' (f + 1) a₀.size 0 = a₀.size := by
     rw [minRun'_succ, akJ Z8]
     rfl
   rwa [← hf] at q
 rw [hB.size, hmr]
 refine alm (wpS_mono (amn (I := fun x c z => (x = 0 /\ c = (none, 0) /\ SBase a₀ z /\ Tag a₀ (arrOf z) id 0) \/ (1 <= x /\ c = (none, a₀.size) /\ Sj a₀ z))
   (Q := fun c z => c = (none, a₀.size) /\ Sj a₀ z) ?one ?all (.inl ⟨rfl, rfl, hB, ht⟩)) ?DP)
 case all =>
   rintro c z (⟨hx, _⟩ | ⟨_, hc, hD⟩)
   . omega
   . exact ⟨hc, hD⟩
 case one =>
   rintro x c z _ hx (⟨rfl, rfl, b2, t0⟩ | ⟨hx1, rfl, hD⟩)
   . dsimp only
     rw [akH (by omega)]
     rw [Nat.sub_zero, Nat.min_self, Nat.zero_add]
     refine alm (Sh h0 (akG _) (by omega) b2 t0 fun m z2 κ b3 m1 m2 t o => ?_)
     dsimp only
     by_cases hl : m < a₀.size
     . rw [akJ hl]
       refine alm (wpS_lift (wpAny_rule ⟨rfl, ?_⟩))
       refine alm (Si h0 (akG _) m2 m1 b3 t o fun z3 κ3 b4 t4 o4 => ?_)
       simp only [Bool.not_true, aln, alZ]
       refine alm (wpS_get ?_)
       have hb : (pendingOf z3).back? = none := by rw [b4.pend]; rfl
       rw [hb]
       dsimp only
       exact alm (wpS_modify (alz (.inr ⟨by omega, by first | rfl | rw [Nat.zero_add], Z7 b4 t4 o4⟩)))
     . rw [akH hl]
       have hm : m = a₀.size := by omega
       subst hm
       refine alm (wpS_get ?_)
       have hb : (pendingOf z2).back? = none := by rw [b3.pend]; rfl
       rw [hb]
       dsimp only
       exact alm (wpS_modify (alz (.inr ⟨by omega, by first | rfl | rw [Nat.zero_add], Z7 b3 t o⟩)))
   . dsimp only
     rw [akJ (akG _)]
     exact alz ⟨rfl, hD⟩
 case DP =>
   rintro c z ⟨rfl, hD⟩
   dsimp only
   refine alm (wpS_mono (amn (I := fun _ c y => y = z /\ c = (none, ())) (Q := fun c y => y = z /\ c = (none, ())) ?_ (fun _ _ q => q) ⟨rfl, rfl⟩) ?_)
   . rintro x c y _ _ ⟨rfl, rfl⟩
     refine alm (wpS_get ?_)
     rw [akJ (by rw [hD.2.1]; exact akG 1)]
     exact alz ⟨rfl, rfl⟩
   . rintro c y ⟨rfl, rfl⟩
     obtain ⟨κ, t, o, z1⟩ := hD.2.2
     exact alz (h _ κ hD.1 t o z1)
end
theorem EK {a c : List Int} (p : a.Perm c) (s : a.Pairwise (· ≥ ·)) : a = (sortI c).reverse := by
 have h := Ik ((List.reverse_perm a).trans p) (List.pairwise_reverse.mpr (s.imp fun h => h))
 rw [← h, List.reverse_reverse]
section
variable {X : Cx}
noncomputable def tSR (K : PySem.W.Frag) (t : TA) : TE := fun σ H Q => t σ H fun vs H1 => ∃ p ns, vs = [.ref p] /\ mC K H1 p (ns.map .int) /\ ns.length < 64 /\ ∀ l, H1 l = none -> Q (.ref l) (upd H1 l (.lst ((sortI ns).reverse.map .int)))
theorem KL {e : Expr} {t : TA} {p pos p1 p2 : Pos} {kj : Nat} (hg : Gl X "sorted") (hm : X.mg "sorted" = none) (ha : PA X [e] t) (hs : starEach [e] X.env = (false, eval e X.env) :: starEach [] X.env) :
   PE X (.Call (.Name "sorted" p) [e] [⟨some "reverse", .Constant (.bool true) kj p1, p2⟩] pos) (tSR X.K t) := by
 intro pins s σ H Q I h
 have hk : PK X [⟨some "reverse", .Constant (.bool true) kj p1, p2⟩] (HG (tC (.bl true)) Kn) := Ng ZF Rb
 refine alP (w6 I hg hm pB ?_)
 refine callWith_kw (eB (ha pos pins s σ H _ I h) fun us s1 zz => ?_) (by rw [hs]; rfl) (by rw [hs]; rfl) rfl rfl
 obtain ⟨vs, H1, I1, r1, q1⟩ := zz
 refine eB (hk pos pins s1 σ H1 (fun zs H2 => zs = [.bl true] /\ H2 = H1) I1 ⟨rfl, rfl⟩) fun ws s2 zz => ?_
 obtain ⟨zs, H2, I2, rz, e1, e2⟩ := zz
 subst e1
 subst e2
 obtain ⟨u, rfl, ru⟩ := rz.one
 cases ru
 obtain ⟨q, ns, rfl, hq, hl, kk⟩ := q1
 obtain ⟨v, rfl, rv⟩ := r1.one
 cases rv
 obtain ⟨its, r', pl, hz⟩ := I2.list hq
 have hlen := r'.length
 rw [akD] at hlen
 show wpAny _ _ (call (.builtin "sorted") [.ref q] [(Str.ofString "reverse", .bool true)]) _ _ s2
 refine sorted_ints_rev pl.isList (intsAre_of r') (by omega) fun out ns' a1 a2 a3 => ?_
 obtain ⟨en, he⟩ := sortedAll_at s2.heap its out
 have e3 : ns' = (sortI ns).reverse := EK a2 a3
 subst e3
 refine ⟨.ref (s2.heap.objs.size + 1), _, I2.laid (t' := s2.toks) (fun _ _ => sortedAll_old) (alL _) (show eV X.prog X.w _ _ _ (.lst ((sortI ns).reverse.map .int)) from ⟨?_, out.toList, en, pA a1, ?_⟩), rfl, kk _ (I2.dJ.fresh (alL _))⟩
 . rw [akD, List.length_reverse, DM]
   rw [akD] at hz
   exact hz
 . simpa using he
end
section
variable {X : Cx} {CL : Str -> Addr} {b : Bx} {δ δ1 : List (Option T)} {e : Expr} {pos pp p1 p2 : Pos} {kj : Nat}
theorem KN {l : List Int} (hm : X.mg "sorted" = none) (h : dU X CL b e δ (.lst (l.map .int)) δ1) (hl : l.length < 64) (hg : Gl X "sorted") (hs : starEach [e] X.env = (false, eval e X.env) :: starEach [] X.env := by exact bw rfl) :
   cJ X CL b (.Call (.Name "sorted" pp) [e] [⟨some "reverse", .Constant (.bool true) kj p1, p2⟩] pos) δ (.lst (((sortI l).reverse.map .int).map T.sh)) δ1 := fun H Z σ ts vs Q S k =>
 cL (KL hg hm (b8 dW dM hs) hs) (h H Z σ ts vs _ S fun v H1 Z1 z1 k1 S1 r => by
   cases r with
   | @lst a us _ hq rr =>
     have := sF rr
     subst this
     refine ⟨a, l, rfl, hq, hl, fun p hp => ?_⟩
     obtain ⟨c, S2⟩ := (bA.mD (ints_rep (sortI l).reverse) S1).jD (g0 := []) (by simp) hp
     exact k _ _ _ z1 (k1.trans c) S2)
end
section
variable {X : Cx} {i : Nat} {x : Str}
theorem mkL (hi : X.N[i]? = some x) (h : X.env.scope.names.lookup x = some .local) (hf : X.fn x = true) (hd : (x == ("__debug__" : Str)) = false := by decide) (hc : (x == ("__classdict__" : Str)) = false := by decide) : Ln X i x := ⟨⟨hi, .inl h, hd, hc⟩, .inl h, .inl hf⟩
theorem mkC (hi : X.N[i]? = some x) (h : X.env.scope.names.lookup x = some .cell) (hf : X.fn x = true) (hd : (x == ("__debug__" : Str)) = false := by decide) (hc : (x == ("__classdict__" : Str)) = false := by decide) : Ln X i x := ⟨⟨hi, .inr (.inl h), hd, hc⟩, .inr h, .inl hf⟩
end
theorem dP {P : Program} {w : World} {K : PySem.W.Frag} {mg : Str -> Option Value} {base : Heap} {k : Nat} {f : Addr} {fd : FuncData} {ps : List Str} {sp : Sp} {x : Str} (G : bN P w K mg base fO k f fd ps sp) (m : mg x = some (.ref f)) (q : PySem.W.keepIn K (.ref f) = true) (b : Binds K fd ps []) :
   ∃ f fd ps, bN P w K mg base fO k f fd ps sp /\ mg x = some (.ref f) /\ PySem.W.keepIn K (.ref f) = true /\ Binds K fd ps [] := ⟨_, _, _, G, m, q, b⟩
section
variable {X : Cx} {CL : Str -> Addr} {b : Bx} {δ δ1 δc : List (Option T)} {scope : Scope} {y : Str} {Nc : List Str} {ix : List Nat} {elt iter : Expr} {ifs : List Expr} {px pc pos : Pos} {p : L3.D -> Bool} {g : L3.D -> T} {ds : List L3.D}
theorem aen (sc : iG X scope y Nc ix) : qU X scope [y] Nc ix := ⟨sc.kind, sc.xm, sc.nd, sc.names, (fun x hx => by rw [alg] at hx; subst hx; exact sc.own), sc.frees, sc.hd, sc.ZU⟩
theorem aeo (sc : iG X scope y Nc ix) (h : Block X CL scope Nc ifs elt δc ds p g) (h1 : (y == ("__debug__" : Str)) = false) (h2 : (y == ("__classdict__" : Str)) = false) : xu X CL scope Nc [y].length (.Name y px) part1 ifs elt δc ds p g := fun C s0 H0 f0 b' =>
 ⟨R0 (i := 0) sc.nd (abH (by rw [sc.hd]; rfl) sc.own h1 h2), fun d hd => ⟨[d], rfl, rfl, (h C s0 H0 f0 b' d hd).1, (h C s0 H0 f0 b' d hd).2⟩⟩
theorem mK (sc : iG X scope y Nc ix) (hc : X.calm = true) (h : Vx X CL b (.Name y px) iter δ ds δ1) (hb : (δc = Ce δ1 ix /\ ∀ d ∈ ds, (g d).clean = true) \/ δc = HX δ1 ix) (inner : Block X CL scope Nc ifs elt δc ds p g) (hlen : ds.length <= sizeLine)
   (hs : ∀ x, foldedSetIterable iter X.env x = pure x := by intro _; rfl) (h1 : (y == ("__debug__" : Str)) = false := by decide) (h2 : (y == ("__classdict__" : Str)) = false := by decide) : cJ X CL b (.ListComp elt [⟨.Name y px, iter, ifs, 0⟩] scope pos) δ (.lst ((ds.filter p).map g)) δ1 :=
 Ij (xs := [y]) (aen sc) hc (ZW h) hb (aeo sc inner h1 h2) hlen hs
theorem KP {D : cE} {d8 : List Stmt} {i : Nat} {x : Str} {pos' : Pos} {gg : L3.D -> T} (g : Gx X) (n : Ln X i x) (sc : iG X scope y Nc ix) (h : Vx X CL b (.Name y px) iter δ ds δ1) (hb : (δc = Ce δ1 ix /\ ∀ d ∈ ds, (gg d).clean = true) \/ δc = HX δ1 ix) (inner : Block X CL scope Nc ifs elt δc ds p gg)
   (hlen : ds.length <= sizeLine) (k : eL X CL b d8 (δ1.set i (some (.lst ((ds.filter p).map gg)))) D) (hl : i < δ1.length)
   (Cd : swapsWith (.ListComp elt [⟨.Name y px, iter, ifs, 0⟩] scope pc) (some (.Name x pos')) pos.line X.env = pure true \/ swapsWith (.ListComp elt [⟨.Name y px, iter, ifs, 0⟩] scope pc) (some (.Name x pos')) pos.line X.env = pure false) (hs : ∀ x, foldedSetIterable iter X.env x = pure x := by intro _; rfl)
   (h1 : (y == ("__debug__" : Str)) = false := by decide) (h2 : (y == ("__classdict__" : Str)) = false := by decide) : eL X CL b (.Assign [.Name x pos'] (.ListComp elt [⟨.Name y px, iter, ifs, 0⟩] scope pc) pos :: d8) δ D :=
 abG (xs := [y]) g n (aen sc) (ZW h) hb (aeo sc inner h1 h2) hlen k hl Cd hs
end
section
variable {X : Cx} {CL : Str -> Addr} {b : Bx} {δ : List (Option T)} {i : Nat} {x : Str} {d : L3.D} {pos : Pos}
theorem bD (n : Ln X i x) (h : δ[i]? = some (some (.sh d)) := by rfl) : dU X CL b (.Name x pos) δ d δ := aq (v_ n.1 h)
end
structure cy (X : Cx) : Prop where
 g : Gx X
 u : X.A.units + 64 < cLine
noncomputable abbrev aE (X : Cx) (CL : Str -> Addr) (b : Bx) (st : Stmt) (N : List Str) (l : List L3.D) (r : T) : Prop := eL X CL b (dS st) (entry N l) { nx := fun _ => r = .sh .non, rt := fun WQ _ => WQ = r }
noncomputable abbrev aH : NameKind := .globalImplicit
noncomputable abbrev av : NameKind := .local
theorem aW {N P : List Str} {sc : Scope} (h1 : sc.kind = .function := by rfl) (h2 : sc.isCoroutine = false := by rfl) (h3 : sc.isGenerator = false := by rfl) (h4 : N.Nodup := by decide +kernel) (h5 : N.take P.length = P := by rfl) (h6 : ∀ x ∈ P, sc.names.lookup x = some .local \/ sc.names.lookup x = some .cell := by decide +kernel) (h7 : ∀ y ∈ sc.names, y.2 ≠ .free := by decide +kernel) : aM N P sc := ⟨h1, h2, h3, h4, h5, h6, h7⟩
section
variable {X : Cx} {i : Nat} {x : Str} {tb : List (Str × NameKind)}
theorem bB (c : lG X.env.scope tb = true) (j : Nat) (hj : tb[j]? = some (x, .local) := by rfl) (hi : X.N[i]? = some x := by rfl) (hf : X.fn x = true := by rfl) (hd : (x == ("__debug__" : Str)) = false := by decide) (hc : (x == ("__classdict__" : Str)) = false := by decide) : Ln X i x := mkL hi (fQ c j hj) hf hd hc
theorem Sl (c : lG X.env.scope tb = true) (j : Nat) (hj : tb[j]? = some (x, .cell) := by rfl) (hi : X.N[i]? = some x := by rfl) (hf : X.fn x = true := by rfl) (hd : (x == ("__debug__" : Str)) = false := by decide) (hc : (x == ("__classdict__" : Str)) = false := by decide) : Ln X i x := mkC hi (fQ c j hj) hf hd hc
theorem eX (c : lG X.env.scope tb = true) (j : Nat) (hj : tb[j]? = some (x, .globalImplicit) := by rfl) : Gl X x := fQ c j hj
theorem fY {CL : Str -> Addr} {k n m : Nat} {A : Type} {arg : A -> List D} {Pre : A -> Prop} {res : A -> T} (F : ∃ f fd ps, bN X.prog X.w X.K X.mg X.base fO k f fd ps (mE X.K CL n arg Pre res) /\ X.mg x = some (.ref f) /\ PySem.W.keepIn X.K (.ref f) = true /\ Binds X.K fd ps []) (r : dg m X.A) (h : k <= m := by decide) : Fc X CL x k n arg Pre res := ⟨F, r.mono h⟩
end
section
variable {K : PySem.W.Frag} {CL : Str -> Addr} {b : Bx} {H H' Z Z' : Hp} {δ δ' : List (Option T)} {σ σ' : L2.St} {ts tl : List T} {vs us : List V} {t : T} {v : V} {y : Addr} {i : Nat}
theorem bA.aep (S : bA K CL b H Z δ σ ts vs) (hi : δ[i]? = some (some (.pin y t))) : σ[i]? = some (some (.ref y)) /\ bA K CL b H Z (δ.set i (some t)) σ ts vs := by
 obtain ⟨fp, gp, e, r, nd, k⟩ := S.rep
 obtain ⟨v0, f1, f2, f3, hv, qF, rt, put, _⟩ := e.get hi
 subst qF
 cases rt with
 | pin rt =>
   have e2 := put (.refl _) (fun _ _ => rfl) rt
   rw [eW hv] at e2
   exact ⟨hv, ⟨⟨_, gp, e2, r, nd, k⟩, S.bh, S.zz, S.zh, S.new, S.tp, S.tab⟩⟩
noncomputable def xA (H : Hp) (gp : List Addr) : Hp := fun c => if c ∈ gp then none else H c
theorem iU {gp : List Addr} {c : Addr} (h : c ∉ gp) : xA H gp c = H c := akH h
theorem sG {gp : List Addr} {c : Addr} (h : c ∈ gp) : xA H gp c = none := akJ h
theorem sH {gp : List Addr} {c : Addr} {o : HO} (h : xA H gp c = some o) : c ∉ gp /\ H c = some o := by
 by_cases hc : c ∈ gp
 . rw [sG hc] at h; cases h
 . rw [iU hc] at h; exact ⟨hc, h⟩
theorem bA.cut (S : bA K CL b H Z δ σ (tl ++ ts) (us ++ vs)) (hl : tl.length = us.length) : ∃ gp, aL K CL H Z tl us gp /\ gp.Nodup /\ bA K CL b (xA H gp) Z δ σ ts vs := by
 obtain ⟨fp, g, e, r, nd, k⟩ := S.rep
 obtain ⟨g1, g2, rfl, r1, r2⟩ := aL.split hl r
 have hp : (fp ++ (g1 ++ g2)).Perm (g1 ++ (fp ++ g2)) := by
   rw [← akx, ← akx]
   exact akY.append_right g2
 have J4 := ak5.mp (hp.nodup_iff.mp nd)
 have ne : ∀ c ∈ fp ++ g2, c ∉ g1 := fun c hc h => J4.2.2 c h c hc rfl
 have own : ∀ c ∈ g1, Z c = none /\ b.B c = none := fun c hc => k c (aky _ (akF _ hc))
 refine ⟨g1, r1, J4.1, ⟨⟨fp, g2, e.mono (.refl _) (fun c hc => iU (ne c (akF _ hc))), r2.mono (.refl _) (fun c hc => iU (ne c (aky _ hc))), J4.2.1, fun c hc => k c (hp.mem_iff.mpr (aky _ hc))⟩, fun c o q => ?_, S.zz, fun c o q => ?_, S.new, fun c o q im => S.tp c o (sH q).2 im, S.tab⟩⟩
 . rw [iU (fun h => by rw [(own c h).2] at q; cases q)]; exact S.bh c o q
 . rw [iU (fun h => by rw [(own c h).1] at q; cases q)]; exact S.zh c o q
theorem bA.Z9 {W' : Hp} {fp : List Addr} (S : bA K CL b H Z δ σ ts vs) (hh : aG H H') (ww : aG Z W') (wh : aG W' H') (new : ∀ a o, W' a = some o -> Z a = none -> H a = none)
   (tp : ∀ a o, H' a = some o -> j6 o = true -> W' a = some o) (r : aL K CL H' W' tl us fp) (nd : fp.Nodup) (own : ∀ a ∈ fp, W' a = none /\ H a = none) : bA K CL b H' W' δ σ (tl ++ ts) (us ++ vs) := by
 obtain ⟨f0, g0, e0, r0, nd0, k0⟩ := S.rep
 have old : ∀ a ∈ f0 ++ g0, ∃ o, H a = some o := fun a ha => (akC.mp ha).elim (e0.there a) (r0.there a)
 have keep : ∀ a ∈ f0 ++ g0, H' a = H a := fun a ha => by
   obtain ⟨o, e⟩ := old a ha
   rw [e]; exact hh a o e
 have hp : (f0 ++ (fp ++ g0)).Perm (fp ++ (f0 ++ g0)) := by
   rw [← akx, ← akx]
   exact akY.append_right g0
 have wn : ∀ a ∈ f0 ++ g0, W' a = none := fun a ha => by
   cases q : W' a with
   | none => rfl
   | some o =>
     obtain ⟨u, e⟩ := old a ha
     rw [new a o q (k0 a ha).1] at e; cases e
 refine ⟨⟨f0, fp ++ g0, e0.mono ww (fun a ha => keep a (akF _ ha)), aL.app r (r0.mono ww fun a ha => keep a (aky _ ha)), ?_, fun a ha => ?_⟩, S.bh.trans hh, S.zz.trans ww, wh, fun a o q z => ?_, tp, S.tab⟩
 . refine hp.nodup_iff.mpr (ak5.mpr ⟨nd, nd0, fun a ha c hc e => ?_⟩)
   subst e
   obtain ⟨o, q⟩ := old a hc
   rw [(own a ha).2] at q; cases q
 . rcases akC.mp (hp.mem_iff.mp ha) with h | h
   . exact ⟨(own a h).1, Kx S.bh (own a h).2⟩
   . exact ⟨wn a h, (k0 a h).2⟩
 . cases q2 : Z a with
   | none => exact Kx S.bh (new a o q q2)
   | some u =>
     exact S.new a u q2 z
noncomputable def WR : List T -> List T -> Prop
 | [], [] => True
 | .sh d :: l, .sh e :: m => d = e /\ WR l m
 | .pin x _ :: l, .pin z _ :: m => x = z /\ WR l m
 | _, _ => False
noncomputable def Keeps (δ : List (Option T)) (ol : List T) : Prop := ∀ (j : Nat) (y : Addr) (t : T), ol[j]? = some (T.pin y t) -> δ[j]? = some (some (T.pin y t))
theorem Keeps.tail {o : Option T} {d : T} {ol : List T} (k : Keeps (o :: δ) (d :: ol)) : Keeps δ ol := fun j y t h => k (j + 1) y t h
theorem eN.outs {W W' : Hp} (ww : aG W W') : ∀ {al ol : List T} {vs : List V} {g0 : List Addr} {δ : List (Option T)} {σ : L2.St} {fp : List Addr}, WR al ol -> aL K CL H W al vs g0 -> eN K CL H' W' δ σ fp -> Keeps δ ol -> ∃ g, aL K CL H' W' ol vs g /\ g.Sublist fp
 | [], [], _, _, _, _, fp, _, .nil, _, _ => ⟨[], .nil, List.nil_sublist _⟩
 | .sh d :: al, .sh e :: ol, _, _, δ, σ, fp, ho, .cons (.sh r) rs, re, k => by
   obtain ⟨h1, h2⟩ := ho
   subst h1
   cases re with
   | nil =>
     obtain ⟨g, q, s⟩ := eN.outs ww h2 rs (.nil (H := H') (Z := W')) (fun j y t h => by have := k (j + 1) y t h; simp at this)
     exact ⟨[] ++ g, .cons (.sh (r.mono ww)) q, s⟩
   | skip re =>
     obtain ⟨g, q, s⟩ := eN.outs ww h2 rs re k.tail
     exact ⟨[] ++ g, .cons (.sh (r.mono ww)) q, s⟩
   | cons rt re =>
     obtain ⟨g, q, s⟩ := eN.outs ww h2 rs re k.tail
     exact ⟨[] ++ g, .cons (.sh (r.mono ww)) q, s.trans (als _ _)⟩
 | .pin x t0 :: al, .pin z t :: ol, _, _, δ, σ, fp, ho, .cons (.pin r) rs, re, k => by
   obtain ⟨h1, h2⟩ := ho
   subst h1
   have h0 := k 0 x t rfl
   cases re with
   | nil => simp at h0
   | skip re => simp at h0
   | cons rt re =>
     simp at h0
     subst h0
     obtain ⟨g, q, s⟩ := eN.outs ww h2 rs re k.tail
     cases rt with
     | pin rt => exact ⟨_, .cons (.pin rt) q, ak4 (ak6 _) s⟩
noncomputable def xB (N : List Str) (al : List T) : List (Option T) := al.map some ++ List.replicate (N.length - al.length) none
theorem yE : ∀ {al : List T} {vs : List V} {gp : List Addr} (n : Nat), aL K CL H Z al vs gp -> eN K CL H Z (al.map some ++ List.replicate n none) (vs.map some ++ List.replicate n none) gp
 | _, _, _, n, .nil => jF (ds := []) (vs := []) n .nil
 | _, _, _, n, .cons r t => .cons r (yE n t)
noncomputable def Sn (K : PySem.W.Frag) (CL : Str -> Addr) {A : Type} (n : Nat) (arg : A -> List T) (Pre : A -> Prop) (res : A -> T) (out : A -> List T) : Sp := fun vs H Q _ =>
 ∃ (W : Hp) (a : A) (gp : List Addr), aG W (xA H gp) /\ (∀ c o, H c = some o -> j6 o = true -> W c = some o) /\ aL K CL H W (arg a) vs gp /\ gp.Nodup /\ (arg a).length = n /\ Pre a /\ oW CL W ∧
   ∀ v H' W' fp, aG (xA H gp) H' -> aG W W' -> aG W' H' -> (∀ c o, W' c = some o -> W c = none -> xA H gp c = none) -> (∀ c o, H' c = some o -> j6 o = true -> W' c = some o) →
     aL K CL H' W' (res a :: out a) (v :: vs) fp -> fp.Nodup -> (∀ c ∈ fp, W' c = none /\ xA H gp c = none) -> Q v H'
theorem EL {P : Program} {w : World} {mg : Str -> Option Value} {base : Heap} {x qual : Str} {st : Stmt} {f : Addr} {fd : FuncData} {N ps : List Str} {k : Nat} {A : Type} {arg : A -> List T} {Pre : A -> Prop} {res : A -> T} {out : A -> List T} (F : ki K x qual st f fd) (S : aM N ps (ao st)) (ho : ∀ a, Pre a -> WR (arg a) (out a))
   (hb : ∀ (dF : Value) (Ar : Around) (outer : List Env) (s : Shared) (H : Hp) (E : XK) (b : Bx) (a : A), dg k (Ar.deeper (envOfC qual (ao st) s.heap.objs.size f dF)) -> Pre a →
     eL (yR fO P w K mg base N qual (ao st) f dF Ar outer s H E).QM CL b (dS st) (xB N (arg a)) { nx := fun δ => res a = .sh .non /\ Keeps δ (out a), rt := fun t δ => t = res a /\ Keeps δ (out a) }) :
   bN P w K mg base fO (k + 1) f fd ps (Sn K CL ps.length arg Pre res out) := by
 refine F.ok S (fun vs H Q E h => ?_) (fun dF Ar outer s H vs Q E hr h => ?_)
 . obtain ⟨W, a, gp, _, _, r, _, hl, _⟩ := h
   rw [← r.length]; exact hl
 . obtain ⟨W, a, gp, wh, tp, r, nd, hl, hp, tb, kk⟩ := h
   have wn : ∀ c ∈ gp, W c = none := fun c hc => by
     cases q : W c with
     | none => rfl
     | some o => exact absurd hc (sH (wh c o q)).1
   refine ⟨_, QD, hb dF Ar outer s H E ⟨xA H gp, W⟩ a hr hp H W _ [] [] _ ⟨⟨gp, [], ?_, .nil, by rw [akK]; exact nd, fun c hc => ?_⟩, fun c o q => (sH q).2, .refl _, fun c o q => (sH (wh c o q)).2, fun c o q z => ?_, tp, tb⟩ ⟨fun δ' σ' H' Z' s' S' e => ?_, fun t v H' Z' δ' σ' s' S' e => ?_, fun _ _ _ _ _ _ e => e.elim, fun _ _ _ _ _ _ e => e.elim⟩⟩
   . unfold xB L2.start
     rw [← r.length]
     exact yE _ r
   . rw [akK] at hc
     exact ⟨wn c hc, sG hc⟩
   . have q' : W c = some o := q
     have z' : W c = none := z
     rw [q'] at z'; cases z'
   . obtain ⟨e1, e2⟩ := e
     obtain ⟨fp, gq, re, r', J4, own⟩ := S'.rep
     obtain ⟨g, q, sb⟩ := eN.outs S'.zz (ho a hp) r re e2
     have nf := (ak5.mp J4).1
     exact kk .non H' Z' ([] ++ g) S'.bh S'.zz S'.zh S'.new S'.tp (.cons (by rw [e1]; exact .sh .non) q) (nf.sublist sb) fun c hc => own c (akF _ (sb.subset hc))
   . obtain ⟨e1, e2⟩ := e
     subst e1
     obtain ⟨fp, gq, re, r', J4, own⟩ := S'.rep
     obtain ⟨g, q, sb⟩ := eN.outs S'.zz (ho a hp) r re e2
     cases r' with
     | @cons _ _ _ _ f1 f2 r1 r2 =>
       have sub : (g ++ f1).Sublist (fp ++ (f1 ++ f2)) := ak4 sb (List.sublist_append_left _ _)
       have pm : (f1 ++ g).Perm (g ++ f1) := akY
       exact kk v H' Z' (f1 ++ g) S'.bh S'.zz S'.zh S'.new S'.tp (.cons r1 q) (pm.nodup_iff.mpr (J4.sublist sub)) fun c hc => own c (sub.subset (pm.mem_iff.mp hc))
end
noncomputable def AtS (σ : L2.St) : List Nat -> List Addr -> Prop
 | [], [] => True
 | i :: is, y :: ys => σ[i]? = some (some (.ref y)) /\ AtS σ is ys
 | _, _ => False
noncomputable def oq : List T -> List Addr -> List T -> Prop
 | [], [], [] => True
 | .sh _ :: ol, ys, ns => oq ol ys ns
 | .pin y t :: ol, z :: ys, n :: ns => y = z /\ (n = t \/ n = .pin y t) /\ oq ol ys ns
 | _, _, _ => False
noncomputable def Pq : List (Option T) -> List Nat -> List T -> List (Option T)
 | δ, i :: is, n :: ns => Pq (δ.set i (some n)) is ns
 | δ, _, _ => δ
section
variable {K : PySem.W.Frag} {CL : Str -> Addr} {b : Bx} {H Z : Hp} {σ : L2.St} {ts : List T} {vs : List V}
theorem bA.WT : ∀ {ol : List T} {us : List V} {is : List Nat} {ys : List Addr} {ns : List T} {δ : List (Option T)}, bA K CL b H Z δ σ (ol ++ ts) (us ++ vs) -> ol.length = us.length -> AtS σ is ys -> oq ol ys ns -> (∀ i ∈ is, i < δ.length) -> bA K CL b H Z (Pq δ is ns) σ ts vs
 | [], [], [], [], [], δ, S, _, _, _, _ => S
 | [], [], _ :: _, [], _, δ, S, _, ha, _, _ => ha.elim
 | [], [], _ :: _, _ :: _, _, δ, S, _, _, hp, _ => by simp [oq] at hp
 | .pin _ _ :: _, _ :: _, [], _ :: _, _, δ, S, _, ha, _, _ => ha.elim
 | .pin _ _ :: _, _ :: _, [], [], _, δ, S, _, _, hp, _ => by simp [oq] at hp
 | .sh d :: ol, u :: us, is, ys, ns, δ, S, hl, ha, hp, hi => bA.WT (ol := ol) (us := us) (ys := ys) S.pop (by simpa using hl) ha (by rw [oq] at hp; exact hp) hi
 | .pin y t :: ol, u :: us, i :: is, z :: ys, n :: ns, δ, S, hl, ha, hp, hi => by
   rw [oq] at hp
   obtain ⟨rfl, hn, hp⟩ := hp
   obtain ⟨ha0, ha⟩ := ha
   have hu : u = .ref y := by
     obtain ⟨_, _, _, r, _, _⟩ := S.rep
     cases r with
     | cons r _ => cases r; rfl
   subst hu
   have hi0 := hi i akA
   have S1 := S.set hi0
   rw [eW ha0] at S1
   have S2 : bA K CL b H Z (δ.set i (some n)) σ (ol ++ ts) (us ++ vs) := by
     rcases hn with rfl | rfl
     . have := (S1.aep (List.getElem?_set_self hi0)).2
       rwa [List.set_set] at this
     . exact S1
   rw [Pq]
   exact bA.WT S2 (by simpa using hl) ha hp fun j hj => by rw [List.length_set]; exact hi j (List.mem_cons_of_mem _ hj)
end
section
variable {X : Cx} {CL : Str -> Addr} {b : Bx} {δ δ1 δ2 : List (Option T)} {e : Expr} {es : List Expr} {t : T} {d : L3.D} {pos pp : Pos} {D : cE} {i : Nat} {x : Str} {is : List Nat} {fx : List Addr -> Prop} {al : List Addr -> List T} {y : Addr}
noncomputable def NQ (X : Cx) (CL : Str -> Addr) (b : Bx) (e : Expr) (δ : List (Option T)) (t : T) (δ' : List (Option T)) : Prop :=
 ∀ (H Z : Hp) (σ : L2.St) (ts : List T) (vs : List V) (Q : VK), bA X.K CL b H Z δ σ ts vs -> (∀ v H' Z', aG Z Z' -> bA X.K CL b H' Z' δ' σ (t :: ts) (v :: vs) -> Q v H') -> Ca X e σ H Q
theorem Sq (h : NQ X CL b e δ t δ1) (k : D.nx δ1) (hs : swapsWith e none pos.line X.env = pure false := by rfl) : OZ X CL b (.Expr e pos) δ D := fun H Z σ ts vs E S M => om (sA dW hs) (h H Z σ ts vs _ S fun v H1 Z1 z1 S1 => M.nx δ1 σ H1 Z1 z1 S1.pop k)
theorem WU (i : Nat) {x : Str} {pos' : Pos} (h : NQ X CL b e δ t δ1) (k : D.nx (δ1.set i (some t))) (hl : i < δ1.length := by decide) (hN : X.N.Nodup := by assumption) (hi : X.N[i]? = some x := by rfl) (hx : Loc X.env.scope x := by first | exact .inl rfl | exact .inr rfl)
   (hs : swapsWith e (some (.Name x pos')) pos.line X.env = pure false := by rfl) (hf : X.fn x = true \/ X.env.scope.names.lookup x = some .local := by first | exact .inl rfl | exact .inr rfl | assumption) : OZ X CL b (.Assign [.Name x pos'] e pos) δ D := fun H Z σ ts vs E S M =>
 om (QS hN hi hx dW hs hf) (h H Z σ ts vs _ S fun v H1 Z1 z1 S1 => M.nx _ _ H1 Z1 z1 (S1.set hl) k)
noncomputable def QH (X : Cx) (CL : Str -> Addr) (b : Bx) (es : List Expr) (δ : List (Option T)) (is : List Nat) (fx : List Addr -> Prop) (al : List Addr -> List T) (δ' : List (Option T)) : Prop :=
 ∀ (H Z : Hp) (σ : L2.St) (ts : List T) (vs : List V) (Q : List V -> Hp -> Prop), bA X.K CL b H Z δ σ ts vs →
   (∀ ys us H' Z', ys.length = is.length -> AtS σ is ys -> fx ys -> us.length = (al ys).length -> aG Z Z' -> aG H H' -> bA X.K CL b H' Z' δ' σ ((al ys).reverse ++ ts) (us.reverse ++ vs) -> Q us H') -> OX X es σ H Q
theorem KQ : QH X CL b [] δ [] (fun _ => True) (fun _ => []) δ := fun H Z σ ts vs Q S k => Cb dM (k [] [] H Z rfl trivial trivial rfl (.refl _) (.refl _) S)
theorem vK (h1 : cJ X CL b e δ (.sh d) δ1) (h2 : QH X CL b es δ1 is fx al δ2) (hs : starEach (e :: es) X.env = (false, eval e X.env) :: starEach es X.env := by exact bw rfl) : QH X CL b (e :: es) δ is fx (fun ys => .sh d :: al ys) δ2 := fun H Z σ ts vs Q S k =>
 Cb (b8 dW Ex hs) (h1 H Z σ ts vs _ S fun v H1 Z1 z1 k1 S1 => h2 H1 Z1 σ _ _ _ S1 fun ys us H2 Z2 hy ha hf hl z2 k2 S2 => k ys (v :: us) H2 Z2 hy ha hf (by simp [hl]) (z1.trans z2) (k1.trans k2) (by
   rw [ali, ali, akx, akx]
   exact S2))
noncomputable def T.isRef : T -> Bool
 | .lst _ => true
 | .ins _ _ => true
 | .oj _ => true
 | .dct _ => true
 | _ => false
theorem bA.Ss {K : PySem.W.Frag} {H Z : Hp} {σ : L2.St} {ts : List T} {v : V} {vs : List V} (S : bA K CL b H Z δ σ (t :: ts) (v :: vs)) (h : t.isRef = true) : ∃ y, v = .ref y /\ bA K CL b H Z δ σ (.pin y t :: ts) (.ref y :: vs) := by
 obtain ⟨fp, gp, e, r, nd, k⟩ := S.rep
 cases r with
 | cons r rs =>
   cases r with
   | sh r => cases h
   | tup r _ => cases h
   | pin r => cases h
   | lst r q => exact ⟨_, rfl, ⟨⟨fp, _, e, .cons (.pin (.lst r q)) rs, nd, k⟩, S.bh, S.zz, S.zh, S.new, S.tp, S.tab⟩⟩
   | ins r q => exact ⟨_, rfl, ⟨⟨fp, _, e, .cons (.pin (.ins r q)) rs, nd, k⟩, S.bh, S.zz, S.zh, S.new, S.tp, S.tab⟩⟩
   | oj r q => exact ⟨_, rfl, ⟨⟨fp, _, e, .cons (.pin (.oj r q)) rs, nd, k⟩, S.bh, S.zz, S.zh, S.new, S.tp, S.tab⟩⟩
   | dct r q => exact ⟨_, rfl, ⟨⟨fp, _, e, .cons (.pin (.dct r q)) rs, nd, k⟩, S.bh, S.zz, S.zh, S.new, S.tp, S.tab⟩⟩
theorem aac (n : Vn X i x) (h : δ[i]? = some (some t)) (ho : t.isRef = true) (h2 : QH X CL b es (δ.set i none) is fx al δ2) (hs : starEach (.Name x pos :: es) X.env = (false, eval (.Name x pos) X.env) :: starEach es X.env := by exact bw rfl) :
   QH X CL b (.Name x pos :: es) δ (i :: is) (fun ys => fx ys.tail) (fun ys => .pin (ys.headD 0) t :: al ys.tail) δ2 := fun H Z σ ts vs Q S k => by
 obtain ⟨v, e, S1⟩ := S.move h
 obtain ⟨y, rfl, S0⟩ := S1.Ss ho
 exact Cb (b8 (iC n.hi n.hv n.hd n.j4) Ex hs) ⟨_, e, h2 H Z σ _ _ _ S0 fun ys us H2 Z2 hy ha hf hl z2 k2 S2 => k (y :: ys) (.ref y :: us) H2 Z2 (by simp [hy]) ⟨e, ha⟩ hf (by simp [hl]) z2 k2 (by
   show bA _ _ _ _ _ _ _ ((T.pin y t :: al ys).reverse ++ ts) _
   rw [ali, ali, akx, akx]
   exact S2)⟩
theorem aeq (n : Vn X i x) (h : δ[i]? = some (some (.pin y t))) (h2 : QH X CL b es (δ.set i none) is fx al δ2) (hs : starEach (.Name x pos :: es) X.env = (false, eval (.Name x pos) X.env) :: starEach es X.env := by exact bw rfl) :
   QH X CL b (.Name x pos :: es) δ (i :: is) (fun ys => ys.headD 0 = y /\ fx ys.tail) (fun ys => .pin y t :: al ys.tail) δ2 := fun H Z σ ts vs Q S k => by
 obtain ⟨v, e, S1⟩ := S.move h
 have hv : v = .ref y := by
   obtain ⟨_, _, _, r, _, _⟩ := S1.rep
   cases r with
   | cons r _ => cases r; rfl
 subst hv
 exact Cb (b8 (iC n.hi n.hv n.hd n.j4) Ex hs) ⟨_, e, h2 H Z σ _ _ _ S1 fun ys us H2 Z2 hy ha hf hl z2 k2 S2 => k (y :: ys) (.ref y :: us) H2 Z2 (by simp [hy]) ⟨e, ha⟩ ⟨rfl, hf⟩ (by simp [hl]) z2 k2 (by
   show bA _ _ _ _ _ _ _ ((T.pin y t :: al ys).reverse ++ ts) _
   rw [ali, ali, akx, akx]
   exact S2)⟩
theorem Sv {A : Type} {k n : Nat} {f : Addr} {fd : FuncData} {ps : List Str} {arg : A -> List T} {Pre : A -> Prop} {res : A -> T} {out : A -> List T} (a : List Addr -> A) (ns : List T) (F : bN X.prog X.w X.K X.mg X.base fO k f fd ps (Sn X.K CL n arg Pre res out)) (hr : dg k X.A) (hm : X.mg x = some (.ref f)) (hk : PySem.W.keepIn X.K (.ref f) = true) (hb : Binds X.K fd ps [])
   (h : QH X CL b (e :: es) δ is fx al δ1) (ha : ∀ ys, ys.length = is.length -> fx ys -> arg (a ys) = al ys /\ (arg (a ys)).length = n /\ Pre (a ys) /\ res (a ys) = t /\ oq (out (a ys)) ys ns) (KR : ∀ i ∈ is, i < δ1.length) (hg : Gl X x)
   (tU : (x == ("__debug__" : Str)) = false := by decide) (he : starEach (e :: es) X.env = (false, eval e X.env) :: starEach es X.env := by exact bw rfl) (hpl : (backTo pos (starEach es X.env)).any (·.1) = false := by rfl) :
   NQ X CL b (.Call (.Name x pp) (e :: es) [] pos) δ t (Pq δ1 is ns) := fun H Z σ ts vs Q S kk =>
 cL (Nb F hr hg hm hk hb .nil tZ Ex tU he hpl) (h H Z σ ts vs _ S fun ys us H1 Z1 hly Cg hf WV z1 k1 S1 => by
   rw [akK]
   obtain ⟨ha1, WB, hp, hrs, hpu⟩ := ha ys hly hf
   obtain ⟨g, r, nd, S2⟩ := S1.cut (by simp [WV])
   obtain ⟨g', r', pm⟩ := r.rev
   have ec : xA H1 g = xA H1 g' := funext fun c => by
     by_cases hc : c ∈ g
     . rw [sG hc, sG (pm.mem_iff.mpr hc)]
     . rw [iU hc, iU (fun z => hc (pm.mem_iff.mp z))]
   rw [ec] at S2
   rw [← ha1] at r'
   refine ⟨Z1, a ys, g', S2.zh, S1.tp, r', pm.nodup_iff.mpr nd, WB, hp, S1.Rt, fun v H' W' fp hh ww wh nw tp rt J4 own => ?_⟩
   cases rt with
   | @cons _ _ _ _ f1 f2 q1 q2 =>
     have Nq : (f2 ++ (f1 ++ [])).Perm (f1 ++ f2) := by rw [akK]; exact akY
     have S3 := S2.Z9 hh ww wh nw tp (aL.app q2 (.cons q1 .nil)) (Nq.nodup_iff.mpr J4) fun c hc => own c (Nq.mem_iff.mp hc)
     rw [akx, akx] at S3
     have S4 := S3.WT q2.length Cg hpu KR
     rw [hrs] at S4
     exact kk v H' W' (z1.trans ww) S4)
structure FcM (X : Cx) (CL : Str -> Addr) (x : Str) (k n : Nat) {A : Type} (arg : A -> List T) (Pre : A -> Prop) (res : A -> T) (out : A -> List T) : Prop where
 ex : ∃ f fd ps, bN X.prog X.w X.K X.mg X.base fO k f fd ps (Sn X.K CL n arg Pre res out) /\ X.mg x = some (.ref f) /\ PySem.W.keepIn X.K (.ref f) = true /\ Binds X.K fd ps []
 room : dg k X.A
theorem cM1 {A : Type} {k n : Nat} {arg : A -> List T} {Pre : A -> Prop} {res : A -> T} {out : A -> List T} (a : Addr -> A) (nt : T) (F : FcM X CL x k n arg Pre res out) (hg : Gl X x) (h : QH X CL b (e :: es) δ [i] fx al δ1) (hp : ∀ y, fx [y] -> Pre (a y)) (Sw : ∀ y, fx [y] -> res (a y) = t) (Sx : ∀ y, fx [y] -> oq (out (a y)) [y] [nt])
   (Sy : ∀ y, fx [y] -> arg (a y) = al [y] := by intros; rfl) (hlen : ∀ y, (arg (a y)).length = n := by intros; rfl) (KR : i < δ1.length := by exact akz rfl)
   (tU : (x == ("__debug__" : Str)) = false := by decide) (he : starEach (e :: es) X.env = (false, eval e X.env) :: starEach es X.env := by exact bw rfl) (hpl : (backTo pos (starEach es X.env)).any (·.1) = false := by rfl) :
   NQ X CL b (.Call (.Name x pp) (e :: es) [] pos) δ t (δ1.set i (some nt)) := by
 obtain ⟨⟨f, fd, ps, G, m, q, bd⟩, r⟩ := F
 exact Sv (fun ys => a (ys.headD 0)) [nt] G r m q bd h (fun ys hl hf => match ys, hl, hf with | [y], _, hf => ⟨Sy y hf, hlen y, hp y hf, Sw y hf, Sx y hf⟩) (fun j hj => by cases alg.mp hj; exact KR) hg tU he hpl
variable {d8 : List Stmt}
theorem ER {pos' : Pos} (g : Gx X) (n : Ln X i x) (h : NQ X CL b e δ t δ1) (k : eL X CL b d8 (δ1.set i (some t)) D) (hl : i < δ1.length := by exact akz rfl) (hs : swapsWith e (some (.Name x pos')) pos.line X.env = pure false := by rfl) :
   eL X CL b (.Assign [.Name x pos'] e pos :: d8) δ D := ck (WU i h k hl g.nd n.hi n.loc hs n.hf)
theorem WW (h : NQ X CL b e δ t δ1) (k : eL X CL b d8 δ1 D) (hs : swapsWith e none pos.line X.env = pure false := by rfl) : eL X CL b (.Expr e pos :: d8) δ D := ck (Sq h k hs)
end
section
variable {X : Cx} {CL : Str -> Addr} {b : Bx} {δ δ1 δ2 : List (Option T)} {e e2 : Expr} {t : T} {tl HW Vz : List T} {D : cE} {pos pp pa pb : Pos} {y : Addr} {d8 : List Stmt}
section
variable {i : Nat} {x : Str}
end
end
noncomputable def tV {α : Type} (g : α -> Int) (x : α) : List α -> List α
 | [] => [x]
 | y :: l => if g x <= g y then x :: y :: l else y :: tV g x l
noncomputable def iK {α : Type} (g : α -> Int) : List α -> List α
 | [] => []
 | x :: l => tV g x (iK g l)
section
variable {α β : Type} {g : α -> Int}
theorem xC (x : α) : ∀ l, (tV g x l).Perm (x :: l)
 | [] => .refl _
 | y :: l => by
   rw [tV]
   split
   . exact .refl _
   . exact ((xC x l).cons y).trans (.swap x y l)
theorem uB : ∀ l : List α, (iK g l).Perm l
 | [] => .refl _
 | x :: l => (xC x (iK g l)).trans ((uB l).cons x)
theorem DQ {l : List α} {x : α} : x ∈ iK g l ↔ x ∈ l := (uB l).mem_iff
theorem xD (l : List α) : (iK g l).length = l.length := (uB l).length_eq
theorem Iz (f : β -> α) (x : β) : ∀ l, tV g (f x) (l.map f) = (tV (fun y => g (f y)) x l).map f
 | [] => rfl
 | y :: l => by
   rw [akP, tV, tV]
   split
   . rfl
   . rw [akP, Iz f x l]
theorem DR (f : β -> α) : ∀ l : List β, iK g (l.map f) = (iK (fun y => g (f y)) l).map f
 | [] => rfl
 | x :: l => by rw [akP, iK, iK, DR f l, Iz]
noncomputable def KS (g : Nat -> Int) (i j : Nat) : Prop := g i < g j \/ (g i = g j /\ i < j)
theorem KS.trans {g : Nat -> Int} {i j k : Nat} (a : KS g i j) (b : KS g j k) : KS g i k := by
 unfold KS at *; omega
theorem KS.irr {g : Nat -> Int} {i : Nat} (a : KS g i i) : False := by unfold KS at a; omega
theorem IA {g : Nat -> Int} {x : Nat} : ∀ {l : List Nat}, l.Pairwise (KS g) -> (∀ y ∈ l, x < y) -> (tV g x l).Pairwise (KS g)
 | [], _, _ => List.pairwise_singleton _ _
 | y :: l, h, hx => by
   obtain ⟨h1, h2⟩ := alo.mp h
   rw [tV]
   split
   . rename_i e
     refine alo.mpr ⟨fun z hz => ?_, h⟩
     have a1 : KS g x y := by have := hx y akA; unfold KS; omega
     rcases akB.mp hz with rfl | hz
     . exact a1
     . exact a1.trans (h1 z hz)
   . rename_i e
     refine alo.mpr ⟨fun z hz => ?_, IA h2 fun z hz => hx z (akE _ hz)⟩
     rcases akB.mp ((xC x l).mem_iff.mp hz) with rfl | hz
     . left; omega
     . exact h1 z hz
theorem DS {g : Nat -> Int} : ∀ {l : List Nat}, l.Pairwise (· < ·) -> (iK g l).Pairwise (KS g)
 | [], _ => .nil
 | x :: l, h => by
   obtain ⟨h1, h2⟩ := alo.mp h
   exact IA (DS h2) fun y hy => h1 y (DQ.mp hy)
theorem EV {g : Nat -> Int} : ∀ {S A : List Nat}, S.Pairwise (KS g) -> A.Pairwise (KS g) -> (∀ a ∈ A, a ∈ S) -> A.length <= S.length /\ (A.length = S.length -> A = S)
 | [], A, _, _, h => by
   cases A with
   | nil => exact ⟨akG _, fun _ => rfl⟩
   | cons a A => exact absurd (h a akA) (by simp)
 | s :: S, [], _, _, _ => ⟨akV _, fun e => by simp at e⟩
 | s :: S, a :: A, hS, hA, h => by
   obtain ⟨s1, s2⟩ := alo.mp hS
   obtain ⟨a1, a2⟩ := alo.mp hA
   by_cases e : a = s
   . subst e
     have q := EV s2 a2 fun z hz => (akB.mp (h z (akE _ hz))).resolve_left fun e => by subst e; exact (a1 _ hz).irr
     refine ⟨by simpa using q.1, fun e => by rw [q.2 (by simpa using e)]⟩
   . have ha : a ∈ S := (akB.mp (h a akA)).resolve_left e
     have q := EV (A := a :: A) s2 hA fun z hz => by
       rcases akB.mp hz with rfl | hz
       . exact ha
       . refine (akB.mp (h z (akE _ hz))).resolve_left fun e2 => ?_
         subst e2
         exact ((s1 a ha).trans (a1 _ hz)).irr
     exact ⟨by have := q.1; simp at this ⊢; omega, fun e3 => by have := q.1; simp at this e3; omega⟩
theorem Sz {l r : List α} {κ : Nat -> Nat} (hn : r.length = l.length) (pl : ∀ k, k < l.length -> r[k]? = l[κ k]?) (lo : ∀ k, k < l.length -> κ k < l.length)
   (st : ∀ i j x y, i < j -> r[i]? = some x -> r[j]? = some y -> g x < g y \/ (g x = g y /\ κ i < κ j)) : r = iK g l := by
 cases l with
 | nil => cases r with
   | nil => rfl
   | cons a r => simp at hn
 | cons d l0 =>
   generalize hl : d :: l0 = l at *
   let f : Nat -> α := fun i => (l[i]?).getD d
   have hf : ∀ i, i < l.length -> l[i]? = some (f i) := fun i hi => by
     show _ = some ((l[i]?).getD d)
     rw [akX hi]; rfl
   have el : l = (List.range l.length).map f := al4 fun i => by
     rw [ak0]
     by_cases hi : i < l.length
     . rw [hf i hi, alV hi]; rfl
     . rw [List.getElem?_eq_none (by omega), List.getElem?_eq_none (by simpa using hi)]; rfl
   have er : r = ((List.range l.length).map κ).map f := al4 fun i => by
     rw [ak0, ak0]
     by_cases hi : i < l.length
     . rw [pl i hi, hf _ (lo i hi), alV hi]; rfl
     . rw [List.getElem?_eq_none (by omega), List.getElem?_eq_none (by simpa using hi)]; rfl
   have gr : ∀ k, k < l.length -> r[k]? = some (f (κ k)) := fun k hk => (pl k hk).trans (hf _ (lo k hk))
   have eA : (List.range l.length).map κ = iK (fun i => g (f i)) (List.range l.length) := by
     refine (EV (DS (List.pairwise_lt_range)) (List.pairwise_map.mpr ?_) fun a ha => ?_).2 ?_
     . refine List.Pairwise.imp_of_mem (R := (· < ·)) (fun {i j} hi hj Iu => ?_) List.pairwise_lt_range
       exact st i j _ _ Iu (gr i (alF.mp hi)) (gr j (alF.mp hj))
     . obtain ⟨k, hk, rfl⟩ := ak2.mp ha
       exact DQ.mpr (alF.mpr (lo k (alF.mp hk)))
     . rw [akD, xD]
   rw [er, eA, ← DR, ← el]
end
theorem KW {pos pos' : Pos} {c cv : Value} (l : List Value) (h : TriplesOk l) (e : codeAmong pos (l ++ [rawInt pos'.line, rawInt pos'.col, c]) = some cv) : codeAmong pos l = some cv \/ cv = c := by
 fun_induction TriplesOk l with
 | case1 =>
   simp only [alA, codeAmong, rawInt] at e
   split at e
   . exact .inr (akU e).symm
   . cases e
 | case2 a t b u x rest ih =>
   simp only [akS, codeAmong] at e ⊢
   split at e
   . rename_i hc; rw [akJ hc]; exact .inl e
   . rename_i hc; rw [akH hc]; exact ih h e
 | case3 l h1 h2 => exact h.elim
noncomputable def SD (f : Addr) (q : Str) (ps : Arguments) (body : Expr) (sc : Scope) (cl : List (Str × Addr)) (c : Addr) : Heap -> Prop := fun h =>
 ∃ pm ctv, h.get? f = some (PySem.W.kla_obj "<lambda>" q ps body sc cl pm c ctv)
structure SG (X : Cx) (CL : Str -> Addr) (x q : Str) : Prop where
 code : ∃ c, X.env.code = .ref c /\ PySem.W.CodeHd X.base c (CL x)
 blt : ∃ bm o, X.mg "__builtins__" = some (.ref bm) /\ bm ≠ builtinsNs /\ bm ≠ mainGlobals /\ X.base.get? bm = some o /\ o.cls = .type "module" /\ o.dict = some builtinsNs /\ o.data = .plain
 qual : X.env.qual ++ "<lambda>" = q
 tab : HS x = true /\ CL x ≠ 0 /\ Kw x = q
section
variable {X : Cx} {CL : Str -> Addr} {pins : List (Addr × Obj)} {σ : L2.St} {H : Hp} {s : Shared} {x q : Str} {params : Arguments} {body : Expr} {scope : Scope} {pos : Pos}
theorem abM {Q : Value -> Shared -> Prop} (L : SG X CL x q) (I : L2.Inv X pins σ H s) (ht : H (CL x) = some (.tabs q)) (Hz : ∀ y ∈ scope.names, y.2 = .free -> ∃ c, X.env.cells.lookup y.1 = some c)
   (abN : defaultsOf params X.env = ([], []))
   (k : ∀ f c H' s', L2.Inv X pins σ H' s' -> aG H H' -> H' f = some (.ext (SD f q params body scope (cX X.env scope.names []) c)) -> H' c = some (.Oq q) -> (∀ b o, H' b = some o -> j6 o = true -> H b = some o) -> Q (.ref f) s') :
   wpAny (model X.prog X.w) X.A (eval (.Lambda params body scope pos) X.env) Q X.xe s := by
 obtain ⟨c, hc, hd⟩ := L.code
 obtain ⟨bm, ob, b1, b2, b3, b4, b5, b6, b7⟩ := L.blt
 obtain ⟨ps, hP, tr, cs⟩ := I.dJ _ _ ht
 have hne : ∀ {b : Addr} {o : Obj}, X.base.get? b = some o -> b ≠ CL x := fun {b o} e z => by
   have := (I.bs _ _ e).2
   rw [z, ht] at this; cases this
 have hg : s.heap.Ns mainGlobals X.mg := by
   obtain ⟨o, es, ep, e, r⟩ := I.mod.glob
   exact ⟨o, es, ep, I.bk _ _ e, r⟩
 have hgP : mainGlobals ≠ CL x := by
   obtain ⟨o, _, _, e, _⟩ := I.mod.glob
   exact hne e
 have hb : s.heap.BuiltinsAt X.mg (CL x) := ⟨bm, ob, b1, b2, b3, hne b4, I.bk _ _ b4, b5, b6, b7⟩
 refine PySem.W.kla_eval abN ?_
 rw [L.qual]
 cases hf : codeAmong pos ps.toList with
 | none =>
   refine PySem.W.kla_makeFunction (m7 Hz) I.ok.glob hg hc (hd.keeps I.bk) hP tr hf hgP hb fun c' ctv h' tk hx hge vo agX htb => ?_
   obtain ⟨c₂, oc, vs, t, e2, hoc, hdc, hv⟩ := agX
   cases e2
   have hn : H c' = none := I.dJ.fresh hge
   have neP : ∀ {b : Addr}, H b = none -> b ≠ CL x := fun {b} e z => by rw [z, ht] at e; cases e
   have ne' : ∀ {b : Addr} {o : Obj}, s.heap.get? b = some o -> b ≠ c' := fun {b o} e => ala (ak9 (akT e) hge)
   have cP : CL x ≠ c' := ne' hP
   have un : Un X.fs [] H (upd H c' (.Oq q)) s.heap h' := by
     refine ⟨fun b o e n _ _ => hx b o (neP n) e, fun b o e n _ _ => ⟨o.slots, hx b o (neP n) e⟩, fun b o e n _ => by rw [az (ne' e)]; exact n, fun b o e _ => ?_, fun b xs e => by rw [az (aK e hn)]; exact e, fun b o u e => by rw [az (aK e hn)]; exact e, fun b ps e => ⟨#[], by rw [az (aK e hn), e]; simp⟩⟩
     by_cases z : b = CL x
     . exact ⟨_, z ▸ htb⟩
     . exact ⟨o, hx b o z e⟩
   have dJ : ur X.prog X.w (upd H c' (.Oq q)) h' := fun b u e => by
     by_cases z : b = c'
     . subst z
       rw [aP] at e
       cases e
       exact ⟨oc, vs, t, hoc, hdc, hv⟩
     . rw [az z] at e
       by_cases z2 : b = CL x
       . subst z2
         rw [ht] at e
         cases e
         refine ⟨_, htb, ?_, fun pos' cv ec => ?_⟩
         . rw [Array.toList_append]
           exact TriplesOk_snoc _ _ _ _ tr
         . rw [Array.toList_append] at ec
           rcases KW _ tr ec with q1 | q1
           . obtain ⟨c3, e3, e4⟩ := cs pos' cv q1
             exact ⟨c3, e3, by rw [az (aK e4 hn)]; exact e4⟩
           . exact ⟨c', q1, aP⟩
       . refine (I.dJ b u e).Eg (fun d v VG r => hx d v ?_ r) (fun d r => by rw [az (aK r hn)]; exact r) (fun d xs r => by rw [az (aK r hn)]; exact r) fun d z r => by rw [az (aK r hn)]; exact r
         rintro rfl
         rcases VG with w | w
         . exact z2 w.symm
         . rw [ht] at w; cases w
   have I1 := I.un (t' := tk) un dJ
   have f1 : (upd H c' (.Oq q)) h'.objs.size = none := dJ.fresh (akG _)
   have I2 := I1.laid (t' := tk) (a := h'.objs.size) (o := .ext (SD h'.objs.size q params body scope (cX X.env scope.names []) c')) (h' := h'.push (PySem.W.kla_obj "<lambda>" q params body scope (cX X.env scope.names []) ((X.mg "__name__").getD .none) c' ctv))
     (fun b u e => akN _ e) (akG _) ⟨⟨_, _, ak3 _ rfl⟩, ⟨_, ak3 _ rfl⟩, fun h1 h2 ⟨pm, ct, e⟩ kk => ⟨pm, ct, kk _ e⟩⟩
   refine k _ c' _ _ I2 (fun b o e => ?_) aP ?_ fun b o e im => ?_
   . have z1 := aK e hn
     have z2 : b ≠ h'.objs.size := fun z => by
       rw [← z, az z1, e] at f1; cases f1
     rw [az z2, az z1]; exact e
   . rw [az (ala vo), aP]
   . by_cases z2 : b = h'.objs.size
     . subst z2; rw [aP] at e; cases e; cases im
     . rw [az z2] at e
       by_cases z1 : b = c'
       . subst z1; rw [aP] at e; cases e; cases im
       . rw [az z1] at e; exact e
 | some cv =>
   obtain ⟨c', rfl, QK⟩ := cs pos cv hf
   refine PySem.W.kla_makeFunctionHit (m7 Hz) I.ok.glob hg hc (hd.keeps I.bk) hP tr hf hb fun ctv h' tk hk hsz => ?_
   have I2 := I.laid (t' := tk) (a := h'.objs.size) (o := .ext (SD h'.objs.size q params body scope (cX X.env scope.names []) c')) (h' := h'.push (PySem.W.kla_obj "<lambda>" q params body scope (cX X.env scope.names []) ((X.mg "__name__").getD .none) c' ctv))
     (fun b u e => akN _ (hk _ _ e)) hsz ⟨⟨_, _, ak3 _ rfl⟩, ⟨_, ak3 _ rfl⟩, fun h1 h2 ⟨pm, ct, e⟩ kk => ⟨pm, ct, kk _ e⟩⟩
   have f1 : H h'.objs.size = none := I.dJ.fresh hsz
   refine k _ c' _ _ I2 (fun b o e => by rw [az (aK e f1)]; exact e) aP (by rw [az (aK QK f1)]; exact QK) fun b o e im => ?_
   by_cases z2 : b = h'.objs.size
   . subst z2; rw [aP] at e; cases e; cases im
   . rw [az z2] at e; exact e
end
noncomputable def yF (X : Cx) (A : Around) (q : Str) (scope : Scope) (Nc : List Str) (f c : Addr) (s : Shared) (H : Hp) : Cx where
 prog := X.prog
 w := X.w
 K := X.K
 mg := X.mg
 base := X.base
 A := A.deeper (PySem.W.envX q scope s.heap.objs.size f (.ref c) (cX X.env scope.names []))
 N := Nc
 s₀ := s
 H₀ := H
 env := PySem.W.envX q scope s.heap.objs.size f (.ref c) (cX X.env scope.names [])
 outer := X.stack
 stack := PySem.W.envX q scope s.heap.objs.size f (.ref c) (cX X.env scope.names []) :: X.stack
 ex := []
 fn := fun _ => false
 calm := true
 pn := []
 xe := fun _ _ => False
section
variable {X : Cx} {scope : Scope} {x q : Str} {Nc : List Str} {ix : List Nat} {pins : List (Addr × Obj)} {σ : L2.St} {H : Hp} {s : Shared} {A : Around} {f c : Addr}
theorem Pr (sc : iG X scope x Nc ix) (I : L2.Inv X pins σ H s) (hA : A.frames = some X.stack) (hh : A.handled = none) {h' : Heap} {tk : Nat} {u : Value} {v : V} (r : RelV v u)
   (hn : h'.Ns s.heap.objs.size (fun y => ([(x, u)] : List (Str × Value)).reverse.lookup y)) (hk : ∀ b o, s.heap.get? b = some o -> h'.get? b = some o) :
   L2.Inv (yF X A q scope Nc f c s H) [] (xo σ ix (some v)) H { s with heap := h', toks := tk } := by
 have frees : ∀ y ∈ scope.names, y.2 = .free -> ∃ c, X.env.cells.lookup y.1 = some c := fun y hy e => I.ok.has y.1 (sc.frees y hy e).2
 have sub : ∀ {y : Str} {c : Addr}, (cX X.env scope.names []).lookup y = some c -> X.env.cells.lookup y = some c := fun {y c} e => o8 frees (fun _ _ z => by cases z) e
 have hlen : (xo σ ix (some v)).length = Nc.length := by
   have all : ∀ l : List Nat, (∀ i ∈ l, ∃ y, X.N[i]? = some y /\ scope.names.lookup y = some .free) -> (l.filterMap (X.N[·]?)).length = l.length := by
     intro l
     induction l with
     | nil => intro _; rfl
     | cons i r ih =>
       intro h
       obtain ⟨y, e, _⟩ := h i akA
       rw [ald, e]
       show _ + 1 = _ + 1
       rw [ih fun j hj => h j (akE _ hj)]
   unfold xo
   rw [sc.hd, akZ, akZ, akD, all ix sc.ZU]
 have nil : ∀ b : Addr, b ∉ (yF X A q scope Nc f c s H).ex := fun b z => absurd (show b ∈ ([] : List Addr) from z) (by simp)
 refine ⟨⟨I.ok.mod, sc.kind, rfl, rfl, akG _, fun y z c h1 h2 => I.ok.inj y z c (sub h1) (sub h2), fun y hy => ?_, fun y c hf _ => (by cases (show false = true from hf)), fun _ => hh, Around.frames_deeper hA, .inr ⟨rfl, rfl⟩, fun b hb => absurd hb (nil b), I.bs, alq I.ok.Vu I.sz, fun b o _ => nil b, fun b hb => absurd hb (nil b), I.stack, I.Ek⟩,
   rfl, I.bare, Un.kept hk, ⟨_, hn, fun i y w h1 h2 h3 => ?_⟩, fun y c e => ?_, I.dJ.fresh (akG _), fun y c e => I.qI y c (sub e), fun p hp => absurd (show p ∈ ([] : List (Addr × Obj)) from hp) (by simp), I.dJ.kept hk, hlen⟩
 . have hy' : scope.names.lookup y = some .cell \/ scope.names.lookup y = some .free := hy
   rcases hy' with z | z
   . exact absurd rfl (sc.xm _ (alu z))
   . exact lF z
 . unfold xo at h2
   cases i with
   | zero =>
     have R1 : some (some v) = some (some w) := h2
     cases R1
     have e : y = x := by
       have ZX : Nc[0]? = some y := h1
       rw [sc.hd] at ZX
       exact (akU ZX).symm
     subst e
     refine ⟨u, r, .inl ⟨sc.own, ?_⟩⟩
     simp
   | succ i =>
     rw [List.getElem?_cons_succ, ak0] at h2
     cases ei : ix[i]? with
     | none => rw [ei] at h2; cases h2
     | some j =>
       rw [ei] at h2
       have R1 : (σ[j]?).getD none = some w := akU h2
       have hj : σ[j]? = some (some w) := by
         cases q : σ[j]? with
         | none => rw [q] at R1; cases R1
         | some o => rw [q] at R1; exact congrArg some R1
       obtain ⟨y', hy1, hy2⟩ := sc.ZU j (alr ei)
       have hNc : Nc[i + 1]? = some y' := by
         have all : ∀ (l : List Nat) (i : Nat), (∀ j ∈ l, ∃ y, X.N[j]? = some y /\ scope.names.lookup y = some .free) -> l[i]? = some j -> (l.filterMap (X.N[·]?))[i]? = some y' := by
           intro l
           induction l with
           | nil => intro i _ h; simp at h
           | cons a r ih =>
             intro i h hi
             obtain ⟨ya, ea, _⟩ := h a akA
             rw [ald, ea]
             cases i with
             | zero =>
               simp at hi
               subst hi
               rw [hy1] at ea
               cases ea
               rfl
             | succ i => exact ih i (fun j hj => h j (List.mem_cons_of_mem _ hj)) (by simpa using hi)
         rw [sc.hd, List.getElem?_cons_succ]
         exact all ix i sc.ZU ei
       have ey : y' = y := by
         have ZX : Nc[i + 1]? = some y := h1
         rw [hNc] at ZX
         exact akU ZX
       subst ey
       have zO := (sc.frees (y', .free) (alu hy2) rfl).2
       have abA : ZD X.env.scope y' := zO.elim (fun z => .inr (.inl z)) (fun z => .inr (.inr z))
       obtain ⟨m0, hn0, hl0⟩ := I.loc
       obtain ⟨u', ru, lk⟩ := hl0 j y' w hy1 hj abA
       refine ⟨u', ru, ?_⟩
       rcases lk with ⟨kk, _⟩ | ⟨_, c', hc, tX⟩
       . rcases zO with z | z
         . rw [kk] at z; cases z
         . rw [kk] at z; cases z
       . obtain ⟨c2, QK⟩ := lF (env := X.env) (cs := []) hy2
         have : c2 = c' := by
           have := sub QK
           rw [hc] at this
           exact (akU this).symm
         subst this
         obtain ⟨o, ho, hd⟩ := tX
         exact .inr ⟨.inr hy2, c2, QK, o, hk _ _ ho, hd⟩
 . obtain ⟨v, o, ho, hd⟩ := I.cell y c (sub e)
   exact ⟨v, o, hk _ _ ho, hd⟩
theorem SJ {params : Arguments} {body : Expr} {u : Value} {v : V} {Q : VK} (sc : iG X scope x Nc ix) (I : L2.Inv X pins σ H s) (hA : A.frames = some X.stack) (hh : A.handled = none) (aes : A.depth < recursionLimit)
   (hf : H f = some (.ext (SD f q params body scope (cX X.env scope.names []) c))) (hc : H c = some (.Oq q)) (r : RelV v u)
   (IB : ∀ cl pm cd ct u, bindArgs (PySem.W.kla_fn "<lambda>" q params body scope cl pm cd ct) ⟨[u], []⟩ = pure [(x, u)]) (hco : scope.isCoroutine = false) (abO : scope.isGenerator = false)
   (h : Ca (yF X A q scope Nc f c s H) body (xo σ ix (some v)) H Q) : wpAny (model X.prog X.w) A (call (.ref f) [u]) (EP X pins σ Q) (fun _ _ => False) s := by
 obtain ⟨⟨pm, ctv, ho⟩, _⟩ := I.dJ _ _ hf
 obtain ⟨oc, vs, t, e1, e2, e3⟩ := I.dJ _ _ hc
 refine wpAny_call (PySem.W.kla_callFunE aes ho rfl hco abO rfl ⟨c, oc, vs, t, rfl, e1, e2, e3⟩ ?_)
 rw [IB]
 refine alh (wpAny_newFunctionEnv sc.xm (fun y hy => ?_) (fun h₁ hns hsb => ?_) sc.kind)
 . rw [alg.mp hy]
   exact sc.own
 . have hk : ∀ b o, s.heap.get? b = some o -> h₁.get? b = some o := fun b o e => (hsb.2 b (ala (akT e))).trans (akN _ e)
   refine ⟨I.nolimit.keeps hk, ?_⟩
   show codeAny _ _ (.expr body (PySem.W.envX q scope s.heap.objs.size f (.ref c) (cX X.env scope.names []))) _ _
   have J := Pr (q := q) (f := f) (c := c) (tk := s.toks + ([(x, u)] : List (Str × Value)).length) sc I hA hh r hns hk
   refine PySem.W.kla_codeExpr (alM (h [] _ J) (fun w s' hl => ?_) fun e s' hx => False.elim hx)
   obtain ⟨v', H', J', rv, hq⟩ := hl
   exact I.after ⟨v', H', J'.os, J'.bare, J'.base, J'.dJ, rv, hq⟩
end
section
variable {X : Cx} {pins : List (Addr × Obj)} {σ : L2.St} {H : Hp} {s : Shared}
theorem Pu {a : Addr} {o : HO} (I : L2.Inv X pins σ H s) (fp : kH X pins H a) (new : eV X.prog X.w (upd H a o) s.heap a o) : L2.Inv X pins σ (upd H a o) s := by
 have hn := fp.1
 refine I.step (H' := upd H a o) (h' := s.heap) (g' := s.gens) (d' := s.drawn) (t' := s.toks) (ch := [a]) (fun b hb => ?_) (fun b o _ _ _ e _ => e) (fun b o _ _ _ e _ => ⟨o.slots, e⟩) (fun b o hc _ n => by rw [az fun z => hc (by simp [z])]; exact n)
   (fun b o _ e => ⟨o, e⟩) (fun b xs e => by rw [az (aK e hn)]; exact e) (fun b o u e => by rw [az (aK e hn)]; exact e) (fun b ps e => ⟨#[], by rw [az (aK e hn), e]; simp⟩) (fun m hm => hm) (fun b u e => ?_) I.bare
 . have e : b = a := by simpa using hb
   subst e
   exact ⟨fp.2.2.2.1, fp.2.1, fp.2.2.2.2.1, fp.2.2.2.2.2⟩
 . by_cases z : b = a
   . subst z; rw [aP] at e; cases e; exact new
   . rw [az z] at e
     exact (I.dJ b u e).Eg (fun _ _ _ q => q) (fun c q => by rw [az (aK q hn)]; exact q) (fun c xs q => by rw [az (aK q hn)]; exact q) fun c z q => by rw [az (aK q hn)]; exact q
end
noncomputable def t6 (kz : List Int) (xs : List V) : List V := (iK Prod.fst (kz.zip xs)).map Prod.snd
section
variable {α β : Type} {F : α -> β -> Prop} {g1 : α -> Int} {g2 : β -> Int}
theorem IC (hg : ∀ p q, F p q -> g1 p = g2 q) {x : α} {y : β} (hx : F x y) {l1 : List α} {l2 : List β} (h : Paired F l1 l2) : Paired F (tV g1 x l1) (tV g2 y l2) := by
 induction h with
 | nil => exact .cons hx .nil
 | @cons p q l1 l2 r t i =>
   rw [tV, tV, hg x y hx, hg p q r]
   split
   . exact .cons hx (.cons r t)
   . exact .cons r i
theorem vN (hg : ∀ p q, F p q -> g1 p = g2 q) {l1 : List α} {l2 : List β} (h : Paired F l1 l2) : Paired F (iK g1 l1) (iK g2 l2) := by
 induction h with
 | nil => exact .nil
 | cons r _ i => exact IC hg r i
end
theorem Ac : ∀ {ks us : List Value} {kz : List Int} {xs : List V}, IntsAre ks kz -> Vals xs us -> Paired (fun (p : Int × V) (q : Value × Value) => p.1 = numOf q.1 /\ RelV p.2 q.2) (kz.zip xs) (ks.zip us)
 | _, _, _, _, .nil, _ => by simp only [List.zip_nil_left]; exact .nil
 | _, _, _, _, .cons n t h, .nil => by simp only [List.zip_nil_right]; exact .nil
 | _, _, _, _, .cons n t h, .cons r rr => .cons ⟨rfl, r⟩ (Ac h rr)
theorem SK {ps : List (Int × V)} {qs : List (Value × Value)} (h : Paired (fun (p : Int × V) (q : Value × Value) => p.1 = numOf q.1 /\ RelV p.2 q.2) ps qs) : Vals (ps.map Prod.snd) (qs.map Prod.snd) := by
 induction h with
 | nil => exact .nil
 | cons r _ i => exact .cons r.2 i
theorem IE {keys : Array Value} {us : List Value} {xs : List V} {kz : List Int} (hk : IntsAre keys.toList kz) (r : Vals xs us) {arr : Array Keyed} {κ : Nat -> Nat}
   (t : Tag (keys.zip us.toArray) arr κ (keys.zip us.toArray).size) (o : qV arr κ (keys.zip us.toArray).size) (hz : arr.size = (keys.zip us.toArray).size) : Vals (t6 kz xs) (arr.map (·.2)).toList := by
 have ez := ksk_zip keys us
 have el : (keys.toList.zip us).length = (keys.zip us.toArray).size := by rw [← ez, alJ]
 have e : arr.toList = iK (fun p : Keyed => numOf p.1) (keys.toList.zip us) := by
   refine Sz (κ := κ) (by rw [el, alJ, hz]) (fun k hk => ?_) (fun k hk => ?_) fun i j x y Iu hx hy => ?_
   . rw [el] at hk
     rw [alY, t.pl k hk, ← ez, alY]
   . rw [el] at hk ⊢
     exact t.lo k hk
   . rw [alY] at hx hy
     have hj : j < arr.size := (Array.getElem?_eq_some_iff.mp hy).1
     have q := o i j Iu (by rw [← hz]; exact hj)
     unfold PyProof.Rows.K at q
     rw [hx, hy] at q
     exact q
 rw [Array.toList_map, e]
 exact SK (vN (fun p q h => h.1) (Ac hk r))
section
variable {X : Cx} {pins : List (Addr × Obj)} {σ : L2.St} {H : Hp} {s : Shared} {a kS f l : Addr} {us : List Value} {xs : List V} {kz : List Int} {J : Hp -> Prop} {e1 : Nat} {A : Around} {E : Value -> Shared -> Prop} {P : PySem.Fin -> Shared -> Prop}
theorem zf {it : Addr} (I : L2.Inv X pins σ H s) (fp : kH X pins H it) (g : Obj -> Obj) : L2.Inv X pins σ H { s with heap := s.heap.update it g } := by
 have s1 := Heap.SameBut.update s.heap it g
 exact I.turned (t' := s.toks) (fun b o n q => (s1.2 b n).trans q) fp.1 fp.2.1 fp.2.2.2.1 fp.2.2.2.2.1 fp.2.2.2.2.2
theorem NR {st : SortSt} {keys : Array Value} {e : Nat} (I : L2.Inv X pins σ H s) (fk : kH X pins H kS) (fa : kH X pins H a) (hka : kS ≠ a) (ok : s.heap.get? kS = some (seqObj "list" keys e)) (oa : s.heap.get? a = some (seqObj "list" #[] e1))
   (hks : keys.size < 64) (hsz : (arrOf st).size < 64) (hfl : failedOf st = none)
   (h : ∀ s' c, L2.Inv X pins σ H s' -> s'.heap.get? a = some (seqObj "list" ((arrOf st).map (·.2)) c) -> P (.done (.ret .none)) s') :
   wpAny (model X.prog X.w) A (ksk_tail a false e1 (.ref kS) st) P E s := by
 have s1 := Heap.SameBut.update s.heap kS (Obj.mapSeq fun _ => (#[] : Array Value))
 have I1 := zf I fk (Obj.mapSeq fun _ => (#[] : Array Value))
 have na1 : (s.heap.update kS (Obj.mapSeq fun _ => (#[] : Array Value))).get? a = some (seqObj "list" #[] e1) := (s1.2 a hka.symm).trans oa
 have I2 := zf I1 fa (Obj.mapSeq fun _ => (arrOf st).map (·.2))
 obtain ⟨c2, RZ⟩ : ∃ c2, ((s.heap.update kS (Obj.mapSeq fun _ => (#[] : Array Value))).update a (Obj.mapSeq fun _ => (arrOf st).map (·.2))).get? a = some (seqObj "list" ((arrOf st).map (·.2)) c2) :=
   ⟨_, get?_update_seq na1 fun _ => (arrOf st).map (·.2)⟩
 unfold ksk_tail
 try dsimp only
 refine akQ (listUpdate_at ok rfl ?_ (by rw [alb]; omega) (akV _))
 refine akQ (wpAny_letGo ?_)
 refine akQ (seqEpoch_at na1 rfl ?_)
 refine akQ (listUpdate_at na1 rfl ?_ (akV _) (by simp only [aln, alZ, Array.size_map]; rw [alb]; omega))
 rw [hfl]
 simp only [bne_self_eq_false, aln, alZ]
 exact alh (h _ c2 I2 RZ)
theorem abQ {keys : Array Value} {e : Nat} (I : L2.Inv X pins σ H s) (fk : kH X pins H kS) (fa : kH X pins H a) (hka : kS ≠ a) (ok : s.heap.get? kS = some (seqObj "list" keys e)) (oa : s.heap.get? a = some (seqObj "list" #[] e1))
   (hk : IntsAre keys.toList kz) (hlen : kz.length = us.length) (Z8 : us.length < 64) (r : Vals xs us)
   (h : ∀ s' out c, L2.Inv X pins σ H s' -> s'.heap.get? a = some (seqObj "list" out c) -> Vals (t6 kz xs) out.toList -> P (.done (.ret .none)) s') :
   wpAny (model X.prog X.w) A (ksk_end a false us.toArray e1 (.ref kS) keys) P E s := by
 have hsz : keys.size = us.length := by
   have h1 := hk.length
   rw [alJ] at h1
   omega
 have hzs : (keys.zip us.toArray).size = us.length := by rw [Array.size_zip, hsz, akI, Nat.min_self]
 have t0 : ∀ n, Tag (keys.zip us.toArray) (keys.zip us.toArray) id n := fun n => ⟨fun _ _ => rfl, fun _ q => q, fun _ _ => rfl⟩
 unfold ksk_end
 try dsimp only
 simp only [aln, alZ]
 by_cases h2 : us.toArray.size < 2
 . rw [akJ h2, akJ h2]
   refine akQ (alh ?_)
   rw [StateT.run_pure]
   refine akQ (alh ?_)
   try dsimp only
   rw [akI] at h2
   refine NR (st := SortSt.mk' general' (keys.zip us.toArray) #[] 7 none) I fk fa hka ok oa (by omega) (by show (keys.zip us.toArray).size < 64; omega) rfl fun s' c I' o' => h s' _ c I' o' ?_
   exact IE hk r (arr := keys.zip us.toArray) (κ := id) (t0 _) (fun i j Iu hj => by omega) rfl
 . rw [akH h2, akH h2]
   rw [akI] at h2
   rw [ksk_kind hk (by rw [hsz]; omega)]
   refine akQ (alh ?_)
   refine akQ (alM (Pp (a₀ := keys.zip us.toArray) (st := SortSt.mk' oneType' (keys.zip us.toArray) #[] 7 none)
     (Q := fun _ J8 => failedOf J8 = none /\ ∃ κ, Tag (keys.zip us.toArray) (arrOf J8) κ (keys.zip us.toArray).size /\ qV (arrOf J8) κ (keys.zip us.toArray).size /\ (arrOf J8).size = (keys.zip us.toArray).size)
     (ksk_intKeys hk) ⟨Array.Perm.refl _, rfl, rfl, rfl⟩ (t0 _) (by rw [hzs]; omega) (by rw [hzs]; exact Z8) fun z κ a1 a2 a3 a4 => ⟨a1, κ, a2, a3, a4⟩) ?_ fun _ _ e => e)
   rintro ⟨⟨⟩, J8⟩ s' ⟨rfl, hf, κ, t, o, hz⟩
   try dsimp only
   have hz' : (arrOf J8).size = (keys.zip us.toArray).size := hz
   exact NR I fk fa hka ok oa (by omega) (by omega) hf fun s' c I' o' => h s' _ c I' o' (IE hk r t o hz)
theorem fpk {b : Addr} {H' : Hp} (fp : kH X pins H b) (h : H' b = none) : kH X pins H' b := ⟨h, fp.2⟩
theorem WX (I : L2.Inv X pins σ H s) (fk : kH X pins H kS) (fa : kH X pins H a) (hka : kS ≠ a) (ok : s.heap.get? kS = some (seqObj "list" #[] 0)) (oa : s.heap.get? a = some (seqObj "list" #[] e1)) (j0 : J H)
   (hlen : kz.length = us.length) (Z8 : us.length < 64) (r : Vals xs us)
   (turn : ∀ (i : Nat) (x : V) (k : Int), xs[i]? = some x -> kz[i]? = some k -> ∀ (lB : List (Addr × Obj)) (s' : Shared) (u : Value) (H' : Hp), L2.Inv X lB σ H' s' -> J H' -> RelV x u →
     wpAny (model X.prog X.w) A (call (.ref f) [u]) (EP X lB σ fun v H'' => v = .int k /\ J H'') (fun _ _ => False) s')
   (h : ∀ s' H' out c, L2.Inv X pins σ H' s' -> J H' -> H' a = none -> s'.heap.get? a = some (seqObj "list" out c) -> Vals (t6 kz xs) out.toList -> P (.done (.ret .none)) s') :
   wpAny (model X.prog X.w) A (ksk_rest a (.ref f) false us.toArray e1 (.ref kS)) P E s := by
 unfold ksk_rest
 refine akQ (wpAny_rule ?_)
 first
   | rw [List.forIn_toArray]
   | (rw [← Array.forIn_toList]; simp only [List.toList_toArray])
   | rw [← Array.forIn_toList]
 refine akQ (ksk_fold (fun i s' => ∃ H' kA e, L2.Inv X pins σ H' s' /\ J H' /\ H' kS = none /\ H' a = none /\ s'.heap.get? kS = some (seqObj "list" kA e) /\ s'.heap.get? a = some (seqObj "list" #[] e1) /\ IntsAre kA.toList (kz.take i)) us 0 s
   ⟨H, #[], 0, I, j0, fk.1, fa.1, ok, oa, by simpa using IntsAre.nil⟩ ?step ?done)
 case step =>
   rintro j u s' hx ⟨H', kA, e, I', jj, nk, na, ok', oa', hk⟩
   simp only [Nat.zero_add] at hk ⊢
   have hj : j < us.length := (ak7.mp hx).1
   obtain ⟨k, hkj⟩ : ∃ k, kz[j]? = some k := ⟨_, akX (by omega)⟩
   obtain ⟨x, hxx⟩ : ∃ x, xs[j]? = some x := ⟨_, akX (by rw [r.length]; exact hj)⟩
   have rx : RelV x u := by
     obtain ⟨u', e1, e2⟩ := r.get hxx
     rw [hx] at e1; cases e1; exact e2
   have hz : kA.size <= us.length := by
     have h1 := hk.length
     rw [alJ, alx] at h1
     omega
   have Ip := I'.pinned (fp := [kS, a]) (fun b hb => by
     rcases akB.mp hb with rfl | hb
     . exact fpk fk nk
     . rw [alg.mp hb]; exact fpk fa na) (fun b hb => by
     rcases akB.mp hb with rfl | hb
     . exact ⟨_, ok', fun v z => by cases z⟩
     . rw [alg.mp hb]; exact ⟨_, oa', fun v z => by cases z⟩)
   refine akQ (wpAny_attempt (alM (turn j x k hxx hkj _ _ u H' Ip jj rx) (fun v s'' he => ?_) fun _ _ hF => hF.elim))
   obtain ⟨w, H2, I2, rw2, rfl, j2⟩ := he
   obtain ⟨t2, rfl⟩ := rw2
   try dsimp only
   have pk := I2.pin (kS, seqObj "list" kA e) (aky _ (aky _ (jA (by simp) ok')))
   have pa := I2.pin (a, seqObj "list" #[] e1) (aky _ (aky _ (jA (by simp) oa')))
   have I3 := zf I2.qK (fpk fk pk.2.1) (Obj.mapSeq (·.push (.int k t2)))
   have s1 := Heap.SameBut.update s''.heap kS (Obj.mapSeq (·.push (.int k t2)))
   obtain ⟨c2, RZ⟩ : ∃ c2, (s''.heap.update kS (Obj.mapSeq (·.push (.int k t2)))).get? kS = some (seqObj "list" (kA.push (.int k t2)) c2) := ⟨_, get?_update_seq pk.1 (·.push (.int k t2))⟩
   have ek : kz.take (j + 1) = kz.take j ++ [k] := by rw [al5, hkj]; simp
   have ea : (kA.push (Value.int k t2)).toList = kA.toList ++ [Value.int k t2] := by simp
   refine akQ (listUpdate_at pk.1 rfl ?_ (by rw [alb]; omega) (alq (Nat.le_of_eq (Array.size_push ..)) (by rw [alb]; omega)))
   exact alh ⟨rfl, H2, kA.push (.int k t2), c2, I3, j2, pk.2.1, pa.2.1, RZ, (s1.2 a hka.symm).trans pa.1, by rw [ea, ek]; exact ksk_snoc hk⟩
 case done =>
   rintro s' ⟨H', kA, e, I', jj, nk, na, ok', oa', hk⟩
   have hk' : IntsAre kA.toList kz := by
     have e3 : kz.take (0 + us.length) = kz := al3 (by omega)
     rw [e3] at hk
     exact hk
   try dsimp only
   refine akQ (listItems_at ok' rfl ?_)
   exact abQ I' (fpk fk nk) (fpk fa na) hka ok' oa' hk' hlen Z8 r fun s2 out c I2 o2 v2 => h s2 H' out c I2 jj na o2 v2
theorem WY {n : Nat} (I : L2.Inv X pins σ H s) (fa : kH X pins H a) (oa : s.heap.get? a = some (seqObj "list" us.toArray n)) (j0 : J H)
   (hlen : kz.length = us.length) (Z8 : us.length < 64) (r : Vals xs us)
   (turn : ∀ (i : Nat) (x : V) (k : Int), xs[i]? = some x -> kz[i]? = some k -> ∀ (lB : List (Addr × Obj)) (s' : Shared) (u : Value) (H' : Hp), L2.Inv X lB σ H' s' -> J H' -> RelV x u →
     wpAny (model X.prog X.w) A (call (.ref f) [u]) (EP X lB σ fun v H'' => v = .int k /\ J H'') (fun _ _ => False) s')
   (h : ∀ s' H' out c, L2.Inv X pins σ H' s' -> J H' -> H' a = none -> s'.heap.get? a = some (seqObj "list" out c) -> Vals (t6 kz xs) out.toList -> P (.done (.ret .none)) s') :
   wpAny (model X.prog X.w) A (ksk_tree a (.ref f) false) P E s := by
 have ha : a < s.heap.objs.size := akT oa
 obtain ⟨e1, ho1⟩ : ∃ e1, (s.heap.update a (Obj.mapSeq fun _ => (#[] : Array Value))).get? a = some (seqObj "list" #[] e1) := ⟨_, get?_update_seq oa fun _ => #[]⟩
 have I1 := zf I fa (Obj.mapSeq fun _ => (#[] : Array Value))
 have hkS : ((s.heap.update a (Obj.mapSeq fun _ => (#[] : Array Value))).push (seqObj "tuple" us.toArray 0)).objs.size = s.heap.objs.size + 1 := by rw [size_push', Heap.size_update]
 have I2 : L2.Inv X pins σ H { s with heap := ((s.heap.update a (Obj.mapSeq fun _ => (#[] : Array Value))).push (seqObj "tuple" us.toArray 0)).push (seqObj "list" #[] 0) } :=
   I1.kept (t' := s.toks) fun b o e => akN _ (akN _ e)
 unfold ksk_tree
 refine akQ (listItems_at oa rfl ?_)
 refine akQ (listUpdate_at oa rfl ?_ (by rw [akI, alb]; omega) (akV _))
 refine akQ (seqEpoch_at ho1 rfl ?_)
 refine akQ (wpAny_newTuple ?_ (by show us.length <= _; rw [alb]; omega))
 refine akQ (wpAny_newList ?_ (akV _))
 refine amt ?_
 refine WX (s := { s with heap := ((s.heap.update a (Obj.mapSeq fun _ => (#[] : Array Value))).push (seqObj "tuple" us.toArray 0)).push (seqObj "list" #[] 0) }) (kS := ((s.heap.update a (Obj.mapSeq fun _ => (#[] : Array Value))).push (seqObj "tuple" us.toArray 0)).objs.size)
   I2 (I.Em (by rw [hkS]; exact alL _) (I.dJ.fresh (by rw [hkS]; exact alL _))) fa (by rw [hkS]; exact Nat.ne_of_gt (Nat.lt_succ_of_lt ha)) (ak3 _ rfl) (akN _ (akN _ ho1)) j0 hlen Z8 r turn h
theorem Pw {Q : VK} (I : L2.Inv X pins σ H s) (hq : mC X.K H l xs) (hlen : kz.length = xs.length) (Z8 : xs.length < 64) (j0 : J H)
   (turn : ∀ (i : Nat) (x : V) (k : Int), xs[i]? = some x -> kz[i]? = some k -> ∀ (lB : List (Addr × Obj)) (s' : Shared) (u : Value) (H' : Hp), L2.Inv X lB σ H' s' -> J H' -> RelV x u →
     wpAny (model X.prog X.w) X.A.in1.in1 (call (.ref f) [u]) (EP X lB σ fun v H'' => v = .int k /\ J H'') (fun _ _ => False) s')
   (h : ∀ D H', J H' -> H' D = none -> Q (.ref D) (upd H' D (.lst (t6 kz xs)))) :
   wpAny (model X.prog X.w) X.A (call (.builtin "sorted") [.ref l] [(Str.ofString "key", .ref f)]) (EP X pins σ Q) E s := by
 obtain ⟨us, r, pl, hz⟩ := I.list hq
 have el := r.length
 have hl : s.heap.IsList l us.toArray := pl.isList
 refine call_function_entry_kw kind_sorted plain_sorted entry_sorted (ksk_s1 _ _) ?_
 unfold Builtin.«sorted»
 refine akQ (m := checkCount "sorted" 1 1 _) (alh ?_)
 refine akQ (collect_list hl ?_ (by rw [alb]; omega))
 refine akQ (wpAny_newList ?_ (by rw [alb]; omega))
 have hsz : ((s.heap.push (seqObj "list" #[] 0)).update s.heap.objs.size (Obj.mapSeq (· ++ us.toArray))).objs.size = s.heap.objs.size + 1 := by
   rw [Heap.size_update, size_push']
 have hoL : (((s.heap.push (seqObj "list" #[] 0)).update s.heap.objs.size (Obj.mapSeq (· ++ us.toArray))).push (seqObj "list" us.toArray 0)).get? (s.heap.objs.size + 1) = some (seqObj "list" us.toArray 0) := by
   rw [← hsz]; exact ak3 _ rfl
 have keep : ∀ b o, s.heap.get? b = some o -> (((s.heap.push (seqObj "list" #[] 0)).update s.heap.objs.size (Obj.mapSeq (· ++ us.toArray))).push (seqObj "list" us.toArray 0)).get? b = some o := fun b o q => by
   have vo : b < s.heap.objs.size := akT q
   rw [Heap.get?_push_ne _ _ _ (by rw [hsz]; exact ala (Nat.lt_succ_of_lt vo)), Heap.get?_update_ne _ _ _ _ (ala vo), Heap.get?_push_ne _ _ _ (ala vo)]
   exact q
 show wpAny _ _ _ _ _ { s with heap := ((s.heap.push (seqObj "list" #[] 0)).update s.heap.objs.size (Obj.mapSeq (· ++ us.toArray))).push (seqObj "list" us.toArray 0) }
 rw [hsz]
 have I2 : L2.Inv X pins σ H { s with heap := ((s.heap.push (seqObj "list" #[] 0)).update s.heap.objs.size (Obj.mapSeq (· ++ us.toArray))).push (seqObj "list" us.toArray 0) } := I.kept (t' := s.toks) keep
 have fa : ∀ {H' : Hp}, H' (s.heap.objs.size + 1) = none -> kH X pins H' (s.heap.objs.size + 1) := fun {H'} e => I.Em (alL _) e
 refine akQ (amt (wpAny_call_entry_kw slot_list_sort ⟨_, hoL, rfl⟩ entry_list_sort ?body (ksk_l1 _ _)))
 case body =>
   have ht' := ksk_t1 f (s.heap.objs.size + 1)
   show wpAny (model X.prog X.w) X.A.in1.in1 (Builtin.«list.sort» ⟨[.ref (s.heap.objs.size + 1)], [(Str.ofString "key", .ref f)]⟩) _ _ _
   rw [ht']
   refine WY I2 (fa (I.dJ.fresh (alL _))) hoL j0 (by omega) (by omega) r turn fun s' H' out c I' jj na o' v' => ⟨_, rfl, ?_⟩
   refine alh ⟨_, rfl, .ref (s.heap.objs.size + 1), _, Pu I' (fa na) (o := .lst (t6 kz xs)) ⟨?_, out.toList, c, v', ?_⟩, rfl, h _ H' jj na⟩
   . have : (t6 kz xs).length = xs.length := by
       unfold t6
       rw [akD, xD, List.length_zip, hlen, Nat.min_self]
     rw [this]; exact hz
   . simpa using o'
end
section
variable {K : PySem.W.Frag} {CL : Str -> Addr} {Z : Hp} {g : D -> Int}
theorem Px {ds : List D} {us : List V} (h : aD K CL Z ds us) : Paired (fun (d : D) (p : Int × V) => g d = p.1 /\ bM K CL Z d p.2) ds ((ds.map g).zip us) :=
 aD.ind (P := fun ds us => Paired (fun (d : D) (p : Int × V) => g d = p.1 /\ bM K CL Z d p.2) ds ((ds.map g).zip us)) .nil (fun r _ i => .cons ⟨rfl, r⟩ i) h
theorem Py {ds : List D} {ps : List (Int × V)} (h : Paired (fun (d : D) (p : Int × V) => g d = p.1 /\ bM K CL Z d p.2) ds ps) : aD K CL Z ds (ps.map Prod.snd) := by
 induction h with
 | nil => exact .nil
 | cons r _ i => exact .cons r.2 i
theorem Pz {ds : List D} {us : List V} (r : aD K CL Z ds us) : aD K CL Z (iK g ds) (t6 (ds.map g) us) := Py (vN (fun p q h => h.1) (Px (g := g) r))
end
noncomputable def aex (X : Cx) (CL : Str -> Addr) (q : Str) (scope : Scope) (Nc : List Str) (body : Expr) (δc : List (Option T)) (ds : List D) (g : D -> Int) : Prop :=
 ∀ f c s0 H0 b' d, d ∈ ds -> dU (yF X X.A.in1.in1 q scope Nc f c s0 H0) CL b' body (some (.sh d) :: δc) (.int (g d)) (some (.sh d) :: δc)
section
variable {X : Cx} {CL : Str -> Addr} {b : Bx} {δ δ1 : List (Option T)} {e body : Expr} {ds : List L3.D} {g : L3.D -> Int} {scope : Scope} {y q tx : Str} {Nc : List Str} {ix : List Nat} {params : Arguments} {pos pp lp p2 : Pos}
theorem Ad (L : SG X CL tx q) (g0 : Gx X) (dp : X.A.depth < recursionLimit) (hm : X.mg "sorted" = none) (hg : Gl X "sorted") (sc : iG X scope y Nc ix) (h : dU X CL b e δ (.lst ds) δ1) (hi : D.bS ds = true) (hl : ds.length < 64)
   (inner : aex X CL q scope Nc body (Ce δ1 ix) ds g) (abN : defaultsOf params X.env = ([], []) := by rfl)
   (IB : ∀ cl pm cd ct u, bindArgs (PySem.W.kla_fn "<lambda>" q params body scope cl pm cd ct) ⟨[u], []⟩ = pure [(y, u)] := by intros; rfl) (hco : scope.isCoroutine = false := by rfl) (abO : scope.isGenerator = false := by rfl)
   (hs : starEach [e] X.env = (false, eval e X.env) :: starEach [] X.env := by exact bw rfl) :
   cJ X CL b (.Call (.Name "sorted" pp) [e] [⟨some "key", .Lambda params body scope lp, p2⟩] pos) δ (.lst ((iK g ds).map T.sh)) δ1 := by
 intro H Z σ ts vs Q S k pins s I
 have ha : PA X [e] (HG (Ca X e) Kn) := b8 dW dM hs
 have hk : PK X [⟨some "key", .Lambda params body scope lp, p2⟩] (HG (Ca X (.Lambda params body scope lp)) Kn) := Ng dW Rb
 refine alP (w6 I hg hm pB ?_)
 refine callWith_kw (eB (ha pos pins s σ H (fun vs' H1 => ∃ v Z1, vs' = [v] /\ aG Z Z1 /\ aG H H1 /\ bA X.K CL b H1 Z1 δ1 σ ts vs /\ bM X.K CL H1 (.lst ds) v) I (h H Z σ ts vs _ S fun v H1 Z1 z1 k1 S1 r => ⟨v, Z1, rfl, z1, k1, S1, r⟩)) fun us s1 zz => ?_) (by rw [hs]; rfl) (by rw [hs]; rfl) rfl rfl
 obtain ⟨vs1, H1, I1, r1, v1, Z1, e1, z1, k1, S1, rep1⟩ := zz
 subst e1
 have ag1 : H1 (CL tx) = some (.tabs q) := by
   have := S1.HV tx L.tab.1 L.tab.2.1
   rw [L.tab.2.2] at this
   exact this
 refine eB (hk pos pins s1 σ H1 (fun zs H2 => ∃ f c, zs = [.ref f] /\ aG H1 H2 /\ H2 f = some (.ext (SD f q params body scope (cX X.env scope.names []) c)) /\ H2 c = some (.Oq q)) I1
   (fun lB s' I' => abM L I' ag1 (fun y hy e => I'.ok.has y.1 (sc.frees y hy e).2) abN fun f c H2 s2 I2 k2 hf hc _ => ⟨.ref f, H2, I2, rfl, f, c, rfl, k2, hf, hc⟩)) fun ws s2 zz => ?_
 obtain ⟨zs, H2, I2, rz, f, c, e2, k2, hf, hc⟩ := zz
 subst e2
 obtain ⟨u, rfl, ru⟩ := rz.one
 cases ru
 obtain ⟨v, rfl, rv⟩ := r1.one
 cases rep1 with
 | @lst p us' _ hq rr =>
   cases rv
   show wpAny _ _ (call (.builtin "sorted") [.ref p] [(Str.ofString "key", .ref f)]) _ _ s2
   have hlen := rr.length
   refine Pw (J := fun H3 => ∃ Z3, aG H2 H3 /\ aG H2 Z3 /\ aG Z3 H3 /\ ∀ a o, H3 a = some o -> j6 o = true -> Z3 a = some o) (kz := ds.map g) I2 (k2.seq hq) (by rw [akD, hlen]) (by omega)
     ⟨H2, .refl _, .refl _, .refl _, fun _ _ q _ => q⟩ (fun i x kk hx hkk lB s' u H3 I3 zz rx => ?_) fun D H3 zz hD => ?_
   . obtain ⟨Z3, a1, a2, a3, a4⟩ := zz
     obtain ⟨d, hd, rd⟩ := rr.Rq hx
     have ek : kk = g d := by
       rw [ak0, hd] at hkk
       exact (akU hkk).symm
     subst ek
     refine SJ sc I3 I3.ok.frames (I3.ok.hd g0.calm) dp (a1 _ _ hf) (a1 _ _ hc) rx IB hco abO ?_
     have S0 : bA X.K CL ⟨H3, Z3⟩ H3 Z3 (some (.sh d) :: Ce δ1 ix) (xo σ ix (some x)) [] [] :=
       ⟨⟨[] ++ [], [], .cons (.sh (rd.mono (k2.trans a2))) ((zU S1 ix H3).mono (k2.trans a2) fun a ha => by cases ha), .nil, alG, fun a ha => by cases ha⟩, .refl _, .refl _, a3, fun a o q z => (by have z' : Z3 a = none := z; rw [show Z3 a = some o from q] at z'; cases z'), a4, S1.HV.mono (k2.trans a2)⟩
     refine inner f c s' H3 ⟨H3, Z3⟩ d (alr hd) H3 Z3 _ [] [] _ S0 fun v H5 Z5 z5 k5 S5 r5 => ⟨?_, Z5, a1.trans k5, a2.trans z5, S5.zh, S5.tp⟩
     cases r5
     rfl
   . obtain ⟨Z3, a1, a2, a3, a4⟩ := zz
     obtain ⟨Z', z', S4⟩ := S1.back (t := .sh (.int 0)) (v := .int 0) (fp := []) (k2.trans a1) S1.zh (k2.trans a2) a3 (fun a o q z => z) a4 (.sh (.int 0)) alG (fun a ha => by cases ha) (.inr rfl)
     obtain ⟨c5, S5⟩ := (bA.mD (Pz (g := g) ((aD.m5 S1.tp hi rr).mono z')) S4.pop).jD (g0 := []) (by simp [t6, xD, hlen]) hD
     exact k _ _ _ (z1.trans z') ((k1.trans (k2.trans a1)).trans c5) S5
variable {A : Around} {f c : Addr} {s : Shared} {H : Hp} {i : Nat} {x : Str}
theorem SM (h1 : Nc[i]? = some x) (h2 : scope.names.lookup x = some .local) (hd : (x == ("__debug__" : Str)) = false := by decide) (j4 : (x == ("__classdict__" : Str)) = false := by decide) : Vn (yF X A q scope Nc f c s H) i x := ⟨h1, .inl h2, hd, j4⟩
theorem EW (h1 : Nc[i]? = some x) (h2 : scope.names.lookup x = some .free) (hd : (x == ("__debug__" : Str)) = false := by decide) (j4 : (x == ("__classdict__" : Str)) = false := by decide) : Vn (yF X A q scope Nc f c s H) i x := ⟨h1, .inr (.inr h2), hd, j4⟩
theorem KY (h2 : scope.names.lookup x = some .globalImplicit) : Gl (yF X A q scope Nc f c s H) x := h2
theorem abR {k n : Nat} {B : Type} {arg : B -> List L3.D} {Pre : B -> Prop} {res : B -> T} (F : Fc X CL x k n arg Pre res) (r : dg (k + 1) X.A) : Fc (yF X X.A.in1.in1 q scope Nc f c s H) CL x k n arg Pre res :=
 ⟨F.ex, ⟨r.hd, by have := r.dp; show X.A.depth + 1 + 3 * k + 5 < _; omega, by have := r.un; show X.A.units + 1 + 1 + 3 + 16 * k + 200 < _; omega⟩⟩
end
theorem WZ {P : Program} {w : World} {K : PySem.W.Frag} {mg : Str -> Option Value} {base : Heap} {x qual : Str} {st : Stmt} {f : Addr} {fd : FuncData} {N ps : List Str} {k : Nat} {sp : Sp} (F : ki K x qual st f fd) (S : aM N ps (ao st)) (len : ∀ vs H Q E, sp vs H Q E -> vs.length = ps.length)
   (HK : ∀ (dF : Value) (A : Around) (outer : List Env) (s : Shared) (H : Hp) (vs : List V) (Q : VK) (E : XK), fd.code = dF -> dg k (A.deeper (envOfC qual (ao st) s.heap.objs.size f dF)) -> sp vs H Q E →
     ∃ t, J6 (yR fO P w K mg base N qual (ao st) f dF A outer s H E).QM (dS st) t /\ t { nx := fun _ H' => Q .non H', rt := Q } (L2.start N vs) H) : bN P w K mg base fO (k + 1) f fd ps sp := by
 obtain ⟨oc, od, kV, doc, pm, an, dF, ct, QC, rfl, lk, j4⟩ := F.ex
 refine ZM lk j4 S len fun A outer s H vs Q E hr Vw => ?_
 obtain ⟨t, h, q⟩ := HK dF A outer s H vs Q E rfl hr Vw
 exact ⟨t, h.QM, q⟩
theorem IG {P : Program} {w : World} {K : PySem.W.Frag} {mg : Str -> Option Value} {base : Heap} {CL : Str -> Addr} {x qual : Str} {st : Stmt} {f : Addr} {fd : FuncData} {N ps : List Str} {k : Nat} {A : Type} {arg : A -> List D} {Pre : A -> Prop} {res : A -> T} (F : ki K x qual st f fd) (S : aM N ps (ao st))
   (hb : ∀ (dF : Value) (Ar : Around) (outer : List Env) (s : Shared) (H : Hp) (E : XK) (b : Bx) (a : A), fd.code = dF -> dg k (Ar.deeper (envOfC qual (ao st) s.heap.objs.size f dF)) -> Pre a →
     eL (yR fO P w K mg base N qual (ao st) f dF Ar outer s H E).QM CL b (dS st) (entry N (arg a)) { nx := fun _ => res a = .sh .non, rt := fun t _ => t = res a }) :
   bN P w K mg base fO (k + 1) f fd ps (mE K CL ps.length arg Pre res) := by
 refine WZ F S (fun vs H Q E h => ?_) (fun dF Ar outer s H vs Q E j4 hr h => ?_)
 . obtain ⟨W, a, _, _, r, hl, _⟩ := h
   rw [← r.length]; exact hl
 . obtain ⟨W, a, wh, tp, r, hl, hp, tb, kk⟩ := h
   refine ⟨_, QD, hb dF Ar outer s H E ⟨H, W⟩ a j4 hr hp H W _ [] [] _ ⟨⟨[], [], ?_, .nil, alG, fun a ha => by cases ha⟩, .refl _, .refl _, wh, fun a o q z => ?_, tp, tb⟩ ⟨fun δ' σ' H' Z' s' S' e => ?_, fun t v H' Z' δ' σ' s' S' e => ?_, fun _ _ _ _ _ _ e => e.elim, fun _ _ _ _ _ _ e => e.elim⟩⟩
   . unfold entry L2.start
     rw [← r.length]
     exact jF _ r
   . have q' : W a = some o := q
     have z' : W a = none := z
     rw [q'] at z'; cases z'
   . exact kk .non H' Z' [] S'.bh S'.zz S'.zh S'.new S'.tp (by rw [show res a = .sh .non from e]; exact .sh .non) alG fun a ha => by cases ha
   . have e' : t = res a := e
     subst e'
     obtain ⟨fp, gp, _, r', nd, own⟩ := S'.rep
     cases r' with
     | @cons _ _ _ _ f1 f2 r1 r2 =>
       have h1 := (ak5.mp nd).2.1
       exact kk v H' Z' f1 S'.bh S'.zz S'.zh S'.new S'.tp r1 (ak5.mp h1).1 fun a ha => own a (aky _ (akF _ ha))
noncomputable def Ae (mg : Str -> Option Value) (base : Heap) : Prop := ∃ bm o, mg "__builtins__" = some (.ref bm) /\ bm ≠ builtinsNs /\ bm ≠ mainGlobals /\ base.get? bm = some o /\ o.cls = .type "module" /\ o.dict = some builtinsNs /\ o.data = .plain
theorem aey {CX : QB} {P : Program} {w : World} {K : PySem.W.Frag} {mg : Str -> Option Value} {base : Heap} {N : List Str} {qual : Str} {scope : Scope} {f c : Addr} {dF : Value} {A : Around} {outer : List Env} {s : Shared} {H : Hp} {E : XK} {CL : Str -> Addr} {tx q : Str} {fd : FuncData}
   (bl : Ae mg base) (kb : K.In base) (hc : fd.code = dF) (hf : fd.code = .ref c) (hd : PySem.W.codeHdIn K c (CL tx) = true) (h0 : CL tx ≠ 0) (hq : Kw tx = q := by decide +kernel) (ht : HS tx = true := by decide +kernel) (hn : qual ++ ".<locals>." ++ "<lambda>" = q := by decide +kernel) :
   SG (yR CX P w K mg base N qual scope f dF A outer s H E).QM CL tx q :=
 ⟨⟨c, hc.symm.trans hf, PySem.W.codeHd_of_K kb hd⟩, bl, hn, ht, h0, hq⟩
noncomputable def spT (K : PySem.W.Frag) (ts : List (Addr × Str)) {A : Type} (n : Nat) (arg : A -> List D) (Pre : A -> Prop) (res : A -> T) : Sp := fun vs H Q _ =>
 ∃ (W : Hp) (a : A), aG W H /\ (∀ c o, H c = some o -> j6 o = true -> W c = some o) /\ aD K (fun _ => 0) W (arg a) vs /\ (arg a).length = n /\ Pre a /\ (∀ p ∈ ts, W p.1 = some (.tabs p.2)) ∧
   ∀ v H' W' fp, aG H H' -> aG W W' -> aG W' H' -> (∀ c o, W' c = some o -> W c = none -> H c = none) -> (∀ c o, H' c = some o -> j6 o = true -> W' c = some o) →
     bR K (fun _ => 0) H' W' (res a) v fp -> fp.Nodup -> (∀ c ∈ fp, W' c = none /\ H c = none) -> Q v H'
theorem W0 {K : PySem.W.Frag} {CL : Str -> Addr} {ts : List (Addr × Str)} {arg : List Int -> List D} {pre : List Int -> Prop} {res : List Int -> T} (ha : ∀ a, arg a = [.lst (a.map .int)]) (hr : ∀ a, res a = .sh (.bl true)) (h0 : ∀ x, HS x = true -> CL x ≠ 0 -> (CL x, Kw x) ∈ ts) :
   ∀ (vs : List V) (H : Hp) (Q : VK) (E : XK), spT K ts 1 arg pre res vs H Q E -> mE K CL 1 arg pre res vs H Q E := by
 rintro vs H Q E ⟨W, a, h1, h2, h3, h4, h5, h6, k⟩
 have abS : ∀ {l : List Int} {us : List V}, aD K (fun _ => 0) W (l.map .int) us -> aD K CL W (l.map .int) us := by
   intro l
   induction l with
   | nil => intro us r; cases r; exact .nil
   | cons i l ih =>
     intro us r
     cases r with
     | cons r t => cases r; exact .cons (.int i) (ih t)
 refine ⟨W, a, h1, h2, ?_, h4, h5, fun x hx e => h6 _ (h0 x hx e), fun v H' W' fp a1 a2 a3 a4 a5 r nd own => k v H' W' fp a1 a2 a3 a4 a5 ?_ nd own⟩
 . rw [ha] at h3 ⊢
   cases h3 with
   | cons r t =>
     cases t
     cases r with
     | lst q rr => exact .cons (.lst q (abS rr)) .nil
 . rw [hr] at r ⊢
   cases r with
   | sh r => cases r; exact .sh (.bl _)
theorem W2 {K : PySem.W.Frag} {H : Hp} {a : Addr} {ts : List (Addr × Str)} {arg : List Int -> List D} {pre : List Int -> Prop} {res : List Int -> T} {ns : List Int} (ha : arg ns = [.lst (ns.map D.int)]) (hp : pre ns) (hr : res ns = .sh (.bl true)) (hS : mC K H a (ns.map V.int)) (ht : ∀ p ∈ ts, H p.1 = some (.tabs p.2)) :
   spT K ts 1 arg pre res [.ref a] H (fun v H' => v = .bl true /\ ∀ p ∈ ts, H' p.1 = some (.tabs p.2)) fun _ _ _ => False :=
 ⟨H, ns, .refl _, fun _ _ q _ => q, by rw [ha]; exact .cons (.lst hS (Ig ns)) .nil, by rw [ha]; rfl, hp, ht, fun v H' W' fp hh _ _ _ _ r _ _ => by
   refine ⟨?_, fun p hp => hh _ _ (ht p hp)⟩
   rw [hr] at r
   cases r with
   | sh r => exact r.sc rfl⟩
theorem ou : ∀ {ts : List (Addr × Str)} {b : Addr} {q : Str}, ts.lookup b = some q -> (b, q) ∈ ts
 | [], _, _, e => by cases e
 | (c, x) :: r, b, q, e => by
   rw [akW] at e
   cases hb : b == c with
   | true => rw [hb] at e; cases e; rw [eq_of_beq hb]; exact .head _
   | false => rw [hb] at e; exact .tail _ (ou e)
theorem PB {P : Program} {w : World} {K : PySem.W.Frag} {mg mb : Str -> Option Value} {k : Nat} {fa a : Addr} {fd : FuncData} {x : Str} {sp : Sp} {s₁ : Shared} {vs : List Value} {ns : List Int} {ts : List (Addr × Str)}
   (KX : K.In s₁.heap) (hns : s₁.heap.Ns mainGlobals mg) (hb : s₁.heap.Ns builtinsNs mb) (hbb : ∀ x : Str, x ≠ "__name__" -> mb x = bootBuiltins x) (ag2 : s₁.heap.NoLimit) (hg : s₁.gens = #[]) (hbl : Ae mg s₁.heap)
   (ha : s₁.heap.get? a = some { cls := .type "list", data := .seq vs.toArray }) (hi : IntsAre vs ns) (hl : ns.length <= sizeLine) (hr : dg k callerA)
   (hT : ∀ p ∈ ts, s₁.heap.get? p.1 = some (PySem.W.tabObj #[]) /\ ts.lookup p.1 = some p.2 /\ K.lookup p.1 = none /\ ∃ c, PySem.W.CodeHd s₁.heap c p.1)
   (F : ∀ base : Heap, K.In base -> base.Ns mainGlobals mg -> Ae mg base -> bN P w K mg base fO k fa fd [x] sp) (IB : ∀ (s : Shared) (u : Value), BindsTo s fd ⟨[u], []⟩ [(x, u)])
   (Vw : ∀ H : Hp, mC K H a (ns.map V.int) -> (∀ p ∈ ts, H p.1 = some (.tabs p.2)) -> sp [.ref a] H (fun v H' => v = .bl true /\ ∀ p ∈ ts, H' p.1 = some (.tabs p.2)) fun _ _ _ => False) :
   codeAny (model P w) callerA (.call (.ref fa) ⟨[.ref a], []⟩) (fun r s' => r = .ok (.ret (.bool true)) /\ OldK s₁.heap s'.heap /\ s'.os = s₁.os /\ AllBare s'.gens) s₁ := by
 have rv := DI hi
 have ag3 := hi.length
 have aT : ∀ p ∈ ts, p.1 ≠ a := fun p hp z => by
   have := (hT p hp).1
   rw [z, ha] at this; cases this
 have core : ∀ H : Hp, (∀ b, H b = none \/ (∃ o xs, b = a /\ H b = some (.fc o (.lst xs))) \/ ∃ p ∈ ts, b = p.1 /\ H b = some (.tabs p.2)) -> mC K H a (ns.map V.int) -> (∀ p ∈ ts, H p.1 = some (.tabs p.2)) -> ur P w H s₁.heap -> (H a ≠ none -> K.lookup a = none) →
     codeAny (model P w) callerA (.call (.ref fa) ⟨[.ref a], []⟩) (fun r s' => r = .ok (.ret (.bool true)) /\ OldK s₁.heap s'.heap /\ s'.os = s₁.os /\ AllBare s'.gens) s₁ := by
   intro H hO hS hH dJ hK
   have noA : ∀ {b : Addr} {o : Obj}, s₁.heap.get? b = some o -> o ≠ { cls := .type "list", data := .seq vs.toArray } -> o ≠ PySem.W.tabObj #[] -> H b = none := fun {b o} e d1 d2 => by
     rcases hO b with q | ⟨_, _, z, _⟩ | ⟨p, hp, z, _⟩
     . exact q
     . rw [z, ha] at e; exact absurd (akU e).symm d1
     . rw [z, (hT p hp).1] at e; exact absurd (akU e).symm d2
   have EX : ∀ {b : Addr} {o : Obj}, s₁.heap.get? b = some o -> H b = none -> (B7 s₁.heap H).get? b = some o := fun e n => QI e n
   have nsK : ∀ {b : Addr} {m : Str -> Option Value}, s₁.heap.Ns b m -> (B7 s₁.heap H).Ns b m := fun {b m} ⟨o, es, ep, e, d, r⟩ => ⟨o, es, ep, EX e (noA e (fun z => by rw [z] at d; cases d) fun z => by rw [z] at d; cases d), d, r⟩
   have hKb : K.In (B7 s₁.heap H) := fun b o e => EX (KX b o e) (by
     rcases hO b with q | ⟨_, _, z, q⟩ | ⟨p, hp, z, _⟩
     . exact q
     . subst z
       rw [hK (by rw [q]; simp)] at e; cases e
     . rw [z, (hT p hp).2.2.1] at e; cases e)
   have hM : Mod K mg (B7 s₁.heap H) := ⟨hKb, nsK hns, ⟨mb, nsK hb, hbb⟩, let ⟨mc, h1, h2⟩ := ag2; ⟨mc, nsK h1, h2⟩⟩
   have hBb : Ae mg (B7 s₁.heap H) := by
     obtain ⟨bm, o, b1, b2, b3, b4, b5, b6, b7⟩ := hbl
     exact ⟨bm, o, b1, b2, b3, EX b4 (noA b4 (fun z => by rw [z] at b7; cases b7) fun z => by rw [z] at b7; cases b7), b5, b6, b7⟩
   have e0 : Ko P w K mg (B7 s₁.heap H) callerA [] s₁ H := ⟨rfl, hM, fun b o e => VB e, Nat.le_of_eq (Ot _ _), trivial, fun b hb => absurd (show b ∈ ([] : List Addr) from hb) (by simp), dJ, .of_eq hg⟩
   refine codeAny_mono ((F _ hKb (nsK hns) hBb).run callerA [] s₁ H ⟨[.ref a], []⟩ [.ref a] [.ref a] _ _ hr e0 (IB s₁ (.ref a)) (.cons rfl .nil) (Vw H hS hH)) fun r s' h => ?_
   cases r with
   | error e => exact h.elim
   | ok fl =>
     cases fl with
     | next => exact False.elim h
     | brk => exact False.elim h
     | cont => exact False.elim h
     | ret u =>
       obtain ⟨v, H', os, bare, un, aez, r', q, qt⟩ := h
       subst q
       obtain rfl : u = Value.bool true := r'
       have tabAt : ∀ p ∈ ts, ∃ ps : Array Value, s'.heap.get? p.1 = some (PySem.W.tabObj ps) := fun p hp => by
         obtain ⟨ps, e, _⟩ := aez _ _ (qt p hp)
         exact ⟨ps, e⟩
       have keep : ∀ b o, s₁.heap.get? b = some o -> (∀ p ∈ ts, b ≠ p.1) -> s'.heap.get? b = some o := fun b o e nt => by
         rcases hO b with q | ⟨ob, xs, z, q⟩ | ⟨p, hp, z, _⟩
         . exact un.keep b o e q (by intro z; exact absurd (show b ∈ ([] : List Addr) from z) (by simp)) (by simp)
         . have z2 := un.iO b ob _ q
           obtain ⟨e1, _⟩ := dJ b _ q
           obtain ⟨e2, _⟩ := aez b _ z2
           rw [e] at e1; cases e1
           exact e2
         . exact absurd z (nt p hp)
       refine ⟨rfl, ⟨fun b o e => ?_, fun b o e => ?_⟩, os, bare⟩
       . by_cases nt : ∀ p ∈ ts, b ≠ p.1
         . exact .inl (keep b o e nt)
         . obtain ⟨p, hp, rfl⟩ : ∃ p ∈ ts, b = p.1 := Classical.byContradiction fun q => nt fun p hp z => q ⟨p, hp, z⟩
           obtain ⟨h1, _, _, c, hc⟩ := hT p hp
           obtain ⟨ps, e2⟩ := tabAt p hp
           rw [h1] at e; cases e
           exact .inr (.inl ⟨(hc.tab h1).isCodeTable, rfl, #[], ps, rfl, by rw [Array.empty_append]; exact e2⟩)
       . by_cases nt : ∀ p ∈ ts, b ≠ p.1
         . exact ⟨o, keep b o e nt⟩
         . obtain ⟨p, hp, rfl⟩ : ∃ p ∈ ts, b = p.1 := Classical.byContradiction fun q => nt fun p hp z => q ⟨p, hp, z⟩
           obtain ⟨ps, e2⟩ := tabAt p hp
           exact ⟨_, e2⟩
 have tok : ∀ {H : Hp} {b : Addr} {q : Str}, ts.lookup b = some q -> eV P w H s₁.heap b (.tabs q) := fun {H b q} e => by
   obtain ⟨h1, _⟩ := hT (b, q) (ou e)
   exact ⟨#[], h1, trivial, fun pos cv z => by simp [codeAmong] at z⟩
 cases hk : K.lookup a with
 | some o =>
   have e := KX a o hk
   rw [ha] at e
   cases e
   refine core (fun b => (ts.lookup b).map HO.tabs) (fun b => ?_) (.inr ⟨_, vs.toArray, _, hk, rfl, rfl, rfl, by rw [List.size_toArray, ag3]; exact hl, by simpa using rv⟩) (fun p hp => ?_) (fun b u z => ?_) fun z => ?_
   . cases q : List.lookup b ts with
     | none => left; rfl
     | some t => right; right; exact ⟨(b, t), ou q, rfl, rfl⟩
   . show (ts.lookup p.1).map HO.tabs = _
     rw [(hT p hp).2.1]; rfl
   . have z' : (ts.lookup b).map HO.tabs = some u := z
     cases q : List.lookup b ts with
     | none => rw [q] at z'; cases z'
     | some t => rw [q] at z'; cases z'; exact tok q
   . exfalso
     apply z
     show (ts.lookup a).map HO.tabs = none
     cases q : ts.lookup a with
     | none => rfl
     | some t => exact absurd rfl (aT (a, t) (ou q))
 | none =>
   refine core (fun b => if b = a then some (.fc { cls := .type "list", data := .seq vs.toArray } (.lst (ns.map V.int))) else (ts.lookup b).map HO.tabs) (fun b => ?_) (.inl (.inr ⟨{ cls := .type "list", data := .seq vs.toArray }, akJ rfl⟩)) (fun p hp => ?_) (fun b u z => ?_) fun _ => hk
   . by_cases hb : b = a
     . exact .inr (.inl ⟨_, _, hb, akJ hb⟩)
     . cases q : List.lookup b ts with
       | none => left; rw [akH hb]; rfl
       | some t => right; right; exact ⟨(b, t), ou q, rfl, by rw [akH hb]; rfl⟩
   . show (if p.1 = a then _ else (ts.lookup p.1).map HO.tabs) = _
     rw [akH (aT p hp), (hT p hp).2.1]; rfl
   . by_cases hb : b = a
     . have z' := (akJ hb).symm.trans z
       cases z'
       subst hb
       exact ⟨ha, by rw [akD]; exact hl, vs, _, rv, ha⟩
     . have z' : (ts.lookup b).map HO.tabs = some u := (akH hb).symm.trans z
       cases q : List.lookup b ts with
       | none => rw [q] at z'; cases z'
       | some t => rw [q] at z'; cases z'; exact tok q
theorem SN {l : PySem.W.OpenLaw} {n k : Nat} {q : Program} {loose : List Str} {XP : (Str -> Option Value) -> Heap -> Prop} {YP : World -> Heap -> Prop} {d : DefRec} {K : Params -> PySem.W.Frag} {sp : World -> List (Addr × Str) -> Sp} {x : Str} {T0 : List Addr}
   (hn : l.most = some n) (hn2 : n <= sizeLine) (hdf : d.params.defaults = []) (hr : dg k callerA)
   (hY : ∀ (w : World) (h : Heap), YP w h -> (K w.params).In h) (hT : ∀ (w : World) (h : Heap), YP w h -> ∀ P ∈ T0, h.get? P = some (PySem.W.tabObj #[]))
   (F : ∀ (w : World) (mg : Str -> Option Value) (fa : Addr) (h : Heap), (K w.params).In h -> h.Ns mainGlobals mg -> mg d.name = some (.ref fa) →
     ∃ (fd : FuncData) (ts : List (Addr × Str)), (∀ p ∈ ts, p.1 ∈ T0 /\ ts.lookup p.1 = some p.2 /\ (K w.params).lookup p.1 = none /\ ∃ c, PySem.W.CodeHd h c p.1) /\ (∀ (s : Shared) (u : Value), BindsTo s fd ⟨[u], []⟩ [(x, u)]) ∧
       ∀ base : Heap, (K w.params).In base -> base.Ns mainGlobals mg -> Ae mg base -> bN l.prog w (K w.params) mg base fO k fa fd [x] (sp w ts))
   (Vw : ∀ (w : World) (ts : List (Addr × Str)) (H : Hp) (a : Addr) (ns : List Int), ns.length <= n -> mC (K w.params) H a (ns.map V.int) -> (∀ p ∈ ts, H p.1 = some (.tabs p.2)) -> sp w ts [.ref a] H (fun v H' => v = .bl true /\ ∀ p ∈ ts, H' p.1 = some (.tabs p.2)) fun _ _ _ => False) :
   PySem.W.WalkO q loose XP YP l.row.toRowW d [] (fun f vs => PySem.call f vs) := by
 refine Att.HP hn hdf fun w s₀ s₁ mg mb fa o pm cd doc a vs ns G Y ho hd j4 hmg aa5 hints hlen hg => ?_
 have KX := hY w _ Y
 obtain ⟨fd, ts, hts, hb, hF⟩ := F w mg fa _ KX G.T.g hmg
 obtain ⟨bm, ob, b1, b2, b3, b4, b5, b6⟩ := G.T.bmain
 have hbG : bm ≠ mainGlobals := fun q => by
   obtain ⟨o, es, ep, e, hd, _⟩ := G.T.g
   rw [q, e] at b3; cases b3; rw [hd] at b6; cases b6
 exact PB KX G.T.g G.T.b G.T.builtins G.T.nolimit hg ⟨bm, ob, b1, b2, hbG, b3, b4, b5, b6⟩ aa5 hints (alq hlen hn2) hr (fun p hp => ⟨hT w _ Y _ (hts p hp).1, (hts p hp).2⟩) hF hb fun H hS ht => Vw w ts H a ns hlen hS ht
noncomputable def ag4 (y : Int) : Value -> Bool
 | .int i _ => i == y
 | _ => false
section
variable {X : Cx}
theorem SQ : MtR X "list.index" (fun x xs H Q => ∃ (p : Addr) (l : List Int) (y : Int) (j : Nat), x = .ref p /\ xs = [.int y] /\ mC X.K H p (l.map .int) /\ l[j]? = some y /\ (∀ i, i < j -> l[i]? ≠ some y) /\ Q (.int (j : Int)) H) := by
 intro pins s σ H x xs v us Q I rx rs h
 obtain ⟨p, l, y, j, rfl, rfl, hq, hj, W3, q⟩ := h
 cases rx
 obtain ⟨u, rfl, ru⟩ := rs.one
 obtain ⟨t, rfl⟩ := ru
 obtain ⟨its, r, ⟨⟨oc, od, oda, QC⟩, n, e, hc, hd, hs⟩, hz⟩ := I.list hq
 dsimp only at hc hd hs
 subst hc hd hs
 have hi := intsAre_of r
 have at' : ∀ {i : Nat} (hi : i < its.toArray.size), ∃ k t, its.toArray[i] = .int k t /\ l[i]? = some k := fun {i} vo => by
   have ag5 : i < its.length := by simpa using vo
   have hl : i < l.length := by have := r.length; rw [akD] at this; omega
   obtain ⟨u, e1, e2⟩ := r.get (i := i) (x := .int l[i]) (by rw [ak0, akX hl]; rfl)
   obtain ⟨t, rfl⟩ := e2
   refine ⟨l[i], t, ?_, akX hl⟩
   rw [akX ag5] at e1
   simpa using Option.some.inj e1
 have NS : j < its.toArray.size := by
   have h1 := (ak7.mp hj).1
   have := r.length
   rw [akD] at this
   simp; omega
 have hsz : its.toArray.size <= sizeLine := by
   have := r.length
   rw [akI, ← this]; exact hz
 refine amd F.slot_list_index ⟨_, e, rfl⟩ F.entry_list_index (F.args_list_index_2 _ _) (SeqAt.list_indexAt p its.toArray n none QC (.int y t) (ag4 y) j NS (by rw [alb] at hsz; omega) ?hit fun m hm hmj => ?no) ⟨e, fun w hw => ?eqs, ?_⟩
 case hit =>
   obtain ⟨k, t', e1, e2⟩ := at' NS
   rw [e1]
   rw [hj] at e2
   cases e2
   exact alN y
 case no =>
   obtain ⟨k, t', e1, e2⟩ := at' hm
   rw [e1]
   exact alU.mpr fun z => W3 m hmj (by rw [e2, z])
 case eqs =>
   obtain ⟨i, vo, rfl⟩ := Array.mem_iff_getElem.mp hw
   obtain ⟨k, t', e1, e2⟩ := at' vo
   rw [e1]
   exact SeqAt.EqAt.int_int k t' y t
 exact ⟨.int (j : Int), H, I.tok _, ⟨_, rfl⟩, q⟩
end
section
variable {X : Cx} {CL : Str -> Addr} {b : Bx} {δ δ1 δ2 : List (Option T)} {o e : Expr} {apos pos : Pos}
theorem SR {l : List Int} {y : Int} {j : Nat} (h1 : dU X CL b o δ (.lst (l.map .int)) δ1) (h2 : dU X CL b e δ1 (.int y) δ2) (hj : l[j]? = some y) (W3 : ∀ i, i < j -> l[i]? ≠ some y)
   (j5 : attributeBase o "index" X.env (eval o X.env) = eval o X.env := by rfl) (qP : ((backTo pos (starEach [e] X.env)).all (fun x => !x.1) && (backToKw pos (keywordEach [] X.env)).all (fun x => x.1.isSome)
     && decide (([e] : List Expr).length + ([] : List Keyword).length + (if ([] : List Keyword).isEmpty then 0 else 1) < 30)) = true := by rfl)
   (hline : (apos.endLine == pos.line) = true := by rfl) (hs : starEach [e] X.env = (false, eval e X.env) :: starEach [] X.env := by exact bw rfl) (Ks : (backTo pos (starEach [] X.env)).any (·.1) = false := by rfl) :
   cJ X CL b (.Call (.Attribute o "index" apos) [e] [] pos) δ (.sh (.int (j : Int))) δ2 := fun H Z σ ts vs Q S k =>
 cL (zP (T := "list") (id := "list.index") F.plainAttrs_list F.slot_list_index F.type_list_index SQ dW (b8 dW dM hs) j5 qP hline hs Ks) (h1 H Z σ ts vs _ S fun v1 H1 Z1 z1 k1 S1 r1 => by
   cases r1 with
   | @lst a us _ hq rr =>
     have := sF rr
     subst this
     refine ⟨?_, h2 H1 Z1 σ ts vs _ S1 fun v2 H2 Z2 z2 k2 S2 r2 => ?_⟩
     . exact .inl ⟨rfl, _, hq⟩
     . cases r2
       exact ⟨a, l, y, j, rfl, rfl, k2.seq hq, hj, W3, k _ H2 Z2 (z1.trans z2) (k1.trans k2) (S2.push (.int _))⟩)
end
section
variable {X : Cx} {CL : Str -> Addr} {b : Bx} {δ : List (Option T)} {e : Expr} {es : List Expr} {d : L3.D} {ds : List L3.D}
end
theorem NT {k : Nat} {A : Around} (r : dg k A) : A.depth < recursionLimit := by
 have := r.dp
 omega
section
variable {X : Cx} {CL : Str -> Addr} {b : Bx} {δ δ1 : List (Option T)} {scope : Scope} {y : Str} {Nc : List Str} {ix : List Nat} {elt iter : Expr} {ifs : List Expr} {px pos : Pos} {p : L3.D -> Bool} {g : L3.D -> T} {ds : List L3.D}
end
section
variable {X : Cx}
end
section
variable {X : Cx} {CL : Str -> Addr} {b : Bx} {δ δ1 : List (Option T)} {e : Expr} {pos pp pq pr : Pos}
end
section
variable {X : Cx} {CL : Str -> Addr} {b : Bx} {δ δ1 : List (Option T)} {ds : List L3.D} {i q : Nat} {x y : Str} {pos pp pos' : Pos}
end
section
variable {X : Cx} {CL : Str -> Addr} {b : Bx} {e o : Expr} {δ δ1 δ2 : List (Option T)} {pos apos : Pos}
end
section
variable {X : Cx} {tg : Expr}
end
section
variable {X : Cx} {CL : Str -> Addr} {b : Bx} {δ δ1 δ2 δ3 : List (Option T)} {e e1 e2 e3 : Expr} {ds zZ : List L3.D} {pos p2 pr pc : Pos} {tg : Expr}
end
section
variable {X : Cx} {elts : List Expr} {kk : Nat} {pt : Pos}
end
section
variable {X : Cx} {CL : Str -> Addr} {b : Bx} {δ δ1 δ2 : List (Option T)} {e e1 e2 : Expr} {ds es : List D} {elts : List Expr} {kk : Nat} {pt pr pc pos apos : Pos}
end
section
variable {X : Cx} {CL : Str -> Addr} {b : Bx} {δ δ1 δ2 : List (Option T)} {e e2 : Expr} {t : T} {tl HW tt tt0 : List T} {DD : cE} {d8 : List Stmt} {x : Str} {i : Nat} {pos pp pa pb ps : Pos}
theorem SV {ds : List L3.D} (h : dU X CL b e δ (.lst ds) δ1) (he : ∀ whole, isTrue e X.env whole = (do let v ← whole; standAt e.pos; holding [v] (truthy v)) := by intro _; rfl) : yw X CL b e δ (!ds.isEmpty) δ1 := fun H Z σ ts vs Q S k =>
 HR (QZ dW he) (h H Z σ ts vs _ S fun v H1 Z1 z1 k1 S1 r => by
   cases r with
   | @lst a us _ hq rr =>
     refine ⟨_, .inl ⟨us, hq, rfl⟩, ?_⟩
     have e : us.isEmpty = ds.isEmpty := by
       have := rr.length
       cases us <;> cases ds <;> simp at this ⊢
     rw [e]
     exact k H1 Z1 z1 k1 S1)
end
section
variable {X : Cx}
end
section
variable {X : Cx} {CL : Str -> Addr} {b : Bx} {δ δ1 δ2 : List (Option T)} {o e : Expr} {apos pos : Pos}
end
section
variable {K : PySem.W.Frag} {CL : Str -> Addr} {b : Bx} {H Z : Hp} {δ : List (Option T)} {σ : L2.St} {ts tl : List T} {vs : List V} {t : T} {v : V} {d : D}
end
section
variable {X : Cx} {CL : Str -> Addr} {b : Bx} {δ δ1 δ2 : List (Option T)} {e e1 e2 : Expr} {t : T} {d : L3.D} {DD : cE} {pos pp ps : Pos} {i : Nat} {x : Str} {d8 : List Stmt} {kvs : List (List Key × L3.D)} {k : List Key}
end
section
variable {X : Cx}
end
section
variable {X : Cx} {CL : Str -> Addr} {b : Bx} {δ δ1 : List (Option T)} {e : Expr} {pos pp pq pr : Pos}
end
section
variable {X : Cx} {CL : Str -> Addr} {b : Bx} {δ δ1 δ2 : List (Option T)} {e1 e2 e3 : Expr} {pos : Pos}
end
section
variable {prog : Program} {w : World} {A : Around} {E : Value -> Shared -> Prop} {s : Shared}
noncomputable def SW (ns : List Str) (i : Nat) (q : Str) : Bool := decide (q ∈ ns.take i)
end
section
variable {X : Cx}
end
section
variable {X : Cx} {CL : Str -> Addr} {b : Bx} {δ δ1 : List (Option T)} {e : Expr} {pos pp pq pr : Pos}
end
section
variable {X : Cx} {CL : Str -> Addr} {b : Bx} {δ δ1 δ2 : List (Option T)} {e1 e2 : Expr} {pos : Pos} {kvs : List (Key × D)}
end
section
variable {X : Cx} {CL : Str -> Addr} {b : Bx} {δ δ1 δ2 : List (Option T)} {e1 e2 : Expr} {pos : Pos}
end
section
variable {X : Cx} {CL : Str -> Addr} {b : Bx} {δ δ1 : List (Option T)} {i q : Nat} {x y : Str} {pos pp pos' : Pos}
variable {K : PySem.W.Frag} {H Z : Hp} {σ : L2.St} {ts tl : List T} {vs us : List V} {t u : T} {v w : V} {a : Addr}
end
section
variable {K : PySem.W.Frag} {CL : Str -> Addr} {b : Bx} {H Z : Hp} {δ : List (Option T)} {σ : L2.St} {ts tl : List T} {vs : List V} {t : T} {i : Nat}
end
section
variable {X : Cx} {CL : Str -> Addr} {b : Bx} {δ δ1 δ2 : List (Option T)} {e e1 e2 : Expr} {t : T} {tl : List T} {ds zZ : List L3.D} {D : cE} {pos pp pa : Pos} {d8 : List Stmt} {i : Nat} {x : Str}
theorem aad {d : L3.D} (h : δ[i]? = some (some t)) (q : t.fc = d) (k : eL X CL b d8 (δ.set i (some (.sh d))) D) : eL X CL b d8 δ D := fun H Z σ ts vs E S M => by
 subst q
 obtain ⟨v, Z', _, z, S'⟩ := S.V6 h
 exact k H Z' σ ts vs E S'.pop (M.mono z)
end
end L3
namespace L2
open PySem PySem.Spec PyProof.Rows
section
variable {X : Cx} {pins : List (Addr × Obj)} {σ : St} {H : Hp} {s : Shared}
section
variable {H' : Hp} {e C : Addr} {a0 : Value} {B : Heap} {s' : Shared}
end
end
section
variable {X : Cx}
end
end L2
namespace L3
open PySem PySem.Spec PyProof.Rows L2
section
variable {X : Cx} {CL : Str -> Addr} {b : Bx} {δ δ1 δ2 : List (Option T)} {e : Expr} {es : List Expr} {d8 : List Stmt} {D : cE} {x c : Str} {i : Nat} {pos pp : Pos} {W : XK}
end
end L3
namespace L2
open PySem PySem.Spec PyProof.Rows
section
variable {prog : Program} {w : World} {A : Around} {E : Value -> Shared -> Prop} {s : Shared} {K : PySem.W.Frag} {x D : Addr}
open PySem.W in
open PySem PySem.Calls PyProof.Rows Builtin Builtin.ObjectAttr Builtin.Getset_descriptor PySem.W PySem.Builtin.ObjectAttr in
variable {X : Cx}
section
variable {pins : List (Addr × Obj)} {σ : St} {H H' : Hp} {s s' : Shared} {e C : Addr} {a0 : Value} {B : Heap}
end
end
end L2
namespace L3
open PySem PySem.Spec PyProof.Rows L2
section
variable {X : Cx} {CL : Str -> Addr} {b : Bx} {δ δ1 δ2 : List (Option T)} {e e1 e2 : Expr} {es : List Expr} {d8 : List Stmt} {D : cE} {x c : Str} {i : Nat} {pos pp : Pos} {W : XK}
end
section
variable {prog : Program} {w : World} {A : Around} {E : Value -> Shared -> Prop} {s : Shared}
noncomputable def cD (ns : List Str) : Nat -> Nat
 | 0 => 0
 | i + 1 => cD ns i + (if SW ns i (ns.getD i Str.empty) = true then 0 else 1)
theorem aae (ns : List Str) : ∀ i, cD ns i <= i
 | 0 => akG _
 | i + 1 => by have := aae ns i; unfold cD; split <;> omega
end
section
variable {X : Cx}
end
section
variable {X : Cx} {CL : Str -> Addr} {b : Bx} {δ δ1 : List (Option T)} {e : Expr} {pos pp pq pr : Pos}
end
theorem NV {ns : List Str} : ∀ i, i <= ns.length -> (cD ns i = i ↔ (ns.take i).Nodup)
 | 0, _ => by rw [al9]; exact ⟨fun _ => alG, fun _ => rfl⟩
 | i + 1, hi => by
   have ih := NV (ns := ns) i (by omega)
   have hle := aae ns i
   have hx : ns[i]? = some (ns.getD i Str.empty) := by rw [ale, akX (by omega)]; rfl
   rw [al5, hx, Option.toList_some, ak5, ← ih]
   show cD ns i + (if SW ns i (ns.getD i Str.empty) = true then 0 else 1) = i + 1 ↔ _
   unfold SW
   by_cases z : ns.getD i Str.empty ∈ ns.take i
   . rw [akJ (al1 z)]
     refine ⟨fun q => by omega, fun q => absurd rfl (q.2.2 _ z _ (alg.mpr rfl))⟩
   . rw [akH (fun q => z (alv q))]
     refine ⟨fun q => ⟨by omega, alk.mpr ⟨akR, alG⟩, fun a ha c hc e => z ?_⟩, fun q => by omega⟩
     rw [← alg.mp hc, ← e]
     exact ha
theorem EY {ns : List Str} : cD ns ns.length = ns.length ↔ ns.Nodup := by
 have := NV (ns := ns) ns.length (akG _)
 rwa [aly] at this
theorem SX (l q : Addr) (xs ys : Array Value) (n m : Nat) (dq : Option Addr) (sq : Array (Option Value)) (hc : ¬(!xs.isEmpty && Builtin.List.listTooLong (xs.size + ys.size)) = true) (hx : xs.size <= sizeLine) (hy : xs.size + ys.size <= sizeLine + 1) :
   PySem.Meets (Builtin.«list.extend» ⟨[.ref l, .ref q], []⟩) (fun _ R s => s.heap.get? l = some { cls := .type "list", dict := none, data := .seq xs n, slots := #[] } /\ s.heap.get? q = some { cls := .type "list", dict := dq, data := .seq ys m, slots := sq } ∧
     R (.ok (.ret Value.none)) { s with heap := s.heap.update l (Obj.mapSeq fun x => x ++ ys), toks := s.toks }) :=
 PySem.Meets.of_wp fun prog w A R s h => by
   obtain ⟨hp, g, d, tk, os⟩ := s
   obtain ⟨hl, hb, h⟩ := h
   have f1 := AutoSeq1.idx_int
   have f2 := AutoSeq1.sub_tuple_tuple
   have f3 := AutoSeq1.sub_list_list
   have f4 := AutoSeq1.sub_tuple_list
   have f5 := AutoSeq1.sub_list_tuple
   have hz : (xs ++ ys).size <= sizeLine + 1 := by
     rw [Array.size_append]
     exact hy
   wp_walk using (wpAny_updateSeq hl rfl (hz := hx) (_hz' := hz)), wpAny_loadPart' hl, wpAny_loadPart' hb
   exact ⟨_, rfl, h⟩
noncomputable def aeA (K : PySem.W.Frag) : V -> List V -> Hp -> VK -> Prop := fun x vs H Q => ∃ l q xs zs, x = .ref l /\ vs = [.ref q] /\ H l = some (.lst xs) /\ mC K H q zs /\ xs.length + zs.length <= sizeLine /\ Q .non (upd H l (.lst (xs ++ zs)))
theorem W4 {X : Cx} : MtM X "list.extend" (aeA X.K) := by
 intro pins s σ H x vs v us Q I rx rv h
 obtain ⟨l, q, xs, zs, rfl, rfl, hH, hB, hz, k⟩ := h
 cases rx
 obtain ⟨u, rfl, ru⟩ := rv.one
 cases ru
 obtain ⟨z, its, n, r, hl, e⟩ := I.OO hH
 obtain ⟨qE, r2, ⟨⟨c2, d2, da2, s2⟩, n2, e2, RZ, _, hd2⟩, z2⟩ := I.list hB
 cases RZ
 cases hd2
 have hl2 := r2.length
 have hsz : its.toArray.size + qE.toArray.size <= sizeLine := by
   rw [akI, akI]
   omega
 have zQ : ¬ (!its.toArray.isEmpty && Builtin.List.listTooLong (its.toArray.size + qE.toArray.size)) = true := by
   rw [vC hsz, Bool.and_false]
   decide
 refine amd F.slot_list_extend ⟨_, e, rfl⟩ F.entry_list_extend (F.args_list_extend_2 _ _) (SX l q its.toArray qE.toArray n n2 d2 s2 zQ (by rw [akI]; omega) (by omega)) ⟨e, e2, ?_⟩
 refine ⟨.non, _, I.Ri (its' := its ++ qE) hH e (by simp) (r.append r2) ?_, rfl, k⟩
 rw [ak1]
 omega
section
variable {K : PySem.W.Frag} {CL : Str -> Addr} {b : Bx} {H Z : Hp} {δ : List (Option T)} {σ : L2.St} {ts tl : List T} {vs : List V} {ds : List D} {us : List V} {y : Addr}
end
section
variable {X : Cx} {CL : Str -> Addr} {b : Bx} {δ δ1 : List (Option T)} {e : Expr} {tl HW : List T} {ds : List L3.D} {D : cE} {pos pp pa pb : Pos} {i : Nat} {x : Str} {d8 : List Stmt} {y : Addr}
end
section
variable {X : Cx}
end
section
variable {X : Cx} {CL : Str -> Addr} {b : Bx} {δ δ1 δ2 : List (Option T)} {o e : Expr} {apos pos : Pos}
end
section
variable {K : PySem.W.Frag} {CL : Str -> Addr} {b : Bx} {H Z : Hp} {δ : List (Option T)} {σ : L2.St} {ts tl : List T} {vs : List V} {ds : List D} {R9 : List V}
end
section
variable {X : Cx} {CL : Str -> Addr} {b : Bx} {δ δ1 : List (Option T)} {e : Expr} {tl HW tt tt0 : List T} {ds : List L3.D} {D : cE} {pos pp pa pb pc ps : Pos} {i : Nat} {x : Str} {d8 : List Stmt} {kj : Nat}
end
inductive II where
 | ix (j : Nat) | fld (f : Str)
noncomputable def T.core : T -> T
 | .pin _ t => t
 | t => t
noncomputable def T.KZ : T -> T -> T
 | .pin y _, u => .pin y u
 | _, u => u
noncomputable def T.kid : II -> T -> Option T
 | .ix j, .lst ts => ts[j]?
 | .ix j, .tup ts => ts[j]?
 | .fld f, .ins _ fs => fs.lookup f
 | _, _ => none
noncomputable def T.SY : II -> T -> T -> T
 | .ix j, .lst ts, u => .lst (ts.set j u)
 | .ix j, .tup ts, u => .tup (ts.set j u)
 | .fld f, .ins c fs, u => .ins c (ko f u fs)
 | _, t, _ => t
noncomputable def T.qG : List II -> T -> Option T
 | [], t => some t.core
 | s :: p, t => (t.core.kid s).bind (T.qG p)
noncomputable def T.xE : List II -> T -> T -> T
 | [], u, t => t.KZ u
 | s :: p, u, t => match t.core.kid s with
   | some k => t.KZ (t.core.SY s (T.xE p u k))
   | none => t
noncomputable def W5 (H : Hp) (v : V) : II -> V -> Prop
 | .ix j, w => ∃ a us, v = .ref a /\ (H a = some (.lst us) \/ H a = some (.tup us)) /\ us[j]? = some w
 | .fld f, w => ∃ a C dx gs, v = .ref a /\ H a = some (.ins C dx gs) /\ gs.lookup f = some w
noncomputable def DT (H : Hp) : V -> List II -> V -> Prop
 | v, [], w => v = w
 | v, s :: p, w => ∃ u, W5 H v s u /\ DT H u p w
theorem W5.mono {H H' : Hp} (e : aG H H') {v w : V} {s : II} (h : W5 H v s w) : W5 H' v s w := by
 cases s with
 | ix j => obtain ⟨a, us, h1, h2, h3⟩ := h; exact ⟨a, us, h1, h2.imp (e _ _) (e _ _), h3⟩
 | fld f => obtain ⟨a, C, dx, gs, h1, h2, h3⟩ := h; exact ⟨a, C, dx, gs, h1, e _ _ h2, h3⟩
theorem W5.inj {H : Hp} {v w w' : V} {s : II} (h : W5 H v s w) (q : W5 H v s w') : w = w' := by
 cases s with
 | ix j =>
   obtain ⟨a, us, h1, h2, h3⟩ := h
   obtain ⟨a', us', q1, q2, q3⟩ := q
   subst h1
   cases q1
   have e : us = us' := by
     rcases h2 with h2 | h2 <;> rcases q2 with q2 | q2 <;> rw [h2] at q2 <;> cases q2 <;> rfl
   subst e
   rw [h3] at q3
   exact akU q3
 | fld f =>
   obtain ⟨a, C, dx, gs, h1, h2, h3⟩ := h
   obtain ⟨a', C', dx', gs', q1, q2, q3⟩ := q
   subst h1
   cases q1
   rw [h2] at q2
   cases q2
   rw [h3] at q3
   exact akU q3
theorem DT.mono {H H' : Hp} (e : aG H H') : ∀ {p : List II} {v w : V}, DT H v p w -> DT H' v p w
 | [], _, _, h => h
 | _ :: _, _, _, ⟨u, h, q⟩ => ⟨u, h.mono e, DT.mono e q⟩
theorem DT.inj {H : Hp} : ∀ {p : List II} {v w w' : V}, DT H v p w -> DT H v p w' -> w = w'
 | [], _, _, _, h, q => h.symm.trans q
 | _ :: _, _, _, _, ⟨_, h1, h2⟩, ⟨_, q1, q2⟩ => by
   have := h1.inj q1
   subst this
   exact DT.inj h2 q2
theorem DT.snoc {H : Hp} {s : II} : ∀ {p : List II} {v w z : V}, DT H v p w -> W5 H w s z -> DT H v (p ++ [s]) z
 | [], _, _, z, h, q => by
   have h' : _ = _ := h
   subst h'
   exact ⟨z, q, rfl⟩
 | _ :: _, _, _, _, ⟨u, h1, h2⟩, q => ⟨u, h1, DT.snoc h2 q⟩
section
variable {K : PySem.W.Frag} {CL : Str -> Addr} {b : Bx} {H H' Z Z' : Hp} {δ δ' : List (Option T)} {σ σ' : L2.St} {ts tl : List T} {vs us : List V} {t u t0 : T} {v v0 w : V} {fp : List Addr} {i : Nat} {p : List II}
theorem bR.S6 (h : bR K CL H Z t v fp) : bR K CL H Z t.core v fp /\ ∀ {H' Z' : Hp} {u : T} {g : List Addr}, bR K CL H' Z' u v g -> bR K CL H' Z' (t.KZ u) v g := by
 cases h with
 | pin r => exact ⟨r, fun q => .pin q⟩
 | sh r => exact ⟨.sh r, fun q => q⟩
 | tup r q => exact ⟨.tup r q, fun q => q⟩
 | lst r q => exact ⟨.lst r q, fun q => q⟩
 | ins r q => exact ⟨.ins r q, fun q => q⟩
 | oj r q => exact ⟨.oj r q, fun q => q⟩
 | dct r q => exact ⟨.dct r q, fun q => q⟩
theorem cQ.at {f : Str} {t : T} : ∀ (fs : List (Str × T)) {gs : List (Str × V)} {fp : List Addr}, cQ K CL H Z fs gs fp -> fs.lookup f = some t -> ∃ w f1 f2 f3, gs.lookup f = some w /\ fp = f1 ++ (f2 ++ f3) /\ bR K CL H Z t w f2 ∧
   ∀ {H' : Hp} {t' : T} {g : List Addr}, (∀ a ∈ f1 ++ f3, H' a = H a) -> bR K CL H' Z t' w g -> cQ K CL H' Z (ko f t' fs) gs (f1 ++ (g ++ f3)) := by
 intro fs
 induction fs with
 | nil => intro gs fp h e; cases e
 | cons p fs ih =>
   obtain ⟨x, t0⟩ := p
   intro gs fp h e
   cases h with
   | @cons _ _ v _ vs f0 g0 r rs =>
     rw [akW] at e
     cases hx : f == x with
     | true =>
       rw [hx] at e
       cases e
       have hxe : x = f := (amc.mp hx).symm
       refine ⟨v, [], f0, g0, by rw [akW, hx], rfl, r, fun {H' t' g} kk r' => ?_⟩
       rw [ko, akJ hxe]
       exact cQ.cons (fp := g) (gp := g0) r' (rs.mono (.refl _) fun a ha => kk a (by simpa using ha))
     | false =>
       rw [hx] at e
       obtain ⟨w, f1, f2, f3, h1, h2, h3, h4⟩ := ih rs e
       subst h2
       refine ⟨w, f0 ++ f1, f2, f3, by rw [akW, hx]; exact h1, by rw [akx], h3, fun {H' t' g} kk r' => ?_⟩
       rw [ko, akH (fun z => by rw [z, alN] at hx; cases hx), akx]
       exact .cons (r.mono (.refl _) fun a ha => kk a (by simp [ha])) (h4 (fun a ha => kk a (by rw [akx]; exact aky _ ha)) r')
theorem bR.kid {s : II} {k : T} (zh : aG Z H) (h : bR K CL H Z t v fp) (hk : t.kid s = some k) : ∃ w f1 f2 f3, W5 H v s w /\ fp = f1 ++ (f2 ++ f3) /\ bR K CL H Z k w f2 ∧
   ∀ {H' : Hp} {k' : T} {g : List Addr}, (∀ c ∈ f1 ++ f3, H' c = H c) -> bR K CL H' Z k' w g -> bR K CL H' Z (t.SY s k') v (f1 ++ (g ++ f3)) := by
 cases s with
 | ix j =>
   cases h with
   | @lst a us ts g ha rs =>
     obtain ⟨w, f1, f2, f3, h1, h2, h3, h4⟩ := rs.at (j := j) (t := k) hk
     subst h2
     refine ⟨w, a :: f1, f2, f3, ⟨a, us, rfl, .inl ha, h1⟩, rfl, h3, fun {H' k' g} kk r' => ?_⟩
     have q := h4 (fun c hc => kk c (akE _ hc)) r'
     rw [eW h1] at q
     exact .lst ((kk a akA).trans ha) q
   | @tup a us ts g ha rs =>
     obtain ⟨w, f1, f2, f3, h1, h2, h3, h4⟩ := rs.at (j := j) (t := k) hk
     subst h2
     refine ⟨w, f1, f2, f3, ⟨a, us, rfl, .inr (zh _ _ ha), h1⟩, rfl, h3, fun {H' k' g} kk r' => ?_⟩
     have q := h4 kk r'
     rw [eW h1] at q
     exact .tup ha q
   | _ => cases hk
 | fld f =>
   cases h with
   | @ins a dx c gs fs g ha rs =>
     obtain ⟨w, f1, f2, f3, h1, h2, h3, h4⟩ := cQ.at fs rs (f := f) (t := k) hk
     subst h2
     refine ⟨w, a :: f1, f2, f3, ⟨a, _, dx, gs, rfl, ha, h1⟩, rfl, h3, fun {H' k' g} kk r' => ?_⟩
     exact .ins ((kk a akA).trans ha) (h4 (fun c hc => kk c (akE _ hc)) r')
   | _ => cases hk
theorem bR.focus (zh : aG Z H) : ∀ (p : List II) {t u : T} {v : V} {fp : List Addr}, bR K CL H Z t v fp -> T.qG p t = some u -> ∃ w f1 f2 f3, DT H v p w /\ fp = f1 ++ (f2 ++ f3) /\ bR K CL H Z u w f2 ∧
   ∀ {H' : Hp} {u' : T} {g : List Addr}, (∀ c ∈ f1 ++ f3, H' c = H c) -> bR K CL H' Z u' w g -> bR K CL H' Z (T.xE p u' t) v (f1 ++ (g ++ f3))
 | [], t, u, v, fp, h, e => by
   obtain ⟨h1, h2⟩ := h.S6
   cases e
   exact ⟨v, [], fp, [], rfl, by simp, h1, fun {H' u' g} _ r => by rw [alA, akK]; exact h2 r⟩
 | s :: p, t, u, v, fp, h, e => by
   obtain ⟨h1, h2⟩ := h.S6
   rw [T.qG] at e
   cases hk : t.core.kid s with
   | none => rw [hk] at e; cases e
   | some k =>
     rw [hk] at e
     obtain ⟨w1, a1, a2, a3, q1, q2, q3, q4⟩ := h1.kid zh hk
     obtain ⟨w, f1, f2, f3, r1, r2, r3, r4⟩ := bR.focus zh p q3 e
     subst q2 r2
     refine ⟨w, a1 ++ f1, f2, f3 ++ a3, ⟨w1, q1, r1⟩, by simp only [akx], r3, fun {H' u' g} kk r' => ?_⟩
     rw [T.xE, hk]
     have q := h2 (q4 (k' := T.xE p u' k) (fun c hc => kk c (by
       rcases akC.mp hc with h | h
       . simp [h]
       . simp [h])) (r4 (fun c hc => kk c (by
       rcases akC.mp hc with h | h
       . simp [h]
       . simp [h])) r'))
     simpa only [List.append_assoc] using q
theorem bA.K0 (S : bA K CL b H Z δ σ ts vs) (ev : σ[i]? = some (some v0)) (hi : δ[i]? = some (some t0)) (hp : T.qG p t0 = some u) (DU : DT H v0 p w) : ∃ f2 gp, bR K CL H Z u w f2 /\ aL K CL H Z ts vs gp /\ (f2 ++ gp).Nodup ∧
   ∀ {a : Addr} {o : HO} {u' : T} {tl' : List T} {us' : List V} {g Nt : List Addr}, w = .ref a -> a ∈ f2 -> j6 o = false -> bR K CL (upd H a o) Z u' w g -> aL K CL (upd H a o) Z tl' us' Nt -> (g ++ Nt).Nodup -> (∀ c ∈ g ++ Nt, c ∈ f2 ++ gp) →
     bA K CL b (upd H a o) Z (δ.set i (some (T.xE p u' t0))) σ tl' us' := by
 obtain ⟨fp, gp, e, r, nd, k⟩ := S.rep
 obtain ⟨v1, e1, e2, e3, hv, qF, rt, put, _⟩ := e.get hi
 rw [ev] at hv
 cases hv
 obtain ⟨w', f1, f2, f3, at', hf, ru, put2⟩ := rt.focus S.zh p hp
 have hw := at'.inj DU
 subst hw
 subst hf
 subst qF
 have hpm : ((e1 ++ ((f1 ++ (f2 ++ f3)) ++ e3)) ++ gp).Perm ((e1 ++ (f1 ++ (f3 ++ e3))) ++ (f2 ++ gp)) := amg.mpr fun c => by
   simp only [amr]; omega
 have nd0 := hpm.nodup_iff.mp nd
 have J4 := ak5.mp nd0
 refine ⟨f2, gp, ru, r, J4.2.1, fun {a o u' tl' us' g Nt} hwa ha hm hu ht hnd Ry => ?_⟩
 have hup : ∀ c ∈ e1 ++ (f1 ++ (f3 ++ e3)), upd H a o c = H c := fun c hc => az fun z => J4.2.2 c hc a (akF _ ha) z
 have q1 := put2 (H' := upd H a o) (fun c hc => hup c (by
   rcases akC.mp hc with h | h
   . simp [h]
   . simp [h])) hu
 have q2 := put (H' := upd H a o) (.refl _) (fun c hc => hup c (by
   rcases akC.mp hc with h | h
   . simp [h]
   . simp [h])) q1
 rw [eW ev] at q2
 have aeB : ((e1 ++ ((f1 ++ (g ++ f3)) ++ e3)) ++ Nt).Perm ((e1 ++ (f1 ++ (f3 ++ e3))) ++ (g ++ Nt)) := amg.mpr fun c => by
   simp only [amr]; omega
 refine S.KC hm k (by simp [ha]) q2 ht (aeB.nodup_iff.mpr (ak5.mpr ⟨J4.1, hnd, fun c hc d hd => J4.2.2 c hc d (Ry d hd)⟩)) fun c hc => ?_
 refine hpm.mem_iff.mpr ?_
 rcases akC.mp (aeB.mem_iff.mp hc) with h | h
 . exact akF _ h
 . exact aky _ (Ry c h)
theorem bA.W6 (S : bA K CL b H Z δ σ ts vs) (ev : σ[i]? = some (some v0)) (hi : δ[i]? = some (some t0)) (hp : T.qG p t0 = some u) : ∃ w f2, DT H v0 p w /\ bR K CL H Z u w f2 := by
 obtain ⟨fp, gp, e, r, nd, k⟩ := S.rep
 obtain ⟨v1, e1, e2, e3, hv, qF, rt, put, _⟩ := e.get hi
 rw [ev] at hv
 cases hv
 obtain ⟨w', f1, f2, f3, at', hf, ru, put2⟩ := rt.focus S.zh p hp
 exact ⟨w', f2, at', ru⟩
theorem bA.W7 (S : bA K CL b H Z δ σ (t :: ts) (v :: vs)) (ev : σ[i]? = some (some v0)) (hi : δ[i]? = some (some t0)) (hp : T.qG p t0 = some (.lst tl)) (DU : DT H v0 p w) :
   ∃ a us, w = .ref a /\ H a = some (.lst us) /\ us.length = tl.length /\ bA K CL b (upd H a (.lst (us ++ [v]))) Z (δ.set i (some (T.xE p (.lst (tl ++ [t])) t0))) σ ts vs := by
 obtain ⟨f2, gp, ru, rr, nd, go⟩ := S.K0 ev hi hp DU
 cases ru with
 | @lst a us _ g ha rs =>
   cases rr with
   | @cons _ _ _ _ ft gr q1 q2 =>
     have ne : ∀ c ∈ g ++ (ft ++ gr), c ≠ a := fun c hc z => by subst z; exact (alk.mp nd).1 hc
     have pm : ((a :: (g ++ (ft ++ []))) ++ gr).Perm ((a :: g) ++ (ft ++ gr)) := amg.mpr fun c => by simp only [amr, List.count_cons, List.count_nil]; omega
     exact ⟨a, us, rfl, ha, rs.length.symm, go rfl akA rfl (.lst aP (aL.app (rs.mono (.refl _) fun c hc => az (ne c (by simp [hc]))) (.cons (q1.mono (.refl _) fun c hc => az (ne c (by simp [hc]))) .nil)))
       (q2.mono (.refl _) fun c hc => az (ne c (by simp [hc]))) (pm.nodup_iff.mpr nd) fun c hc => pm.mem_iff.mp hc⟩
theorem bA.S7 {ds : List D} (S : bA K CL b H Z δ σ ts vs) (hr : aD K CL Z ds us) (ev : σ[i]? = some (some v0)) (hi : δ[i]? = some (some t0)) (hp : T.qG p t0 = some (.lst tl)) (DU : DT H v0 p w) :
   ∃ a ws, w = .ref a /\ H a = some (.lst ws) /\ ws.length = tl.length /\ bA K CL b (upd H a (.lst (ws ++ us))) Z (δ.set i (some (T.xE p (.lst (tl ++ ds.map T.sh)) t0))) σ ts vs := by
 obtain ⟨f2, gp, ru, rr, nd, go⟩ := S.K0 ev hi hp DU
 cases ru with
 | @lst a ws _ g ha rs =>
   have ne : ∀ c ∈ g ++ gp, c ≠ a := fun c hc z => by subst z; exact (alk.mp nd).1 hc
   exact ⟨a, ws, rfl, ha, rs.length.symm, go (g := a :: (g ++ [])) rfl akA rfl (.lst aP (aL.app (rs.mono (.refl _) fun c hc => az (ne c (by simp [hc]))) (aL.ofF hr)))
     (rr.mono (.refl _) fun c hc => az (ne c (by simp [hc]))) (by rw [akK]; exact nd) fun c hc => by rw [akK] at hc; exact hc⟩
theorem bA.aeC (S : bA K CL b H Z δ σ ts vs) (ev : σ[i]? = some (some v0)) (hi : δ[i]? = some (some t0)) (hp : T.qG p t0 = some (.lst (t :: tl))) (DU : DT H v0 p w) :
   ∃ a us x, w = .ref a /\ H a = some (.lst (x :: us)) /\ bA K CL b (upd H a (.lst us)) Z (δ.set i (some (T.xE p (.lst tl) t0))) σ (t :: ts) (x :: vs) := by
 obtain ⟨f2, gp, ru, rr, nd, go⟩ := S.K0 ev hi hp DU
 cases ru with
 | @lst a us _ g ha rs =>
   cases rs with
   | @cons _ x _ us g2 g1 r2 r1 =>
     have ne : ∀ c ∈ (g2 ++ g1) ++ gp, c ≠ a := fun c hc z => by subst z; exact (alk.mp nd).1 hc
     have pm : ((a :: g1) ++ (g2 ++ gp)).Perm ((a :: (g2 ++ g1)) ++ gp) := amg.mpr fun c => by simp only [amr, List.count_cons]; omega
     exact ⟨a, us, x, rfl, ha, go rfl akA rfl (.lst aP (r1.mono (.refl _) fun c hc => az (ne c (by simp [hc]))))
       (.cons (r2.mono (.refl _) fun c hc => az (ne c (by simp [hc]))) (rr.mono (.refl _) fun c hc => az (ne c (by simp [hc])))) (pm.nodup_iff.mpr nd) fun c hc => pm.mem_iff.mp hc⟩
end
section
variable {X : Cx} {CL : Str -> Addr} {b : Bx} {δ δ1 δ2 : List (Option T)} {e e0 e2 : Expr} {t t0 t1 u : T} {tl HW Vz : List T} {d : L3.D} {ds : List L3.D} {D : cE} {pos pp pa pb ps : Pos} {i : Nat} {x c f : Str} {d8 : List Stmt} {p : List II} {fs : List (Str × T)}
noncomputable def TPv (X : Cx) (CL : Str -> Addr) (b : Bx) (e : Expr) (δ : List (Option T)) (i : Nat) (p : List II) : Prop :=
 ∀ (H Z : Hp) (σ : L2.St) (ts : List T) (vs : List V) (Q : VK), bA X.K CL b H Z δ σ ts vs -> (∀ v0 v H' Z', aG Z Z' -> aG H H' -> bA X.K CL b H' Z' δ σ ts vs -> σ[i]? = some (some v0) -> DT H' v0 p v -> Q v H') -> Ca X e σ H Q
theorem gY (n : Vn X i x) (h : δ[i]? = some (some t)) : TPv X CL b (.Name x pos) δ i [] := fun H Z σ ts vs Q S k => by
 obtain ⟨v, hv, _⟩ := S.look h
 exact cL (iC n.hi n.hv n.hd n.j4) ⟨v, hv, k v v H Z (.refl _) (.refl _) S hv rfl⟩
theorem K1 (hc : iP X.K (CL c)) (n : aF X.K (CL c) f) (h : TPv X CL b e δ i p) (hi : δ[i]? = some (some t)) (hg : T.qG p t = some (.ins c fs)) (hl : fs.lookup f = some u) (hb : attributeBase e f X.env (eval e X.env) = eval e X.env := by rfl) :
   TPv X CL b (.Attribute e f pos) δ i (p ++ [.fld f]) := fun H Z σ ts vs Q S k =>
 cL (Kh dW hb) (h H Z σ ts vs _ S fun v0 v H' Z' z s S' ev DU => by
   obtain ⟨w, f2, at', r⟩ := S'.W6 ev hi hg
   have := at'.inj DU
   subst this
   cases r with
   | @ins a dx _ gs _ g ha rs =>
     obtain ⟨w, _, _, _, hw, _, _, _⟩ := cQ.at fs rs hl
     exact ⟨a, CL c, dx, gs, w, rfl, ha, hc, n, hw, k v0 w H' Z' z s S' ev (DU.snoc ⟨a, _, dx, gs, rfl, ha, hw⟩)⟩)
theorem NW (h : TPv X CL b e δ i p) (hi : δ[i]? = some (some t)) (hg : T.qG p t = some (.sh d)) : cJ X CL b e δ (.sh d) δ := fun H Z σ ts vs Q S k =>
 h H Z σ ts vs _ S fun v0 v H' Z' z s S' ev DU => by
   obtain ⟨w, f2, at', r⟩ := S'.W6 ev hi hg
   have := at'.inj DU
   subst this
   cases r with
   | sh r => exact k _ H' Z' z s (S'.push r)
theorem qW (hE : TPv X CL b e0 δ i p) (h0 : δ[i]? = some (some t0)) (hp0 : T.qG p t0 = some (.lst HW)) (h : cJ X CL b e δ t δ1) (h1 : δ1[i]? = some (some t1)) (hp1 : T.qG p t1 = some (.lst tl)) (hl : tl.length <= 1000000) (k : eL X CL b d8 (δ1.set i (some (T.xE p (.lst (tl ++ [t])) t1))) D)
   (j5 : attributeBase e0 "append" X.env (eval e0 X.env) = eval e0 X.env := by rfl)
   (qP : ((backTo pb (starEach [e] X.env)).all (fun x => !x.1) && (backToKw pb (keywordEach [] X.env)).all (fun x => x.1.isSome) && decide ([e].length + ([] : List Keyword).length + (if ([] : List Keyword).isEmpty then 0 else 1) < 30)) = true := by rfl)
   (hline : (pa.endLine == pb.line) = true := by rfl) (hs : starEach [e] X.env = (false, eval e X.env) :: starEach [] X.env := by exact bw rfl) (Cd : swapsWith (.Call (.Attribute e0 "append" pa) [e] [] pb) none pos.line X.env = pure false := by rfl) :
   eL X CL b (.Expr (.Call (.Attribute e0 "append" pa) [e] [] pb) pos :: d8) δ D := ck fun H Z σ ts vs E S M =>
 om (sA (zP alH PySem.F.slot_list_append PySem.F.type_list_append xh dW (b8 dW dM hs) j5 qP hline hs rfl) Cd) (hE H Z σ ts vs _ S fun v0 v H0 Z0 z0 s0 S0 ev DU => by
   obtain ⟨w, f2, at', r⟩ := S0.W6 ev h0 hp0
   have := at'.inj DU
   subst this
   refine ⟨?_, h H0 Z0 σ ts vs _ S0 fun v2 H1 Z1 z1 k1 S1 => ?_⟩
   . cases r with
     | lst ha _ => exact .inl ⟨rfl, _, mC.of ha⟩
   . obtain ⟨a, us, ea, ha, hu, S2⟩ := S1.W7 ev h1 hp1 (DU.mono k1)
     exact ⟨a, us, v2, ea, rfl, ha, by rw [hu]; exact alR hl (by rw [alb]; decide), M.nx _ σ _ Z1 (z0.trans z1) S2 k⟩)
theorem W8 (hE : TPv X CL b e0 δ i p) (h0 : δ[i]? = some (some t0)) (hp0 : T.qG p t0 = some (.lst HW)) (h : dU X CL b e δ (.lst ds) δ1) (him : L3.D.bS ds = true) (h1 : δ1[i]? = some (some t1)) (hp1 : T.qG p t1 = some (.lst tl)) (hl : tl.length + ds.length <= 1000000) (k : eL X CL b d8 (δ1.set i (some (T.xE p (.lst (tl ++ ds.map T.sh)) t1))) D)
   (j5 : attributeBase e0 "extend" X.env (eval e0 X.env) = eval e0 X.env := by rfl)
   (qP : ((backTo pb (starEach [e] X.env)).all (fun x => !x.1) && (backToKw pb (keywordEach [] X.env)).all (fun x => x.1.isSome) && decide ([e].length + ([] : List Keyword).length + (if ([] : List Keyword).isEmpty then 0 else 1) < 30)) = true := by rfl)
   (hline : (pa.endLine == pb.line) = true := by rfl) (hs : starEach [e] X.env = (false, eval e X.env) :: starEach [] X.env := by exact bw rfl) (Cd : swapsWith (.Call (.Attribute e0 "extend" pa) [e] [] pb) none pos.line X.env = pure false := by rfl) :
   eL X CL b (.Expr (.Call (.Attribute e0 "extend" pa) [e] [] pb) pos :: d8) δ D := ck fun H Z σ ts vs E S M =>
 om (sA (zP alH aml amm W4 dW (b8 dW dM hs) j5 qP hline hs rfl) Cd) (hE H Z σ ts vs _ S fun v0 v H0 Z0 z0 s0 S0 ev DU => by
   obtain ⟨w, f2, at', r⟩ := S0.W6 ev h0 hp0
   have := at'.inj DU
   subst this
   refine ⟨?_, h H0 Z0 σ ts vs _ S0 fun v2 H1 Z1 z1 k1 S1 rr => ?_⟩
   . cases r with
     | lst ha _ => exact .inl ⟨rfl, _, mC.of ha⟩
   . cases rr with
     | lst hq rr =>
       obtain ⟨a, ws, ea, ha, hu, S2⟩ := S1.S7 (aD.m5 S1.tp him rr) ev h1 hp1 (DU.mono k1)
       have hz := rr.length
       exact ⟨a, _, ws, _, ea, rfl, ha, hq, by rw [hu, ← hz]; exact alj (alR hl (by rw [alb]; decide)), M.nx _ σ _ Z1 (z0.trans z1) S2 k⟩)
theorem S8 {kj : Nat} {pc : Pos} (hE : TPv X CL b e0 δ i p) (h : δ[i]? = some (some t0)) (hp : T.qG p t0 = some (.lst (t :: tl))) (j5 : attributeBase e0 "pop" X.env (eval e0 X.env) = eval e0 X.env := by rfl)
   (qP : ((backTo pos (starEach [.Constant (.int 0) kj pc] X.env)).all (fun x => !x.1) && (backToKw pos (keywordEach [] X.env)).all (fun x => x.1.isSome) && decide ([Expr.Constant (.int 0) kj pc].length + ([] : List Keyword).length + (if ([] : List Keyword).isEmpty then 0 else 1) < 30)) = true := by rfl)
   (hline : (pa.endLine == pos.line) = true := by rfl) (hs : starEach [.Constant (.int 0) kj pc] X.env = (false, eval (.Constant (.int 0) kj pc) X.env) :: starEach [] X.env := by exact bw rfl) :
   NQ X CL b (.Call (.Attribute e0 "pop" pa) [.Constant (.int 0) kj pc] [] pos) δ t (δ.set i (some (T.xE p (.lst tl) t0))) := fun H Z σ ts vs Q S k =>
 cL (zP alH PySem.F.slot_list_pop PySem.F.type_list_pop Rj dW (b8 J7 dM hs) j5 qP hline hs rfl) (hE H Z σ ts vs _ S fun v0 w H0 Z0 z0 s0 S0 ev DU => by
   obtain ⟨a, us, x, ea, ha, S2⟩ := S0.aeC ev h hp DU
   subst ea
   refine ⟨.inl ⟨rfl, _, .inl (.inl ha)⟩, a, x :: us, 0, 0, x, rfl, rfl, ha, by decide, by decide, ?_, rfl, ?_⟩
   . unfold seqIndex?
     simp
   . exact k x _ Z0 z0 S2)
end
theorem cQ.none {K : PySem.W.Frag} {CL : Str -> Addr} {H Z : Hp} {m : Str} : ∀ {fs : List (Str × T)} {gs : List (Str × V)} {fp : List Addr}, cQ K CL H Z fs gs fp -> fs.lookup m = none -> gs.lookup m = none := by
 intro fs
 induction fs with
 | nil => intro gs fp r _; cases r; rfl
 | cons p fs ih =>
   intro gs fp r h
   cases r with
   | cons q r =>
     rw [akW] at h ⊢
     split at h
     . cases h
     . exact ih r h
section
variable {X : Cx} {CL : Str -> Addr} {b : Bx} {δ δ1 δ2 : List (Option T)} {e o : Expr} {es : List Expr} {t : T} {pos pp apos : Pos} {i : Nat} {x c m : Str} {is : List Nat} {fx : List Addr -> Prop} {al : List Addr -> List T} {y : Addr} {fs : List (Str × T)}
variable {A : Type} {k n : Nat} {f : Addr} {fd : FuncData} {ps : List Str} {arg : A -> List T} {Pre : A -> Prop} {res : A -> T} {out : A -> List T}
theorem DV {H1 Z1 : Hp} {σ : L2.St} {ts : List T} {us vs : List V} {al : List T} {ys : List Addr} {ns : List T} {Q : VK} {E : XK} (a : A) (ha1 : arg a = al) (WB : (arg a).length = n) (hp : Pre a) (hrs : res a = t) (hpu : oq (out a) ys ns) (Cg : AtS σ is ys) (KR : ∀ i ∈ is, i < δ1.length) (WV : us.length = al.length)
   (S1 : bA X.K CL b H1 Z1 δ1 σ (al.reverse ++ ts) (us.reverse ++ vs)) (kk : ∀ v H' Z', aG Z1 Z' -> bA X.K CL b H' Z' (Pq δ1 is ns) σ (t :: ts) (v :: vs) -> Q v H') : Sn X.K CL n arg Pre res out us H1 Q E := by
 obtain ⟨g, r, nd, S2⟩ := S1.cut (by simp [WV])
 obtain ⟨g', r', pm⟩ := r.rev
 have ec : xA H1 g = xA H1 g' := funext fun c => by
   by_cases hc : c ∈ g
   . rw [sG hc, sG (pm.mem_iff.mpr hc)]
   . rw [iU hc, iU (fun z => hc (pm.mem_iff.mp z))]
 rw [ec] at S2
 rw [← ha1] at r'
 refine ⟨Z1, a, g', S2.zh, S1.tp, r', pm.nodup_iff.mpr nd, WB, hp, S1.Rt, fun v H' W' fp hh ww wh nw tp rt J4 own => ?_⟩
 cases rt with
 | @cons _ _ _ _ f1 f2 q1 q2 =>
   have Nq : (f2 ++ (f1 ++ [])).Perm (f1 ++ f2) := by rw [akK]; exact akY
   have S3 := S2.Z9 hh ww wh nw tp (aL.app q2 (.cons q1 .nil)) (Nq.nodup_iff.mpr J4) fun c hc => own c (Nq.mem_iff.mp hc)
   rw [akx, akx] at S3
   have S4 := S3.WT q2.length Cg hpu KR
   rw [hrs] at S4
   exact kk v H' W' ww S4
inductive Recv (δ : List (Option T)) (i : Nat) (c : Str) (fs : List (Str × T)) : (Addr -> Prop) -> Prop where
 | own : δ[i]? = some (some (.ins c fs)) -> Recv δ i c fs (fun _ => True)
 | pin {y : Addr} : δ[i]? = some (some (.pin y (.ins c fs))) -> Recv δ i c fs (fun z => z = y)
theorem bA.recv {H Z : Hp} {σ : L2.St} {ts : List T} {vs : List V} {g : Addr -> Prop} (S : bA X.K CL b H Z δ σ ts vs) (h : Recv δ i c fs g) : ∃ y dx gs, g y /\ σ[i]? = some (some (.ref y)) /\ H y = some (.ins (CL c) dx gs) /\ (∀ m, fs.lookup m = none -> gs.lookup m = none) /\ bA X.K CL b H Z (δ.set i none) σ (.pin y (.ins c fs) :: ts) (.ref y :: vs) := by
 cases h with
 | own h =>
   obtain ⟨v, e, S1⟩ := S.move h
   obtain ⟨y, rfl, S0⟩ := S1.Ss rfl
   obtain ⟨fp, gp, _, r, _, _⟩ := S0.rep
   cases r with
   | cons r _ =>
     cases r with
     | pin r =>
       cases r with
       | ins ha rs => exact ⟨y, _, _, trivial, e, ha, fun m hm => rs.none hm, S0⟩
 | @pin y h =>
   obtain ⟨v, e, S0⟩ := S.move h
   obtain ⟨fp, gp, _, r, _, _⟩ := S0.rep
   cases r with
   | cons r _ =>
     cases r with
     | pin r =>
       cases r with
       | ins ha rs => exact ⟨y, _, _, rfl, e, ha, fun m hm => rs.none hm, S0⟩
theorem S9 {pl : Sem Bool} {g : Addr -> Prop} (a : Addr -> List Addr -> A) (ns : List T) (cc : iP X.K (CL c)) (hm : Meth X.K (CL c) m f) (F : bN X.prog X.w X.K X.mg X.base fO k f fd ps (Sn X.K CL n arg Pre res out)) (hr : dg k X.A) (hb : Binds X.K fd ps [])
   (nm : Vn X i x) (hi : Recv δ i c fs g) (hf : fs.lookup m = none) (h : QH X CL b (e :: es) (δ.set i none) is fx al δ1)
   (ha : ∀ y ys, g y -> ys.length = is.length -> fx ys -> arg (a y ys) = .pin y (.ins c fs) :: al ys /\ (arg (a y ys)).length = n /\ Pre (a y ys) /\ res (a y ys) = t /\ oq (out (a y ys)) (y :: ys) ns) (KR : ∀ j ∈ i :: is, j < δ1.length)
   (he : starEach (e :: es) X.env = (false, eval e X.env) :: starEach es X.env := by exact bw rfl) (hpl : (backTo pos (starEach es X.env)).any (·.1) = false := by rfl)
   (ht : eval (.Call (.Attribute (.Name x pp) m apos) (e :: es) [] pos) X.env = (do
     let ov ← eval (.Name x pp) X.env
     standAt apos.atName
     let (f, first) ← holding [ov] (getMethod ov m pl)
     callWith pos f first (backTo pos (starEach (e :: es) X.env)) (backToKw pos (keywordEach [] X.env))) := by rfl) :
   NQ X CL b (.Call (.Attribute (.Name x pp) m apos) (e :: es) [] pos) δ t (Pq δ1 (i :: is) ns) := fun H Z σ ts vs Q S kk => by
 obtain ⟨y, dx, gs, hy, ev, hH, hn, S0⟩ := S.recv hi
 refine cL (Nf (iC nm.hi nm.hv nm.hd nm.j4) cc hm F hr hb .nil tZ Ex he hpl ht) ⟨_, ev, y, dx, gs, rfl, hH, hn m hf, h H Z σ _ _ _ S0 fun ys us H1 Z1 hly Cg hfx WV z1 k1 S1 => ?_⟩
 rw [akK]
 obtain ⟨h1, h2, h3, h4, h5⟩ := ha y ys hy hly hfx
 refine DV (al := .pin y (.ins c fs) :: al ys) (us := .ref y :: us) (is := i :: is) (ys := y :: ys) (a y ys) h1 h2 h3 h4 h5 ⟨ev, Cg⟩ KR (by simp [WV]) ?_ fun v H' Z' z S' => kk v H' Z' (z1.trans z) S'
 rw [ali, ali, akx, akx]
 exact S1
structure FqM (X : Cx) (CL : Str -> Addr) (c m : Str) (k n : Nat) {A : Type} (arg : A -> List T) (Pre : A -> Prop) (res : A -> T) (out : A -> List T) : Prop where
 ex : ∃ f fd ps, Meth X.K (CL c) m f /\ bN X.prog X.w X.K X.mg X.base fO k f fd ps (Sn X.K CL n arg Pre res out) /\ Binds X.K fd ps []
 room : dg k X.A
 cls : iP X.K (CL c)
theorem qM {pl : Sem Bool} {g : Addr -> Prop} {dl : List L3.D} (a : Addr -> A) (nt : T) (F : FqM X CL c m k n arg Pre res out) (nm : Vn X i x) (hi : Recv δ i c fs g) (h : Nk X CL b (e :: es) (δ.set i none) (dl.map T.sh) δ1) (hp : ∀ y, g y -> Pre (a y)) (Sw : ∀ y, g y -> res (a y) = t) (Sx : ∀ y, g y -> oq (out (a y)) [y] [nt])
   (hf : fs.lookup m = none := by rfl) (Sy : ∀ y, g y -> arg (a y) = .pin y (.ins c fs) :: dl.map T.sh := by intros; rfl) (hlen : ∀ y, (arg (a y)).length = n := by intros; rfl) (KR : i < δ1.length := by exact akz rfl)
   (he : starEach (e :: es) X.env = (false, eval e X.env) :: starEach es X.env := by exact bw rfl) (hpl : (backTo pos (starEach es X.env)).any (·.1) = false := by rfl)
   (ht : eval (.Call (.Attribute (.Name x pp) m apos) (e :: es) [] pos) X.env = (do
     let ov ← eval (.Name x pp) X.env
     standAt apos.atName
     let (f, first) ← holding [ov] (getMethod ov m pl)
     callWith pos f first (backTo pos (starEach (e :: es) X.env)) (backToKw pos (keywordEach [] X.env))) := by rfl) :
   NQ X CL b (.Call (.Attribute (.Name x pp) m apos) (e :: es) [] pos) δ t (δ1.set i (some nt)) := by
 obtain ⟨⟨f, fd, ps, M, G, bd⟩, r, cc⟩ := F
 have h' : QH X CL b (e :: es) (δ.set i none) [] (fun _ => True) (fun _ => dl.map T.sh) δ1 := fun H Z σ ts vs Q S k => h H Z σ ts vs Q S fun us H' Z' hl z s S' => k [] us H' Z' rfl trivial trivial hl z s S'
 exact S9 (fun y _ => a y) [nt] cc M G r bd nm hi hf h' (fun y ys hy hl _ => by
   cases amq.mp hl
   exact ⟨Sy y hy, hlen y, hp y hy, Sw y hy, Sx y hy⟩) (fun j hj => by cases alg.mp hj; exact KR) he hpl ht
end
end L3
namespace L2
open PySem PySem.Spec PyProof.Rows
section
variable {X : Cx} {CX : QB} {k : Nat} {f C : Addr} {fd : FuncData} {ps : List Str} {sp : Sp} {yr : List V} {ds : List Value} {E : XK} {x m : Str} {p pos apos : Pos} {e : Expr} {es : List Expr} {t : TA}
structure aag (K : PySem.W.Frag) (C : Addr) (m : Str) (f : Addr) : Prop where
 ga : PySem.W.specialIn K (.ref C) "__getattribute__" = some (some (.builtin "type.__getattribute__"))
 rd : PySem.W.readsIn K C (.type "type") = true
 fnd : PySem.W.findCls K (.ref C) (.type "type") m = some (.val (.ref f))
 kp : PySem.W.keepIn K (.ref f) = true
theorem Tc {pl : Sem Bool} (hc : aag X.K C m f) (F : bN X.prog X.w X.K X.mg X.base CX k f fd ps sp) (hr : dg k X.A) (hg : Gl X x) (hmg : X.mg x = some (.ref C)) (hb : Binds X.K fd ps ds) (hd : Vals yr ds) (hx : Passes CX X E) (ha : PA X (e :: es) t)
   (tU : (x == ("__debug__" : Str)) = false := by decide) (HF : starEach (e :: es) X.env = (false, eval e X.env) :: starEach es X.env := by rfl) (hpl : (backTo pos (starEach es X.env)).any (·.1) = false := by rfl)
   (ht : eval (.Call (.Attribute (.Name x p) m apos) (e :: es) [] pos) X.env = (do
     let ov ← eval (.Name x p) X.env
     standAt apos.atName
     let (f, first) ← holding [ov] (getMethod ov m pl)
     callWith pos f first (backTo pos (starEach (e :: es) X.env)) (backToKw pos (keywordEach [] X.env))) := by rfl) :
   PE X (.Call (.Attribute (.Name x p) m apos) (e :: es) [] pos) (Q7 sp yr E t) := by
 intro pins s σ H Q I h
 refine al7 (pl := pl) (eB (El (v := .ref C) hg hmg rfl tU pins s σ H (fun v H1 => v = .ref C /\ H1 = H) I ⟨rfl, rfl⟩) fun u s1 ⟨x, H1, I1, rx, ex, eh⟩ => ?_) ht
 subst ex
 subst eh
 obtain rfl : u = Value.ref C := rx
 refine PySem.W.method_cls I1.Hr hc.ga (PySem.W.cls_value I1.Hr hc.rd hc.fnd rfl ?_)
 have I2 := I1.tok (s1.toks + 1)
 refine ami (h₀ := X.base) I.ok.mod.kin hc.kp (eB (ha pos pins _ σ H1 _ I2 h) fun us s2 ⟨vs, H2, I3, r, q2⟩ => ⟨I3.Hr, ?_⟩) HF hpl
 exact zN F hr hb hd hx I3 r q2
end
end L2
namespace L3
open PySem PySem.Spec PyProof.Rows L2
section
variable {X : Cx} {CL : Str -> Addr} {b : Bx} {δ δ1 δ2 : List (Option T)} {e o : Expr} {es : List Expr} {t : T} {pos pp apos : Pos} {i : Nat} {x c m : Str} {is : List Nat} {fx : List Addr -> Prop} {al : List Addr -> List T} {y : Addr} {fs : List (Str × T)}
variable {A : Type} {k n : Nat} {arg : A -> List T} {Pre : A -> Prop} {res : A -> T} {out : A -> List T}
structure FkM (X : Cx) (CL : Str -> Addr) (x m : Str) (k n : Nat) {A : Type} (arg : A -> List T) (Pre : A -> Prop) (res : A -> T) (out : A -> List T) : Prop where
 ex : ∃ f fd ps, aag X.K (CL x) m f /\ bN X.prog X.w X.K X.mg X.base fO k f fd ps (Sn X.K CL n arg Pre res out) /\ X.mg x = some (.ref (CL x)) /\ Binds X.K fd ps []
 room : dg k X.A
theorem kM1 {pl : Sem Bool} (a : Addr -> A) (nt : T) (F : FkM X CL x m k n arg Pre res out) (hg : Gl X x) (h : QH X CL b (e :: es) δ [i] fx al δ1) (hp : ∀ y, fx [y] -> Pre (a y)) (Sw : ∀ y, fx [y] -> res (a y) = t) (Sx : ∀ y, fx [y] -> oq (out (a y)) [y] [nt])
   (Sy : ∀ y, fx [y] -> arg (a y) = al [y] := by intros; rfl) (hlen : ∀ y, (arg (a y)).length = n := by intros; rfl) (KR : i < δ1.length := by exact akz rfl)
   (tU : (x == ("__debug__" : Str)) = false := by decide) (he : starEach (e :: es) X.env = (false, eval e X.env) :: starEach es X.env := by exact bw rfl) (hpl : (backTo pos (starEach es X.env)).any (·.1) = false := by rfl)
   (ht : eval (.Call (.Attribute (.Name x pp) m apos) (e :: es) [] pos) X.env = (do
     let ov ← eval (.Name x pp) X.env
     standAt apos.atName
     let (f, first) ← holding [ov] (getMethod ov m pl)
     callWith pos f first (backTo pos (starEach (e :: es) X.env)) (backToKw pos (keywordEach [] X.env))) := by rfl) :
   NQ X CL b (.Call (.Attribute (.Name x pp) m apos) (e :: es) [] pos) δ t (δ1.set i (some nt)) := fun H Z σ ts vs Q S kk => by
 obtain ⟨⟨f, fd, ps, C, G, mg, bd⟩, r⟩ := F
 refine cL (Tc C G r hg mg bd .nil tZ Ex tU he hpl ht) (h H Z σ ts vs _ S fun ys us H1 Z1 hly Cg hf WV z1 k1 S1 => ?_)
 rw [akK]
 match ys, hly, hf, Cg, S1, WV with
 | [y], _, hf, Cg, S1, WV => exact DV (al := al [y]) (is := [i]) (ys := [y]) (ns := [nt]) (a y) (Sy y hf) (hlen y) (hp y hf) (Sw y hf) (Sx y hf) Cg (fun j hj => by cases alg.mp hj; exact KR) WV S1 fun v H' Z' z S' => kk v H' Z' (z1.trans z) S'
end
end L3
namespace L2
open PySem PySem.Spec PyProof.Rows
section
variable {X : Cx}
end
end L2
namespace L3
open PySem PySem.Spec PyProof.Rows L2
theorem iF.none {K : PySem.W.Frag} {CL : Str -> Addr} {Z : Hp} {m : Str} : ∀ {fs : List (Str × D)} {gs : List (Str × V)}, iF K CL Z fs gs -> fs.lookup m = none -> gs.lookup m = none := by
 intro fs
 induction fs with
 | nil => intro gs r _; cases r; rfl
 | cons p fs ih =>
   intro gs r h
   cases r with
   | cons q r =>
     rw [akW] at h ⊢
     split at h
     . cases h
     . exact ih r h
section
variable {X : Cx} {CL : Str -> Addr} {b : Bx} {δ δ1 δ2 : List (Option T)} {e e1 e2 o : Expr} {es : List Expr} {pos pp apos pos' : Pos} {i : Nat} {x c m : Str} {fs : List (Str × L3.D)} {ds : List L3.D} {D : cE} {d8 : List Stmt}
variable {A : Type} {k n : Nat} {arg : A -> List L3.D} {Pre : A -> Prop} {res : A -> T}
theorem q_ {pl : Sem Bool} (a : A) (F : Fq X CL c m k n arg Pre res) (ho : dU X CL b o δ (.ins c fs) δ1) (hf : fs.lookup m = none) (h : OY X CL b (e :: es) δ1 ds δ2) (hab : arg a = .ins c fs :: ds) (hp : Pre a) (hc : (res a).clean = true) (hn : (arg a).length = n := by rfl)
   (he : starEach (e :: es) X.env = (false, eval e X.env) :: starEach es X.env := by exact bw rfl) (hpl : (backTo pos (starEach es X.env)).any (·.1) = false := by rfl)
   (ht : eval (.Call (.Attribute o m apos) (e :: es) [] pos) X.env = (do
     let ov ← eval o X.env
     standAt apos.atName
     let (f, first) ← holding [ov] (getMethod ov m pl)
     callWith pos f first (backTo pos (starEach (e :: es) X.env)) (backToKw pos (keywordEach [] X.env))) := by rfl) :
   cJ X CL b (.Call (.Attribute o m apos) (e :: es) [] pos) δ (res a) δ2 := by
 obtain ⟨⟨f, fd, ps, M, G, bd⟩, r, cc⟩ := F
 exact Wk a cc M G r bd ho hf h hab hn hp hc he hpl ht
theorem q0_ {pl : Sem Bool} (a : A) (F : Fq X CL c m k n arg Pre res) (ho : dU X CL b o δ (.ins c fs) δ1) (hf : fs.lookup m = none) (hab : arg a = [.ins c fs]) (hp : Pre a) (hc : (res a).clean = true) (hn : (arg a).length = n := by rfl)
   (ht : eval (.Call (.Attribute o m apos) [] [] pos) X.env = (do
     let ov ← eval o X.env
     standAt apos.atName
     let (f, first) ← holding [ov] (getMethod ov m pl)
     callWith pos f first (backTo pos (starEach [] X.env)) (backToKw pos (keywordEach [] X.env))) := by rfl) :
   cJ X CL b (.Call (.Attribute o m apos) [] [] pos) δ (res a) δ1 := by
 obtain ⟨⟨f, fd, ps, M, G, bd⟩, r, cc⟩ := F
 exact RX a cc M G r bd ho (fun q => q.none hf) hab hn hp hc ht
theorem abW {z w : Int} (g : Gx X) (nm : Ln X i x) (hx : δ[i]? = some (some (.sh (.int z)))) (h : dU X CL b e δ (.int w) δ) (k : eL X CL b d8 (δ.set i (some (.sh (.int (z + w))))) D) :
   eL X CL b (.AugAssign (.Name x pos') .Add e pos :: d8) δ D := ck fun H Z σ ts vs E S M =>
 om (aaL g.nd nm.hi nm.loc dW aaM nm.hf) (by
   obtain ⟨v, hv, r⟩ := S.Rx hx
   cases r
   refine ⟨_, hv, h H Z σ ts vs _ S fun v2 H1 Z1 z1 k1 S1 r2 => ?_⟩
   cases r2
   have hl : i < δ.length := by
     rcases Nat.lt_or_ge i δ.length with h | h
     . exact h
     . rw [alB h] at hx; cases hx
   exact ⟨z, w, rfl, rfl, M.nx _ _ H1 Z1 z1 ((S1.push (.int (z + w))).set hl) k⟩)
theorem W9 {zZ : List L3.D} (h1 : cJ X CL b e1 δ (.lst (ds.map T.sh)) δ1) (h2 : NQ X CL b e2 δ1 (.lst (zZ.map T.sh)) δ2) (hz : ds.length + zZ.length <= sizeLine) :
   NQ X CL b (.BinOp e1 .Add e2 pos) δ (.lst ((ds ++ zZ).map T.sh)) δ2 := fun H Z σ ts vs Q S k =>
 cL (M6 Ny dW dW) (h1 H Z σ ts vs _ S fun v1 H1 Z1 z1 k1 S1 => h2 H1 Z1 σ _ _ _ S1 fun v2 H2 Z2 z2 S2 => by
   obtain ⟨fp, gp, _, r, _, _⟩ := S2.rep
   cases r with
   | cons r2 r =>
     cases r with
     | cons r1 _ =>
       cases r2 with
       | @lst a2 R9 _ g2 WB rs2 =>
         cases r1 with
         | @lst a1 us1 _ g1 ha1 rs1 =>
           have f1 := (aL.toF rs1).1
           have f2 := (aL.toF rs2).1
           refine ⟨_, _, _, _, rfl, rfl, mC.of ha1, mC.of WB, by rw [← f1.length, ← f2.length]; exact hz, fun p hp => ?_⟩
           have rc := aD.app f1 f2
           obtain ⟨c, S4⟩ := (bA.mD rc S2.pop.pop).jD (g0 := []) (by simp [rc.length, f1.length, f2.length]) hp
           exact k _ _ _ (z1.trans z2) S4)
theorem abX {t : T} {f : Str} {a : Addr} {gs : List (Str × T)} {pa pb pc : Pos} (hc : iP X.K (CL c)) (n : aF X.K (CL c) f) (nm : Vn X i x) (h : NQ X CL b e δ t δ1) (h1 : δ1[i]? = some (some (.pin a (.ins c gs)))) (hl : gs.length < 1000)
   (k : eL X CL b d8 (δ1.set i (some (.pin a (.ins c (ko f t gs))))) D) (hs : swapsWith e (some (.Attribute (.Name x pa) f pb)) pc.line X.env = pure false := by rfl) :
   eL X CL b (.Assign [.Attribute (.Name x pa) f pb] e pc :: d8) δ D := ck fun H Z σ ts vs E S M =>
 om (Q6 (iC nm.hi nm.hv nm.hd nm.j4) dW hs) (h H Z σ ts vs _ S fun v H' Z' z S' => by
   obtain ⟨dx, ws, hv, hx, hlen, S2⟩ := S'.setField (f := f) h1
   exact ⟨.ref a, hv, a, CL c, dx, ws, rfl, hx, hc, n, by rw [hlen]; exact hl, M.nx _ σ _ Z' z S2 k⟩)
end
theorem xF {p : T} {δ : List (Option T)} {ds : List D} : Keeps (some p :: δ) (p :: ds.map T.sh) := fun j y t h => by
 cases j with
 | zero => cases h; rfl
 | succ j =>
   have h' : (ds.map T.sh)[j]? = some (T.pin y t) := h
   rw [ak0] at h'
   cases e : ds[j]? with
   | none => rw [e] at h'; cases h'
   | some d => rw [e] at h'; cases h'
end L3
namespace L2
open PySem PySem.Spec PyProof.Rows
noncomputable def jz {α : Type} (xs : List α) (lo hi st : Option Int) : List α :=
 (sliceRange (sliceBounds lo hi st xs.length).1 (sliceBounds lo hi st xs.length).2.1 (sliceBounds lo hi st xs.length).2.2).filterMap (xs[·]?)
theorem DW (its : List Value) (lo hi st : Option Int) : slicePick its.toArray lo hi st = (jz its lo hi st).toArray := by
 unfold slicePick jz
 simp only [akI, List.getElem?_toArray] <;> rfl
theorem Td {α : Type} (f : α -> Value) (xs : List α) (lo hi st : Option Int) : (jz xs lo hi st).length <= xs.length := by
 have h := slicePick_size_le (xs.map f).toArray lo hi st
 rw [DW] at h
 have e : (jz (xs.map f) lo hi st) = (jz xs lo hi st).map f := by
   unfold jz
   rw [akD, List.map_filterMap]
   simp only [ak0]
 rw [e] at h
 simpa using h
theorem Vals.jz {xs : List V} {us : List Value} (r : Vals xs us) (lo hi st : Option Int) : Vals (jz xs lo hi st) (jz us lo hi st) := by
 unfold L2.jz
 rw [r.length]
 generalize sliceRange _ _ _ = l
 induction l with
 | nil => exact .nil
 | cons i l ih =>
   rw [ald, ald]
   cases e : xs[i]? with
   | none =>
     have e2 : us[i]? = none := alB (by
       have := r.length
       have := List.getElem?_eq_none_iff.mp e
       omega)
     rw [e2]
     exact ih
   | some x =>
     obtain ⟨u, e2, ru⟩ := r.get e
     rw [e2]
     exact .cons ru ih
section
variable {X : Cx} {e st : Expr} {lo hi : Option Expr} {te : TE} {tl th tk : TO} {pos p2 : Pos}
theorem PC (he : PE X e te) (hl : PO X lo tl) (hu : PO X hi th) (hk : PO X (some st) tk) : PE X (.Subscript e (.Slice lo hi (some st) p2) pos) (fun σ H Q => te σ H fun x H1 => tl σ H1 fun l H2 => th σ H2 fun u H3 => tk σ H3 fun k H4 => ∃ a xs, x = .ref a /\ mC X.K H4 a xs /\ k ≠ some 0 /\ ∀ p, H4 p = none -> Q (.ref p) (upd H4 p (.lst (jz xs l u k)))) := by
 intro pins s σ H Q I h
 refine Subscript_ (eB (he pins s σ H _ I h) fun v s1 ⟨x, H1, I1, r1, q1⟩ => ?_)
 refine wpAny_Slice (eB (hl pins s1 σ H1 _ I1 q1) fun vl s2 ⟨l, H2, I2, pl, q2⟩ => eB (hu pins s2 σ H2 _ I2 q2) fun vu s3 ⟨u, H3, I3, pu, q3⟩ => eB (hk pins s3 σ H3 _ I3 q3) fun vk s4 ⟨k, H4, I4, pk, q4⟩ => ?_)
 obtain ⟨a, xs, rfl, hx, hk0, q⟩ := q4
 cases r1
 have I5 : Inv X pins σ H4 { s4 with heap := s4.heap.push { cls := .type "slice", data := .fields #[vl, vu, vk] } } := I4.kept (t' := s4.toks) fun b ob q => akN _ q
 obtain ⟨its, r, ht, hz⟩ := I5.list hx
 have hlen := r.length
 show wpAny (model X.prog X.w) X.A (subscriptTail e (.Slice lo hi (some st) p2) (.ref a) (.ref s4.heap.objs.size)) (EP X pins σ Q) X.xe { s4 with heap := s4.heap.push { cls := .type "slice", data := .fields #[vl, vu, vk] } }
 refine tail_any (ops := [.ref a, .ref s4.heap.objs.size]) ht.isList.typeIs slot_list_getitem.lookup ?_ (by with_unfolding_all rfl)
 refine wpAny_getItem_list_slice ht.isList (Heap.IsSliceOf.new ..) pl pu pk hk0 ?_ (by rw [akI] <;> omega)
 rw [DW]
 have hc := Td (fun _ : V => Value.none) xs l u k
 refine ⟨.ref _, _, I5.laid (t' := s4.toks) (o := .lst (jz xs l u k)) (fun b ob q => akN _ q) (akG _) ?_, rfl, q _ (I5.dJ.fresh (akG _))⟩
 exact ⟨alq hc hz, _, 0, r.jz l u k, ak3 _ rfl⟩
end
end L2
namespace L3
open PySem PySem.Spec PyProof.Rows L2
theorem Te {α β : Type} {f : α -> β} {l : List α} {lo hi st : Option Int} : jz (l.map f) lo hi st = (jz l lo hi st).map f := by
 unfold jz
 rw [akD, List.map_filterMap]
 simp only [ak0]
section
variable {X : Cx} {CL : Str -> Addr} {b : Bx} {δ δ1 δ2 δ3 δ4 : List (Option T)} {e st : Expr} {lo hi : Option Expr} {l u k : Option Int} {ds : List L3.D} {pos p2 : Pos}
theorem aD.jz {K : PySem.W.Frag} {Z : Hp} {ds : List L3.D} {us : List V} (r : aD K CL Z ds us) (lo hi st : Option Int) : aD K CL Z (jz ds lo hi st) (jz us lo hi st) := by
 unfold L2.jz
 rw [r.length]
 generalize sliceRange _ _ _ = l
 induction l with
 | nil => exact .nil
 | cons i l ih =>
   rw [ald, ald]
   cases e : ds[i]? with
   | none =>
     have e2 : us[i]? = none := alB (by
       have := r.length
       have := List.getElem?_eq_none_iff.mp e
       omega)
     rw [e2]
     exact ih
   | some x =>
     obtain ⟨u, e2, ru⟩ := r.get e
     rw [e2]
     exact .cons ru ih
theorem PD (h1 : dU X CL b e δ (.lst ds) δ1) (hi1 : D.bS ds = true) (h2 : TOv X CL b lo δ1 l δ2) (h3 : TOv X CL b hi δ2 u δ3) (h4 : TOv X CL b (some st) δ3 k δ4) (hk : k ≠ some 0) :
   cJ X CL b (.Subscript e (.Slice lo hi (some st) p2) pos) δ (.lst ((jz ds l u k).map T.sh)) δ4 := by
 intro H Z σ ts vs Q S kk
 obtain ⟨t2, po2, w2⟩ := h2
 obtain ⟨t3, po3, w3⟩ := h3
 obtain ⟨t4, po4, w4⟩ := h4
 refine cL (PC dW po2 po3 po4) (h1 H Z σ ts vs _ S fun v H1 Z1 z1 k1 S1 r => w2 H1 Z1 σ ts vs _ S1 fun H2 Z2 z2 k2 S2 => w3 H2 Z2 σ ts vs _ S2 fun H3 Z3 z3 k3 S3 => w4 H3 Z3 σ ts vs _ S3 fun H4 Z4 z4 k4 S4 => ?_)
 have r := r.mono (k2.trans (k3.trans k4))
 cases r with
 | lst hq rr =>
   refine ⟨_, _, rfl, hq, hk, fun p hp => ?_⟩
   have rc := (aD.m5 S4.tp hi1 rr).jz l u k
   obtain ⟨c, S5⟩ := (bA.mD rc S4).jD (g0 := []) (by simp [rc.length]) hp
   exact kk _ _ _ (z1.trans (z2.trans (z3.trans z4))) (k1.trans (k2.trans (k3.trans (k4.trans c)))) S5
end
section
variable {X : Cx} {CL : Str -> Addr} {b : Bx} {δ δ1 δ2 : List (Option T)} {e e1 e2 : Expr} {es : List Expr} {t t1 t2 : T} {d1 d2 : L3.D} {p q : Bool} {pos : Pos} {D : cE} {d8 a c : List Stmt}
noncomputable def TTm (X : Cx) (CL : Str -> Addr) (b : Bx) (e : Expr) (δ : List (Option T)) (p : Bool) (δ' : List (Option T)) : Prop :=
 ∀ (H Z : Hp) (σ : L2.St) (ts : List T) (vs : List V) (Q : Bool -> Hp -> Prop), bA X.K CL b H Z δ σ ts vs -> (∀ H' Z', aG Z Z' -> bA X.K CL b H' Z' δ' σ ts vs -> Q p H') -> Rr X e σ H Q
noncomputable def TWm (X : Cx) (CL : Str -> Addr) (b : Bx) (e : Expr) (δ : List (Option T)) (p : Bool) (δ' : List (Option T)) : Prop :=
 ∀ (H Z : Hp) (σ : L2.St) (ts : List T) (vs : List V) (Q : Bool -> Hp -> Prop), bA X.K CL b H Z δ σ ts vs -> (∀ H' Z', aG Z Z' -> bA X.K CL b H' Z' δ' σ ts vs -> Q p H') -> V9 X e σ H Q
theorem Wa.m (h : Wa X CL b e δ p δ1) : TWm X CL b e δ p δ1 := fun H Z σ ts vs Q S k => h H Z σ ts vs Q S fun H' Z' z _ S' => k H' Z' z S'
theorem aeD (h : TTm X CL b e δ p δ1) (hp : p = q) : TTm X CL b e δ q δ1 := hp ▸ h
theorem ag9 (h : yw X CL b e δ p δ1) (hp : p = q) : yw X CL b e δ q δ1 := hp ▸ h
theorem aeE (h : TWm X CL b e δ p δ1) : TTm X CL b e δ p δ1 := fun H Z σ ts vs Q S k pins s I => h H Z σ ts vs Q S k _ pins s I
theorem abZ (h : TTm X CL b e δ p δ1) (h2 : p = false -> TWm X CL b (.BoolOp .Or (e2 :: es) pos) δ1 q δ1) : TWm X CL b (.BoolOp .Or (e :: e2 :: es) pos) δ (p || q) δ1 := fun H Z σ ts vs Q S k =>
 RD (ZG V5 pwS) (h H Z σ ts vs _ S fun H1 Z1 z1 S1 => by
   cases p with
   | true => exact Kv (k H1 Z1 z1 S1)
   | false => exact Ku (h2 rfl H1 Z1 σ ts vs _ S1 fun H2 Z2 z2 S2 => k H2 Z2 (z1.trans z2) S2))
theorem ab0 (h : TTm X CL b e δ p δ1) (h1 : p = true -> eL X CL b a δ1 D) (h2 : p = false -> eL X CL b c δ1 D) : OZ X CL b (.If e a c pos) δ D := fun H Z σ ts vs E S M =>
 om (ZH V5 QD QD) (h H Z σ ts vs _ S fun H1 Z1 z1 S1 => by
   cases p with
   | true => exact Kv (h1 rfl H1 Z1 σ ts vs E S1 (M.mono z1))
   | false => exact Ku (h2 rfl H1 Z1 σ ts vs E S1 (M.mono z1)))
theorem aeF (h : TTm X CL b e δ p δ1) (h1 : p = true -> eL X CL b a δ1 { D with nx := fun δ2 => eL X CL b d8 δ2 D }) (h2 : p = false -> eL X CL b c δ1 { D with nx := fun δ2 => eL X CL b d8 δ2 D }) : eL X CL b (.If e a c pos :: d8) δ D := ck (ab0 h h1 h2)
theorem Xa (hu : X.A.units + 64 < cLine) (h1 : NQ X CL b e1 δ t δ1) (hf : t.fc = d1) (h2 : dU X CL b e2 δ1 d2 δ2) (k1 : qH 60 d1) (k2 : qH 60 d2) : TTm X CL b (.Compare e1 [.NotEq] [e2] pos) δ (!Vy d1 d2) δ2 := fun H Z σ ts vs Q S k =>
 HR (sC (RQ hu) dW dW (w9 _)) (h1 H Z σ ts vs _ S fun v1 H1 Z1 z1 S1 => h2 H1 Z1 σ _ _ _ S1 fun v2 H2 Z2 z2 s2 S2 r2 => by
   have r1 := S2.view
   rw [hf] at r1
   exact ⟨d1, d2, r1, r2, k1, k2, _, rfl, k H2 Z2 (z1.trans z2) S2.pop⟩)
end
end L3
namespace Law
open PySem L2 L3
noncomputable def top (i : Nat) : Stmt := PySem.Challenge.pw_moodtree_k44_calls_in_a_line.main.body.getD i (.Pass ⟨0, 0, 0, 0⟩)
noncomputable def chF : Nat -> List Int -> Int -> List Int
 | 0, _, _ => []
 | n + 1, es, k => if k = -1 then [] else k :: chF n es (es.getD k.toNat 0)
noncomputable def Xb (es : List Int) (m : Int) : List Int := chF (es.length + 1) es (es.getD m.toNat 0)
noncomputable def Tf (es : List Int) : Prop := ∀ k : Nat, k < es.length -> -1 <= es.getD k 0 /\ es.getD k 0 < k
theorem Tf.at {es : List Int} (h : Tf es) {k : Int} (h0 : 0 <= k) (h1 : k < es.length) : -1 <= es.getD k.toNat 0 /\ es.getD k.toNat 0 < k := by
 have := h k.toNat (by omega)
 omega
noncomputable def DX (ks : List Str) (es ss : List Int) : L3.D := .ins "Tree" [("kinds", .lst (ks.map .str)), ("elders", .lst (es.map .int)), ("starts", .lst (ss.map .int))]
theorem Af {ks : List Str} {es ss : List Int} : List.lookup ("kinds" : Str) [(("kinds" : Str), L3.D.lst (ks.map .str)), ("elders", .lst (es.map .int)), ("starts", .lst (ss.map .int))] = some (.lst (ks.map .str)) := fj
theorem qX {ks : List Str} {es ss : List Int} : List.lookup ("elders" : Str) [(("kinds" : Str), L3.D.lst (ks.map .str)), ("elders", .lst (es.map .int)), ("starts", .lst (ss.map .int))] = some (.lst (es.map .int)) := by
 rw [bu (by decide +kernel), fj]
theorem di (ds : List L3.D) : T.fc (.lst (ds.map T.sh)) = .lst ds := by rw [T.fc, oY]
theorem cT (l : List Int) : (T.lst ((l.map L3.D.int).map T.sh)).clean = true := by rw [gA]; exact mG _
theorem K2 (l : List Str) : (T.lst ((l.map L3.D.str).map T.sh)).clean = true := by
 rw [gA]
 induction l with
 | nil => rfl
 | cons x l ih => exact ih
noncomputable def Ag (ks : List Str) (es ss : List Int) : List (Str × T) := [("kinds", .lst ((ks.map .str).map T.sh)), ("elders", .lst ((es.map .int).map T.sh)), ("starts", .lst ((ss.map .int).map T.sh))]
theorem PF (ks : List Str) (es ss : List Int) : T.fc (.ins "Tree" (Ag ks es ss)) = DX ks es ss := by
 unfold Ag
 rw [T.fc, T.jB, T.jB, T.jB, T.jB, di, di, di]
 rfl
theorem IJ (ks : List Str) (es ss : List Int) : T.cM (Ag ks es ss) = true := by
 unfold Ag
 rw [T.cM, T.cM, T.cM, T.cM, K2, cT, cT]
 rfl
noncomputable def EZ (bs nm : List L3.D) (tr : L3.D) (is os ws : List L3.D) : L3.D := .ins "Chart" [("boxes", .lst bs), ("names", .lst nm), ("tree", tr), ("ins", .lst is), ("outs", .lst os), ("ways", .lst ws)]
section
variable {bs nm is os ws : List L3.D} {tr : L3.D}
theorem IK : List.lookup ("boxes" : Str) [(("boxes" : Str), L3.D.lst bs), ("names", .lst nm), ("tree", tr), ("ins", .lst is), ("outs", .lst os), ("ways", .lst ws)] = some (.lst bs) := fj
theorem IL : List.lookup ("names" : Str) [(("boxes" : Str), L3.D.lst bs), ("names", .lst nm), ("tree", tr), ("ins", .lst is), ("outs", .lst os), ("ways", .lst ws)] = some (.lst nm) := by
 rw [bu (by decide +kernel), fj]
theorem lI : List.lookup ("tree" : Str) [(("boxes" : Str), L3.D.lst bs), ("names", .lst nm), ("tree", tr), ("ins", .lst is), ("outs", .lst os), ("ways", .lst ws)] = some tr := by
 rw [bu (by decide +kernel), bu (by decide +kernel), fj]
theorem PJ : List.lookup ("ins" : Str) [(("boxes" : Str), L3.D.lst bs), ("names", .lst nm), ("tree", tr), ("ins", .lst is), ("outs", .lst os), ("ways", .lst ws)] = some (.lst is) := by
 rw [bu (by decide +kernel), bu (by decide +kernel), bu (by decide +kernel), fj]
theorem jH : List.lookup ("ways" : Str) [(("boxes" : Str), L3.D.lst bs), ("names", .lst nm), ("tree", tr), ("ins", .lst is), ("outs", .lst os), ("ways", .lst ws)] = some (.lst ws) := by
 rw [bu (by decide +kernel), bu (by decide +kernel), bu (by decide +kernel), bu (by decide +kernel), bu (by decide +kernel), fj]
end
noncomputable def Ah (bs nm : List L3.D) : List (Str × T) := [("boxes", .lst (bs.map T.sh)), ("names", .lst (nm.map T.sh))]
noncomputable def Ai (is os ws : List L3.D) : List (Str × T) := [("ins", .lst (is.map T.sh)), ("outs", .lst (os.map T.sh)), ("ways", .lst (ws.map T.sh))]
noncomputable def Aj (bs nm : List L3.D) (t : T) (is os ws : List L3.D) : List (Str × T) := Ah bs nm ++ (("tree" : Str), t) :: Ai is os ws
theorem K3 (bs nm : List L3.D) (t : T) (is os ws : List L3.D) : T.fc (.ins "Chart" (Aj bs nm t is os ws)) = EZ bs nm t.fc is os ws := by
 unfold Aj Ah Ai
 rw [akS, akS, alA, T.fc, T.jB, T.jB, T.jB, T.jB, T.jB, T.jB, T.jB, di, di, di, di, di]
 rfl
theorem dQ {ds : List L3.D} (h : D.bS ds = true) : (T.lst (ds.map T.sh)).clean = true := by
 rw [gA]
 induction ds with
 | nil => rfl
 | cons d ds ih =>
   rw [D.bS, alf] at h
   rw [akP, T.bV, ih h.2, T.clean, h.1]; rfl
theorem E1 {bs nm : List L3.D} (h1 : D.bS bs = true) (h2 : D.bS nm = true) : T.cM (Ah bs nm) = true := by
 unfold Ah
 rw [T.cM, T.cM, T.cM, dQ h1, dQ h2]; rfl
theorem E2 {is os ws : List L3.D} (h1 : D.bS is = true) (h2 : D.bS os = true) (h3 : D.bS ws = true) : T.cM (Ai is os ws) = true := by
 unfold Ai
 rw [T.cM, T.cM, T.cM, T.cM, dQ h1, dQ h2, dQ h3]; rfl
noncomputable def m9 (p : Str × Int) : L3.D := .tup [.str p.1, .int p.2]
theorem Xc {α : Type} {l : List α} {f : α -> L3.D} {g : L3.D -> T} {h : α -> T} (e : ∀ a ∈ l, g (f a) = h a) : T.lst (((l.map f).filter fun _ => true).map g) = T.lst (l.map h) := by
 rw [iJ, alc]
 exact congrArg T.lst (amf e)
noncomputable def gI (ns : List Int) (k : Int) : Int := if k < ns.length then ns.getD k.toNat 0 else 0
theorem gR (l : List Int) : qH 60 (.lst (l.map .int)) := .lst fun d hd => by
 obtain ⟨i, _, rfl⟩ := ak2.mp hd
 exact .int _ _
noncomputable abbrev St3 := List Int × List Int × List Int
inductive J where
 | out (m : Int) | O7 (m : Int) | keep (m p q : Int) | put (x p q : Int) | Tg (w : Str) (ds : List L3.D)
noncomputable def J.w : J -> Str
 | .out _ => "out"
 | .O7 _ => "in"
 | .keep _ _ _ => "keep"
 | .put _ _ _ => "put"
 | .Tg w _ => w
noncomputable def J.ds : J -> List L3.D
 | .out m => [.int m]
 | .O7 m => [.int m]
 | .keep m p q => [.int m, .int p, .int q]
 | .put x p q => [.int x, .int p, .int q]
 | .Tg _ ds => ds
noncomputable def J.d (r : J) : L3.D := .tup (.str r.w :: r.ds)
noncomputable def Xd : List Str := ["sign", "way", "call", "say", "rest"]
noncomputable def Ti (d : L3.D) : Prop := (∃ i, d = .int i) \/ ∃ x, d = .str x
noncomputable def J.ok (s : St3) : J -> Prop
 | .keep m _ _ => 0 <= m /\ m < s.2.1.length
 | .put x _ _ => 0 <= x /\ x < s.2.2.length
 | .Tg w ds => w ∈ Xd /\ ds.length <= 3 /\ ∀ d ∈ ds, Ti d
 | _ => True
noncomputable def Ak (back : Bool) (r : J) (bs : List Int) : List Int := match r with
 | .put x p q => bs.set x.toNat (if back then p else q)
 | _ => bs
theorem J.afH {s : St3} {r : J} (h : r.ok s) : r.ds.length <= 3 /\ ∀ d ∈ r.ds, Ti d := by
 cases r with
 | Tg w ds => exact h.2
 | out m => exact ⟨akz rfl, fun d hd => by simp only [J.ds, akB, akR, alD] at hd; exact .inl ⟨_, hd⟩⟩
 | O7 m => exact ⟨akz rfl, fun d hd => by simp only [J.ds, akB, akR, alD] at hd; exact .inl ⟨_, hd⟩⟩
 | keep m p q => exact ⟨akz rfl, fun d hd => by
     simp only [J.ds, akB, akR, alD] at hd
     rcases hd with h | h | h <;> exact .inl ⟨_, h⟩⟩
 | put m p q => exact ⟨akz rfl, fun d hd => by
     simp only [J.ds, akB, akR, alD] at hd
     rcases hd with h | h | h <;> exact .inl ⟨_, h⟩⟩
noncomputable def Right (n : Nat) (s : St3) : J -> Prop
 | .out m => m ∈ s.1
 | .O7 m => m ∉ s.1 /\ 0 <= m /\ m < n
 | .keep m p _ => 0 <= m /\ m < s.2.1.length /\ s.2.1.getD m.toNat 0 = p
 | .put x p _ => 0 <= x /\ x < s.2.2.length /\ s.2.2.getD x.toNat 0 = p
 | .Tg w ds => w ∈ Xd /\ ds.length <= 3 /\ ∀ d ∈ ds, Ti d
theorem Right.ok {n : Nat} {s : St3} {r : J} (h : Right n s r) : r.ok s := by
 cases r with
 | out m => trivial
 | O7 m => trivial
 | keep m p q => exact ⟨h.1, h.2.1⟩
 | put m p q => exact ⟨h.1, h.2.1⟩
 | Tg w ds => exact h
noncomputable def J.Tj : J -> Bool
 | .put _ _ _ => true
 | _ => false
theorem ab1 {w : Str} (h : w ∈ Xd) : ¬ w = "put" /\ ¬ w = "keep" /\ ¬ w = "in" /\ ¬ w = "out" := by
 have : ∀ w ∈ Xd, ¬ w = "put" /\ ¬ w = "keep" /\ ¬ w = "in" /\ ¬ w = "out" := by decide +kernel
 exact this w h
theorem aeG {s : St3} {r : J} (h : r.ok s) : decide (r.w = "put") = r.Tj := by
 cases r with
 | Tg w ds => exact alw (ab1 h.1).1
 | _ => first | exact decide_eq_true rfl | (refine decide_eq_false ?_; dsimp only [J.w]; decide +kernel)
theorem aha (r : J) : Hs (L3.D.str r.w :: r.ds) 0 = some (.str r.w) := bE (j := 0) rfl
theorem Tp (back : Bool) (r : J) (l : List Int) : (Ak back r l).length = l.length := by
 cases r <;> first | rfl | exact List.length_set
noncomputable def pD (bx mo : Int) (bs : List Int) : Int := if bx = -1 then mo else bs.getD bx.toNat 0 + mo
inductive bC where
 | put (x b m : Int)
 | call (s : Str)
 | say (s : Str) (b m : Int)
noncomputable def bC.w : bC -> Str
 | .put _ _ _ => "put"
 | .call _ => "call"
 | .say _ _ _ => "say"
noncomputable def bC.ds : bC -> List L3.D
 | .put x b m => [.int x, .tup [.int b, .int m]]
 | .call s => [.str s]
 | .say s b m => [.str s, .tup [.int b, .int m]]
noncomputable def bC.d (q : bC) : L3.D := .tup (.str q.w :: q.ds)
noncomputable def Xe (bs : List Int) (b : Int) : Prop := b = -1 \/ (0 <= b /\ b < bs.length)
noncomputable def bC.ok (bs : List Int) : bC -> Prop
 | .put x b _ => (0 <= x /\ x < bs.length) /\ Xe bs b
 | .call _ => True
 | .say _ b _ => Xe bs b
noncomputable def bC.row (bs : List Int) : bC -> J
 | .put x b m => .put x (bs.getD x.toNat 0) (pD b m bs)
 | .call s => .Tg "call" [.str s]
 | .say s b m => .Tg "say" [.str s, .int (pD b m bs)]
theorem PL {n : Nat} {s : St3} {q : bC} (h : q.ok s.2.2) : Right n s (q.row s.2.2) := by
 cases q with
 | put x b m => exact ⟨h.1.1, h.1.2, rfl⟩
 | call s => exact ⟨by decide +kernel, by show 1 <= 3; decide, fun d hd => by simp only [akB, akR, alD] at hd; exact .inr ⟨_, hd⟩⟩
 | say s b m => exact ⟨by decide +kernel, by show 2 <= 3; decide, fun d hd => by
     simp only [akB, akR, alD] at hd
     rcases hd with e | e
     . exact .inr ⟨_, e⟩
     . exact .inl ⟨_, e⟩⟩
theorem ab2 {bs : List Int} {q : bC} (h : q.ok bs) : ∃ o m, (q.row bs).ok (o, m, bs) := ⟨[], [], (PL (n := 0) (s := ([], [], bs)) h).ok⟩
theorem zg (bs : List Int) (q : bC) : (q.row bs).d.m5 = true := by cases q <;> rfl
theorem vO (q : bC) : q.d.m5 = true := by cases q <;> rfl
noncomputable def DP (bs : List Int) (q : bC) : List Int := Ak false (q.row bs) bs
theorem NX (bs : List Int) (q : bC) : (DP bs q).length = bs.length := Tp ..
theorem Tq (qs : List bC) : ∀ bs : List Int, (qs.foldl DP bs).length = bs.length := by
 induction qs with
 | nil => intro bs; rfl
 | cons q qs ih => intro bs; rw [alS, ih, NX]
noncomputable def fU : List bC -> List Int -> List J
 | [], _ => []
 | q :: qs, bs => q.row bs :: fU qs (DP bs q)
noncomputable def DY : bC -> Option Str
 | .call s => some s
 | _ => none
noncomputable def gJ (qs : List bC) : List Str := qs.filterMap DY
theorem Tr (qs : List bC) (q : bC) : ∀ bs : List Int, fU (qs ++ [q]) bs = fU qs bs ++ [q.row (qs.foldl DP bs)] := by
 induction qs with
 | nil => intro bs; rfl
 | cons p qs ih => intro bs; rw [akS, fU, ih, fU, alS, akS]
theorem Tt (qs : List bC) : ∀ bs : List Int, (fU qs bs).length = qs.length := by
 induction qs with
 | nil => intro bs; rfl
 | cons p qs ih => intro bs; rw [fU, akZ, ih, akZ]
theorem NZ {bs b2 : List Int} (h : b2.length = bs.length) (q : bC) (hq : q.ok bs) : q.ok b2 := by
 cases q with
 | put x b m =>
   have hq : (0 <= x /\ x < bs.length) /\ Xe bs b := hq
   show (0 <= x /\ x < b2.length) /\ Xe b2 b
   unfold Xe at hq ⊢
   rw [h]; exact hq
 | call s => trivial
 | say s b m =>
   have hq : Xe bs b := hq
   show Xe b2 b
   unfold Xe at hq ⊢
   rw [h]; exact hq
theorem jI {α : Type} {l : List α} {j : Nat} {x : α} (h : l[j]? = some x) : l.take (j + 1) = l.take j ++ [x] := by rw [al5, h]; rfl
inductive It where
 | out (m : Int) | keep (m p q : Int) | way (i : Int) | O7 (m : Int) | kJ (q : bC)
noncomputable def It.sj : It -> J
 | .out m => .out m
 | .keep m p q => .keep m p q
 | .way i => .Tg "way" [.int i]
 | .O7 m => .O7 m
 | .kJ q => .Tg q.w q.ds
noncomputable def It.d (x : It) : L3.D := x.sj.d
noncomputable def It.j (bs : List Int) : It -> J
 | .kJ q => q.row bs
 | x => x.sj
noncomputable def It.ok (bs : List Int) : It -> Prop
 | .kJ q => q.ok bs
 | _ => True
noncomputable def It.af (bs : List Int) : It -> List Int
 | .kJ q => DP bs q
 | _ => bs
noncomputable def It.call : It -> Option Str
 | .kJ q => DY q
 | _ => none
noncomputable def It.told : It -> Bool
 | .kJ _ => true
 | _ => false
noncomputable def kr : List Str := ["out", "keep", "way", "in"]
theorem Xf (x : It) : decide (x.sj.w ∈ kr) = !x.told := by
 cases x with
 | kJ q =>
   cases q with
   | put x b m => show decide (("put" : Str) ∈ kr) = false; decide +kernel
   | call s => show decide (("call" : Str) ∈ kr) = false; decide +kernel
   | say s b m => show decide (("say" : Str) ∈ kr) = false; decide +kernel
 | out m => show decide (("out" : Str) ∈ kr) = true; decide +kernel
 | keep m p q => show decide (("keep" : Str) ∈ kr) = true; decide +kernel
 | way i => show decide (("way" : Str) ∈ kr) = true; decide +kernel
 | O7 m => show decide (("in" : Str) ∈ kr) = true; decide +kernel
theorem Tv (x : It) : x.d.m5 = true := by
 cases x with
 | kJ q => exact vO q
 | _ => rfl
theorem Tw (bs : List Int) (x : It) : (x.j bs).d.m5 = true := by
 cases x with
 | kJ q => exact zg bs q
 | _ => rfl
theorem PN (bs : List Int) (x : It) : (x.af bs).length = bs.length := by
 cases x with
 | kJ q => exact NX bs q
 | _ => rfl
theorem uC (xs : List It) : ∀ bs : List Int, (xs.foldl It.af bs).length = bs.length := by
 induction xs with
 | nil => intro bs; rfl
 | cons x xs ih => intro bs; rw [alS, ih, PN]
noncomputable def sI : List It -> List Int -> List J
 | [], _ => []
 | x :: xs, bs => x.j bs :: sI xs (x.af bs)
noncomputable def bP (xs : List It) : List Str := xs.filterMap It.call
theorem Xg (xs : List It) (ys : List It) : ∀ bs : List Int, sI (xs ++ ys) bs = sI xs bs ++ sI ys (xs.foldl It.af bs) := by
 induction xs with
 | nil => intro bs; rfl
 | cons p xs ih => intro bs; rw [akS, sI, ih, sI, alS, akS]
theorem zj (xs : List It) : ∀ bs : List Int, (sI xs bs).length = xs.length := by
 induction xs with
 | nil => intro bs; rfl
 | cons p xs ih => intro bs; rw [sI, akZ, ih, akZ]
theorem E3 (xs : List It) : ∀ bs : List Int, D.bS ((sI xs bs).map J.d) = true := by
 induction xs with
 | nil => intro bs; rfl
 | cons x xs ih => intro bs; rw [sI, akP, D.bS, Tw, ih]; rfl
theorem PR (qs : List bC) : ∀ bs : List Int, D.bS ((fU qs bs).map J.d) = true := by
 induction qs with
 | nil => intro bs; rfl
 | cons q qs ih => intro bs; rw [fU, akP, D.bS, zg, ih]; rfl
theorem IQ (xs : List It) (x : It) : bP (xs ++ [x]) = bP xs ++ x.call.toList := by
 unfold bP
 rw [ama]
 congr 1
theorem Xh {bs b2 : List Int} (h : b2.length = bs.length) (x : It) (hx : x.ok bs) : x.ok b2 := by
 cases x with
 | kJ q => exact NZ h q hx
 | _ => trivial
theorem pF : ∀ {ds : List L3.D}, D.bS ds = true -> T.bV (ds.map T.sh) = true
 | [], _ => rfl
 | d :: ds, h => by
   rw [D.bS, alf] at h
   rw [akP, T.bV, pF h.2, T.clean, h.1]
   rfl
theorem K4 {l1 l2 l3 : List L3.D} (h1 : D.bS l1 = true) (h2 : D.bS l2 = true) (h3 : D.bS l3 = true) : (T.tup [.lst (l1.map T.sh), .lst (l2.map T.sh), .lst (l3.map T.sh)]).clean = true := by
 rw [T.clean, T.bV, T.bV, T.bV, T.bV, gA, gA, gA, pF h1, pF h2, pF h3]
 rfl
theorem K5 (bs bs2 : List Int) (q : bC) : (T.tup [.lst ((bs2.map L3.D.int).map T.sh), .sh (q.row bs).d]).clean = true := by
 rw [T.clean, T.bV, T.bV, T.bV, T.clean, T.clean, mG, zg]
 rfl
theorem aah {d : L3.D} {ds : List L3.D} : Hs (d :: ds) 0 = some d := bE (j := 0) rfl
noncomputable def aeH (ks : List Str) (x : Int) : Bool := decide (ks.getD x.toNat Str.empty = "leaf")
noncomputable def lvM (ks : List Str) (ops : List Int) : List Int := ops.filter (aeH ks)
noncomputable abbrev LW := Str × List bC
noncomputable def E4 : LW := (Str.empty, [])
noncomputable def Ht (p : LW) : L3.D := .tup [.int 0, .str p.1, .tup [], .tup (p.2.map bC.d), .int (-1), .str "new"]
noncomputable def Xi : List Str := ["leaf"]
noncomputable def Hu : List Int := [-1]
noncomputable def Al : L3.D := DX Xi Hu Hu
noncomputable def bX (bx nm : List L3.D) (i0 : List bC) (ps : List LW) : L3.D := EZ bx nm Al [.tup (i0.map bC.d)] [.tup []] (ps.map Ht)
noncomputable def oU : L3.D := .tup [.lst [.int 0], .lst [.int (-1)]]
noncomputable def uD (ps : List LW) (sg : Str) (j : Nat) : List Nat := (List.range j).filter fun k => decide ((ps.getD k E4).1 = sg)
noncomputable def Cj (l : List Nat) : List Int := l.map fun (k : Nat) => (k : Int)
noncomputable def Hv (ps : List LW) (sg : Str) : List Int := (Cj (uD ps sg ps.length)).take 1
noncomputable def yG (ps : List LW) (sg : Str) : List It := (Hv ps sg).flatMap fun k => .way k :: (ps.getD k.toNat E4).2.map .kJ
theorem PV (ps : List LW) (sg : Str) (j : Nat) : uD ps sg (j + 1) = uD ps sg j ++ if decide ((ps.getD j E4).1 = sg) = true then [j] else [] := by
 unfold uD
 rw [List.range_succ, amk, List.filter_cons, List.filter_nil]
theorem IU (ps : List LW) (sg : Str) (j : Nat) : (uD ps sg j).length <= j := by
 have := List.length_filter_le (fun k => decide ((ps.getD k E4).1 = sg)) (List.range j)
 rwa [List.length_range] at this
theorem Am {ps : List LW} {sg : Str} {j k : Nat} (h : k ∈ uD ps sg j) : k < j := alF.mp (List.mem_filter.mp h).1
theorem E5 {ps : List LW} {sg : Str} {k : Int} (h : k ∈ Hv ps sg) : 0 <= k /\ k < ps.length := by
 have h := List.mem_of_mem_take h
 obtain ⟨n, hn, rfl⟩ := ak2.mp h
 have := Am hn
 omega
theorem zk (ps : List LW) (sg : Str) : (Hv ps sg).length <= 1 := by
 unfold Hv
 rw [alx]
 omega
theorem ab3 {α : Type} (x : α) (l : List α) : tV (fun _ => (0 : Int)) x l = x :: l := by
 cases l with
 | nil => rfl
 | cons y l => rw [tV]; rw [akJ (by omega)]
theorem E6 {α : Type} : ∀ l : List α, iK (fun _ => (0 : Int)) l = l
 | [] => rfl
 | x :: l => by rw [iK, E6 l, ab3]
theorem trL : Tf Hu := fun k hk => by
 have hk : k < 1 := hk
 have : k = 0 := by omega
 subst this
 exact ⟨by decide, by decide⟩
theorem chL : Xb Hu 0 = [] := by decide +kernel
theorem ow (l : List bC) : D.bS (l.map bC.d) = true := iR vO l
noncomputable def cZ (cd pl : L3.D) (pa : List L3.D) (bs : List Int) (ex : List (Str × T)) : List (Str × T) := ("chart", .sh cd) :: ("place", .sh pl) :: ("past", .lst (pa.map T.sh)) :: ("boxes", .sh (.lst (bs.map .int))) :: ex
noncomputable def oz (cd pl : L3.D) (pa : List L3.D) (bs : List Int) (ex : List (Str × L3.D)) : List (Str × L3.D) := ("chart", cd) :: ("place", pl) :: ("past", .lst pa) :: ("boxes", .lst (bs.map .int)) :: ex
noncomputable def yU : Option (List L3.D) -> List (Str × T)
 | none => []
 | some r => [("first_rows", .lst (r.map T.sh))]
noncomputable def N1 : Option (List L3.D) -> List (Str × L3.D)
 | none => []
 | some r => [("first_rows", .lst r)]
section
variable {cd pl p : L3.D} {pa : List L3.D} {bs : List Int} {ex : List (Str × L3.D)} {et : List (Str × T)} {eo : Option (List L3.D)} {y : Addr} {m : Str} {t : T}
theorem zl : T.fc (.ins "NestRun" (cZ cd pl pa bs (yU eo))) = .ins "NestRun" (oz cd pl pa bs (N1 eo)) := by
 cases eo with
 | none =>
   unfold cZ oz yU N1
   rw [T.fc, T.jB, T.jB, T.jB, T.jB, T.jB, T.fc, T.fc, T.fc, di]
 | some r =>
   unfold cZ oz yU N1
   rw [T.fc, T.jB, T.jB, T.jB, T.jB, T.jB, T.jB, T.fc, T.fc, T.fc, di, di]
theorem IV : T.fc (.pin y (.ins "NestRun" (cZ cd pl pa bs (yU eo)))) = .ins "NestRun" (oz cd pl pa bs (N1 eo)) := by
 rw [T.fc, zl]
theorem xG : List.lookup ("chart" : Str) (oz cd pl pa bs ex) = some cd := fj
theorem DZ : List.lookup ("place" : Str) (oz cd pl pa bs ex) = some pl := by
 unfold oz
 rw [bu (by decide +kernel), fj]
theorem Tz : List.lookup ("past" : Str) (oz cd pl pa bs ex) = some (.lst pa) := by
 unfold oz
 rw [bu (by decide +kernel), bu (by decide +kernel), fj]
theorem xH : List.lookup ("boxes" : Str) (oz cd pl pa bs ex) = some (.lst (bs.map .int)) := by
 unfold oz
 rw [bu (by decide +kernel), bu (by decide +kernel), bu (by decide +kernel), fj]
theorem PX {r : List L3.D} : List.lookup ("first_rows" : Str) (oz cd pl pa bs (N1 (some r))) = some (.lst r) := by
 unfold oz N1
 rw [bu (by decide +kernel), bu (by decide +kernel), bu (by decide +kernel), bu (by decide +kernel), fj]
theorem TF (h1 : (m == ("chart" : Str)) = false) (h2 : (m == ("place" : Str)) = false) (h3 : (m == ("past" : Str)) = false) (h4 : (m == ("boxes" : Str)) = false) (h5 : (m == ("first_rows" : Str)) = false) : (oz cd pl pa bs (N1 eo)).lookup m = none := by
 unfold oz
 rw [bu h1, bu h2, bu h3, bu h4]
 cases eo with
 | none => rfl
 | some r =>
   unfold N1
   rw [bu h5]
   rfl
theorem E7 (h1 : (m == ("chart" : Str)) = false) (h2 : (m == ("place" : Str)) = false) (h3 : (m == ("past" : Str)) = false) (h4 : (m == ("boxes" : Str)) = false) (h5 : (m == ("first_rows" : Str)) = false) : (cZ cd pl pa bs (yU eo)).lookup m = none := by
 unfold cZ
 rw [bu h1, bu h2, bu h3, bu h4]
 cases eo with
 | none => rfl
 | some r =>
   unfold yU
   rw [bu h5]
   rfl
theorem An : List.lookup ("place" : Str) (cZ cd pl pa bs et) = some (.sh pl) := by
 unfold cZ
 rw [bu (by decide +kernel), fj]
theorem xJ : List.lookup ("past" : Str) (cZ cd pl pa bs et) = some (.lst (pa.map T.sh)) := by
 unfold cZ
 rw [bu (by decide +kernel), bu (by decide +kernel), fj]
theorem Ao : List.lookup ("boxes" : Str) (cZ cd pl pa bs et) = some (.sh (.lst (bs.map .int))) := by
 unfold cZ
 rw [bu (by decide +kernel), bu (by decide +kernel), bu (by decide +kernel), fj]
theorem PY : ko "place" (.sh p) (cZ cd pl pa bs et) = cZ cd p pa bs et := by
 unfold cZ
 rw [aR (by decide +kernel), xr]
theorem TH {t2 : List L3.D} : ko "past" (.lst (t2.map T.sh)) (cZ cd pl pa bs et) = cZ cd pl t2 bs et := by
 unfold cZ
 rw [aR (by decide +kernel), aR (by decide +kernel), xr]
theorem PZ {b2 : List Int} : ko "boxes" (.sh (.lst (b2.map .int))) (cZ cd pl pa bs et) = cZ cd pl pa b2 et := by
 unfold cZ
 rw [aR (by decide +kernel), aR (by decide +kernel), aR (by decide +kernel), xr]
theorem P0 : T.qG [.fld "place"] (.pin y (.ins "NestRun" (cZ cd pl pa bs et))) = some (.sh pl) := by
 show (List.lookup _ _).bind _ = _
 rw [An]
 rfl
theorem P1 : T.qG [.fld "boxes"] (.pin y (.ins "NestRun" (cZ cd pl pa bs et))) = some (.sh (.lst (bs.map .int))) := by
 show (List.lookup _ _).bind _ = _
 rw [Ao]
 rfl
theorem IW : T.qG [.fld "past"] (.pin y (.ins "NestRun" (cZ cd pl pa bs et))) = some (.lst (pa.map T.sh)) := by
 show (List.lookup _ _).bind _ = _
 rw [xJ]
 rfl
theorem P4 {t2 : List L3.D} : T.xE [.fld "past"] (.lst (t2.map T.sh)) (.pin y (.ins "NestRun" (cZ cd pl pa bs et))) = .pin y (.ins "NestRun" (cZ cd pl t2 bs et)) := by
 have e : T.kid (.fld "past") (.ins "NestRun" (cZ cd pl pa bs et)) = some (.lst (pa.map T.sh)) := xJ (cd := cd) (pl := pl) (pa := pa) (bs := bs) (et := et)
 rw [T.xE, show T.core (.pin y (.ins "NestRun" (cZ cd pl pa bs et))) = .ins "NestRun" (cZ cd pl pa bs et) from rfl, e]
 show T.pin y (.ins "NestRun" (ko "past" (.lst (t2.map T.sh)) (cZ cd pl pa bs et))) = _
 rw [TH]
end
theorem Aq (cd pl : L3.D) (pa : List L3.D) (bs : List Int) (eo : Option (List L3.D)) : (cZ cd pl pa bs (yU eo)).length < 1000 := by
 cases eo with
 | none => exact akz rfl
 | some r => exact akz rfl
noncomputable def wY (ps : List LW) : Nat -> List Str × List Int -> List L3.D × List Str × List Int
 | 0, s => ([], s)
 | j + 1, s => match wY ps j s with
   | (rs, [], bs) => (rs, [], bs)
   | (rs, sg :: w, bs) => (rs ++ (L3.D.tup [.str "sign", .str sg] :: (sI (yG ps sg) bs).map J.d), w ++ bP (yG ps sg), (yG ps sg).foldl It.af bs)
noncomputable def B6 (ps : List LW) (cs : List Str) (bs : List Int) : List L3.D := (wY ps 8 (cs, bs)).1 ++ (if (wY ps 8 (cs, bs)).2.1 = [] then [] else [.tup [.str "rest", .int (((wY ps 8 (cs, bs)).2.1.length : Nat) : Int)]])
noncomputable def K6 (ps : List LW) (cs : List Str) (bs : List Int) : List Int := (wY ps 8 (cs, bs)).2.2
theorem IX {ps : List LW} {s : List Str × List Int} {j : Nat} (h : (wY ps j s).2.1 = []) : ∀ k, wY ps (j + k) s = wY ps j s
 | 0 => rfl
 | k + 1 => by
   rw [← Nat.add_assoc, wY, IX h k]
   generalize wY ps j s = r at h ⊢
   obtain ⟨rs, w, bs⟩ := r
   have h : w = [] := h
   subst h
   rfl
theorem As {ps : List LW} {s : List Str × List Int} {j : Nat} {rs : List L3.D} {sg : Str} {w : List Str} {bs : List Int} (h : wY ps j s = (rs, sg :: w, bs)) :
   wY ps (j + 1) s = (rs ++ (L3.D.tup [.str "sign", .str sg] :: (sI (yG ps sg) bs).map J.d), w ++ bP (yG ps sg), (yG ps sg).foldl It.af bs) := by
 rw [wY, h]
structure Ck (ps : List LW) (n : Nat) : Prop where
 l : ps.length <= 63
 d : ∀ p ∈ ps, p.2.length <= 20
 q : ∀ p ∈ ps, ∀ bs : List Int, bs.length = n -> ∀ q ∈ p.2, q.ok bs
theorem aeI {ps : List LW} {k : Int} (h0 : 0 <= k) (h1 : k < ps.length) : ps.getD k.toNat E4 ∈ ps := by
 rw [ale, akX (by omega)]
 exact List.getElem_mem _
theorem TJ {ps : List LW} {n : Nat} (h : Ck ps n) (sg : Str) : (yG ps sg).length <= 21 /\ ∀ bs : List Int, bs.length = n -> ∀ x ∈ yG ps sg, x.ok bs := by
 have hl := zk ps sg
 have hm := @E5 ps sg
 unfold yG
 refine ⟨?_, fun bs hb x hx => ?_⟩
 . generalize Hv ps sg = l at hl hm
   match l, hl with
   | [], _ => simp
   | [k], _ =>
     obtain ⟨k0, k1⟩ := hm akA
     have := h.d _ (aeI k0 k1)
     rw [alI, alO, akK, akZ, akD]
     omega
 . obtain ⟨k, hk, hx⟩ := List.mem_flatMap.mp hx
   obtain ⟨k0, k1⟩ := hm hk
   rcases akB.mp hx with rfl | hx
   . trivial
   . obtain ⟨q, hq, rfl⟩ := ak2.mp hx
     exact h.q _ (aeI k0 k1) bs hb q hq
theorem E8 {ps : List LW} {n : Nat} (h : Ck ps n) {cs : List Str} {bs : List Int} (hb : bs.length = n) : ∀ j, (wY ps j (cs, bs)).1.length <= 22 * j /\ (wY ps j (cs, bs)).2.1.length <= cs.length + 21 * j /\ (wY ps j (cs, bs)).2.2.length = n /\ D.bS (wY ps j (cs, bs)).1 = true
 | 0 => ⟨akV _, akG _, hb, rfl⟩
 | j + 1 => by
   obtain ⟨h1, h2, h3, h4⟩ := E8 h (cs := cs) hb j
   cases e : wY ps j (cs, bs) with
   | mk rs r =>
     obtain ⟨w, b2⟩ := r
     rw [e] at h1 h2 h3 h4
     dsimp only at h1 h2 h3 h4
     cases w with
     | nil =>
       rw [wY, e]
       exact ⟨by dsimp only; omega, by simp, h3, h4⟩
     | cons sg w =>
       rw [As e]
       obtain ⟨s1, s2⟩ := TJ h sg
       have s3 : (bP (yG ps sg)).length <= (yG ps sg).length := alE _ _
       rw [akZ] at h2
       refine ⟨?_, ?_, ?_, ?_⟩
       . dsimp only
         rw [ak1, akZ, akD, zj]
         omega
       . dsimp only
         rw [ak1]
         omega
       . exact (uC _ _).trans h3
       . refine kI fun d hd => ?_
         rcases akC.mp hd with z | z
         . exact gO h4 d z
         . rcases akB.mp z with rfl | z
           . rfl
           . exact gO (E3 _ _) d z
theorem TL {ps : List LW} {n : Nat} (h : Ck ps n) {cs : List Str} {bs : List Int} (hb : bs.length = n) : (B6 ps cs bs).length <= 200 /\ D.bS (B6 ps cs bs) = true := by
 obtain ⟨h1, h2, h3, h4⟩ := E8 h (cs := cs) hb 8
 unfold B6
 refine ⟨?_, kI fun d hd => ?_⟩
 . rw [ak1]
   split <;> simp <;> omega
 . rcases akC.mp hd with z | z
   . exact gO h4 d z
   . split at z
     . cases z
     . rw [alg.mp z]; rfl
noncomputable def iV (i0 : List bC) : List It := .O7 0 :: i0.map .kJ
theorem ab4 (i0 : List bC) : (iV i0).map It.d = L3.D.tup [.str "in", .int 0] :: i0.map bC.d := by
 unfold iV
 rw [akP, alc]
 rfl
theorem Xj {i0 : List bC} {bs : List Int} (h : ∀ q ∈ i0, q.ok bs) : ∀ x ∈ iV i0, x.ok bs := fun x hx => by
 rcases akB.mp hx with rfl | hx
 . trivial
 . obtain ⟨q, hq, rfl⟩ := ak2.mp hx
   exact h q hq
noncomputable abbrev d9 := List Int × Int × List Int
noncomputable def vp : d9 := ([], 0, [])
noncomputable def qz (p : d9) : L3.D := .tup [.lst (p.1.map .int), .int p.2.1, .lst (p.2.2.map .int)]
noncomputable def sN (i : Int) : Str := ("s" : Str) ++ (toString i : Str)
theorem ab5 : ∀ n : Nat, n < 5 -> ((sN (n : Int)).length = 2 /\ PyData.strOk (sN (n : Int)) = true) /\ ((toString (n : Int) : Str).length = 1 /\ (n : Int).natAbs.log2 < 1920) := by decide +kernel
theorem ab6 : ∀ n : Nat, n < 5 -> ∀ m : Nat, m < 5 -> sN (n : Int) = sN (m : Int) -> n = m := by decide +kernel
structure iD (n : Nat) (p : d9) : Prop where
 l1 : p.1.length <= 3
 l2 : p.2.2.length <= 3
 b1 : ∀ x ∈ p.1, 0 <= x /\ x < (n : Int)
 b2 : ∀ x ∈ p.2.2, 0 <= x /\ x < (n : Int)
noncomputable def cD (l : List Int) : List bC := l.map fun i => .call (sN i)
noncomputable def Au (p : d9) : List bC := cD p.1 ++ ([.put 0 0 p.2.1, .say "now" 0 0] ++ cD p.2.2)
noncomputable def uE (pt : List d9) : List LW := (List.range pt.length).map fun (k : Nat) => (sN (k : Int), Au (pt.getD k vp))
theorem TN {pt : List d9} {n : Nat} (h : ∀ p ∈ pt, iD n p) (k : Nat) : iD n (pt.getD k vp) := by
 by_cases hk : k < pt.length
 . rw [ale, akX hk]
   exact h _ (List.getElem_mem _)
 . rw [ale, alB (by omega)]
   exact ⟨by decide, by decide, fun x hx => (by cases hx), fun x hx => (by cases hx)⟩
theorem Xk {n : Nat} {p : d9} (h : iD n p) : (Au p).length <= 8 := by
 have := h.l1
 have := h.l2
 unfold Au cD
 simp
 omega
theorem ab7 (p : d9) {bs : List Int} (hb : bs.length = 1) : ∀ q ∈ Au p, q.ok bs := fun q hq => by
 unfold Au cD at hq
 simp only [akC, akB, akR, alD, ak2] at hq
 rcases hq with ⟨i, _, rfl⟩ | (rfl | rfl) | ⟨i, _, rfl⟩
 . trivial
 . exact ⟨⟨by decide, by rw [hb]; decide⟩, .inr ⟨by decide, by rw [hb]; decide⟩⟩
 . exact .inr ⟨by decide, by rw [hb]; decide⟩
 . trivial
theorem TQ {pt : List d9} {n : Nat} (hl : pt.length <= 5) (h : ∀ p ∈ pt, iD n p) : Ck (uE pt) 1 := by
 refine ⟨by unfold uE; simp; omega, fun p hp => ?_, fun p hp bs hb => ?_⟩
 . obtain ⟨k, _, rfl⟩ := ak2.mp hp
   have := Xk (TN h k)
   show (Au _).length <= 20
   omega
 . obtain ⟨k, _, rfl⟩ := ak2.mp hp
   exact ab7 _ hb
theorem K7 {pt : List d9} {k : Nat} (hk : k < pt.length) : (uE pt).getD k E4 = (sN (k : Int), Au (pt.getD k vp)) := by
 unfold uE
 rw [ale, ak0, alV hk]
 rfl
theorem K8 {p : Nat -> Bool} {n k : Nat} (hk : k < n) (h1 : p k = true) (h2 : ∀ m, m < n -> p m = true -> m = k) : (List.range n).filter p = [k] := by
 induction n with
 | zero => omega
 | succ n ih =>
   rw [List.range_succ, amk]
   by_cases e : k = n
   . subst e
     have e0 : (List.range k).filter p = [] := List.filter_eq_nil_iff.mpr fun m hm hp => by
       have := h2 m (by have := alF.mp hm; omega) hp
       have := alF.mp hm
       omega
     rw [e0, List.filter_cons, h1]
     rfl
   . have e1 : p n = false := by
       cases q : p n with
       | false => rfl
       | true => exact absurd (h2 n (by omega) q).symm e
     rw [ih (by omega) fun m hm => h2 m (by omega), List.filter_cons, e1]
     rfl
theorem Xl {pt : List d9} (hl : pt.length <= 5) {k : Nat} (hk : k < pt.length) : uD (uE pt) (sN (k : Int)) (uE pt).length = [k] := by
 have el : (uE pt).length = pt.length := by unfold uE; simp
 unfold uD
 rw [el]
 refine K8 hk ?_ fun m hm hp => ?_
 . rw [K7 hk]
   exact al1 rfl
 . rw [K7 hm] at hp
   exact ab6 m (by omega) k (by omega) (alv hp)
theorem ab8 {pt : List d9} (hl : pt.length <= 5) {k : Nat} (hk : k < pt.length) : yG (uE pt) (sN (k : Int)) = .way (k : Int) :: (Au (pt.getD k vp)).map .kJ := by
 unfold yG Hv
 rw [Xl hl hk]
 show ([(k : Int)].flatMap _) = _
 rw [alI, alO, akK, al6, K7 hk]
theorem IY (qs : List bC) : ∀ bs : List Int, sI (qs.map .kJ) bs = fU qs bs /\ (qs.map It.kJ).foldl It.af bs = qs.foldl DP bs /\ bP (qs.map .kJ) = gJ qs := by
 induction qs with
 | nil => intro bs; exact ⟨rfl, rfl, rfl⟩
 | cons q qs ih =>
   intro bs
   obtain ⟨h1, h2, h3⟩ := ih (DP bs q)
   refine ⟨?_, ?_, ?_⟩
   . rw [akP, sI, fU]
     exact congrArg (q.row bs :: ·) h1
   . rw [akP, alS, alS]
     exact h2
   . unfold bP gJ at h3 ⊢
     rw [akP, ald, ald]
     rw [h3]
     rfl
noncomputable def fZ (i : Int) : L3.D := .tup [.str "call", .str (sN i)]
theorem EY (l : List Int) : ∀ bs : List Int, (fU (cD l) bs).map J.d = l.map fZ /\ (cD l).foldl DP bs = bs /\ gJ (cD l) = l.map sN := by
 induction l with
 | nil => intro bs; exact ⟨rfl, rfl, rfl⟩
 | cons i l ih =>
   intro bs
   obtain ⟨h1, h2, h3⟩ := ih bs
   refine ⟨?_, h2, ?_⟩
   . show J.d _ :: (fU (cD l) bs).map J.d = _
     rw [h1]
     rfl
   . show sN i :: gJ (cD l) = _
     rw [h3]
     rfl
theorem IZ (xs ys : List bC) : ∀ bs : List Int, fU (xs ++ ys) bs = fU xs bs ++ fU ys (xs.foldl DP bs) := by
 induction xs with
 | nil => intro bs; rfl
 | cons p xs ih => intro bs; rw [akS, fU, ih, fU, alS, akS]
noncomputable def E9 (p : d9) (n : Int) : List L3.D := p.1.map fZ ++ ([.tup [.str "put", .int 0, .int n, .int (n + p.2.1)], .tup [.str "say", .str "now", .int (n + p.2.1)]] ++ p.2.2.map fZ)
theorem Xm (p : d9) (n : Int) : (fU (Au p) [n]).map J.d = E9 p n /\ (Au p).foldl DP [n] = [n + p.2.1] /\ gJ (Au p) = (p.1 ++ p.2.2).map sN := by
 obtain ⟨a1, a2, a3⟩ := EY p.1 [n]
 obtain ⟨b1, b2, b3⟩ := EY p.2.2 [n + p.2.1]
 have e2 : ([.put 0 0 p.2.1, .say "now" 0 0] : List bC).foldl DP [n] = [n + p.2.1] := rfl
 unfold Au E9
 refine ⟨?_, ?_, ?_⟩
 . rw [IZ, a2, IZ, e2, akM, akM, a1, b1]
   have e : (fU [.put 0 0 p.2.1, .say "now" 0 0] [n]).map J.d = [.tup [.str "put", .int 0, .int n, .int (n + p.2.1)], .tup [.str "say", .str "now", .int (n + p.2.1 + 0)]] := rfl
   rw [e, Int.add_zero]
 . rw [ams, a2, ams, e2, b2]
 . unfold gJ at *
   rw [ama, ama, a3, b3, akM]
   rfl
noncomputable def tW (pt : List d9) : Nat -> List Int × Int -> List L3.D × List Int × Int
 | 0, s => ([], s)
 | j + 1, s => match tW pt j s with
   | (rs, [], n) => (rs, [], n)
   | (rs, k :: w, n) => (rs ++ (L3.D.tup [.str "sign", .str (sN k)] :: .tup [.str "way", .int k] :: E9 (pt.getD k.toNat vp) n), w ++ ((pt.getD k.toNat vp).1 ++ (pt.getD k.toNat vp).2.2), n + (pt.getD k.toNat vp).2.1)
theorem I0 {pt : List d9} {s : List Int × Int} {j : Nat} (h : (tW pt j s).2.1 = []) : ∀ k, tW pt (j + k) s = tW pt j s
 | 0 => rfl
 | k + 1 => by
   rw [← Nat.add_assoc, tW, I0 h k]
   generalize tW pt j s = r at h ⊢
   obtain ⟨rs, w, n⟩ := r
   have h : w = [] := h
   subst h
   rfl
theorem Av {pt : List d9} {s : List Int × Int} {j : Nat} {rs : List L3.D} {k : Int} {w : List Int} {n : Int} (h : tW pt j s = (rs, k :: w, n)) :
   tW pt (j + 1) s = (rs ++ (L3.D.tup [.str "sign", .str (sN k)] :: .tup [.str "way", .int k] :: E9 (pt.getD k.toNat vp) n), w ++ ((pt.getD k.toNat vp).1 ++ (pt.getD k.toNat vp).2.2), n + (pt.getD k.toNat vp).2.1) := by
 rw [tW, h]
theorem Ja {pt : List d9} (hl : pt.length <= 5) (h : ∀ p ∈ pt, iD pt.length p) {w : List Int} (hw : ∀ x ∈ w, 0 <= x /\ x < (pt.length : Int)) (n : Int) : ∀ j, (∀ x ∈ (tW pt j (w, n)).2.1, 0 <= x /\ x < (pt.length : Int)) /\ wY (uE pt) j (w.map sN, [n]) = ((tW pt j (w, n)).1, (tW pt j (w, n)).2.1.map sN, [(tW pt j (w, n)).2.2])
 | 0 => ⟨hw, rfl⟩
 | j + 1 => by
   obtain ⟨h1, h2⟩ := Ja hl h hw n j
   cases e : tW pt j (w, n) with
   | mk rs r =>
     obtain ⟨w2, m⟩ := r
     rw [e] at h1 h2
     dsimp only at h1 h2
     cases w2 with
     | nil =>
       rw [tW, e, wY, h2]
       exact ⟨fun x hx => (by cases hx), rfl⟩
     | cons k w2 =>
       obtain ⟨k0, k1⟩ := h1 k akA
       obtain ⟨i, rfl⟩ : ∃ i : Nat, k = (i : Int) := ⟨k.toNat, by omega⟩
       have hi : i < pt.length := by omega
       rw [Av e, As (sg := sN (i : Int)) (w := w2.map sN) (bs := [m]) (by rw [h2]; rfl), ab8 hl hi]
       obtain ⟨d1, d2, d3⟩ := IY (Au (pt.getD i vp)) [m]
       obtain ⟨p1, p2, p3⟩ := Xm (pt.getD i vp) m
       have hp := TN h i
       dsimp only
       rw [al6]
       refine ⟨fun x hx => ?_, ?_⟩
       . rcases akC.mp hx with z | z
         . exact h1 x (akE _ z)
         . rcases akC.mp z with z | z
           . exact hp.b1 x z
           . exact hp.b2 x z
       . have e1 : (sI (It.way (i : Int) :: (Au (pt.getD i vp)).map .kJ) [m]).map J.d = .tup [.str "way", .int (i : Int)] :: E9 (pt.getD i vp) m := by
           rw [sI, akP]
           refine congrArg (L3.D.tup [.str "way", .int (i : Int)] :: ·) ?_
           rw [← p1]
           exact congrArg (List.map J.d) d1
         have e2 : bP (It.way (i : Int) :: (Au (pt.getD i vp)).map .kJ) = ((pt.getD i vp).1 ++ (pt.getD i vp).2.2).map sN := by
           rw [← p3, ← d3]
           rfl
         have e3 : (It.way (i : Int) :: (Au (pt.getD i vp)).map .kJ).foldl It.af [m] = [m + (pt.getD i vp).2.1] := by
           rw [← p2, ← d2]
           rfl
         rw [e1, e2, e3, akM (l₁ := w2)]
noncomputable def Aw (pt : List d9) (w : List Int) (n : Int) : List L3.D := (tW pt 8 (w, n)).1 ++ (if (tW pt 8 (w, n)).2.1 = [] then [] else [.tup [.str "rest", .int (((tW pt 8 (w, n)).2.1.length : Nat) : Int)]])
noncomputable def Fb (pt : List d9) (w : List Int) (n : Int) : Int := (tW pt 8 (w, n)).2.2
theorem K9 {pt : List d9} (hl : pt.length <= 5) (h : ∀ p ∈ pt, iD pt.length p) {w : List Int} (hw : ∀ x ∈ w, 0 <= x /\ x < (pt.length : Int)) (n : Int) : B6 (uE pt) (w.map sN) [n] = Aw pt w n /\ K6 (uE pt) (w.map sN) [n] = [Fb pt w n] := by
 obtain ⟨_, h2⟩ := Ja hl h hw n 8
 unfold B6 K6 Aw Fb
 rw [h2]
 dsimp only
 refine ⟨?_, rfl⟩
 congr 1
 by_cases e : (tW pt 8 (w, n)).2.1 = []
 . rw [akJ e, akJ (by rw [e]; rfl)]
 . rw [if_neg e, if_neg (by simpa using e), List.length_map]
theorem Ax {i : Int} {n : Nat} (hn : n <= 5) (h : 0 <= i /\ i < (n : Int)) : qH 59 (fZ i) := .tup fun d hd => by
 simp only [akB, akR, alD] at hd
 rcases hd with rfl | rfl
 . exact .str _ _ (by decide +kernel)
 . obtain ⟨m, rfl⟩ : ∃ m : Nat, i = (m : Int) := ⟨i.toNat, by omega⟩
   exact .str _ _ (ab5 m (by omega)).1.2
theorem Fd {i : Int} {n : Nat} (hn : n <= 5) (h : 0 <= i /\ i < (n : Int)) : ((sN i).length = 2 /\ PyData.strOk (sN i) = true) /\ ((toString i : Str).length = 1 /\ i.natAbs.log2 < 1920) := by
 obtain ⟨m, rfl⟩ : ∃ m : Nat, i = (m : Int) := ⟨i.toNat, by omega⟩
 exact ab5 m (by omega)
theorem Ay (l : List Int) : (cD l).map bC.d = l.map fZ := by
 unfold cD
 rw [alc]
 rfl
theorem lq (l : List Int) : D.bS (l.map fZ) = true := iR (fun _ => rfl) l
seal L3.eL L3.OZ L3.cJ L3.dU L3.yw L3.Nk L3.OY
noncomputable abbrev sJ : Stmt := top 63
noncomputable abbrev xK : Type := List Int × Int
noncomputable def mL : xK -> List L3.D := fun (ns, j) => [.lst (ns.map .int), .int j]
noncomputable def mO : xK -> Prop := fun (ns, j) => 0 <= j
noncomputable def mP : xK -> T := fun (ns, j) => (.sh (.int (gI ns j)) : T)
structure P5 (X : Cx) (CL : Str -> Addr) : Prop extends cy X where
 cz : Ln X 0 "script"
 Xn : Ln X 1 "k"
 qY : Gl X "len"
 qZ : X.mg "len" = none
theorem P6 {X : Cx} {CL : Str -> Addr} {b : Bx} (E : P5 X CL) (ns j) (h : mO (ns, j)) :
   aE X CL b sJ ["script", "k"] (mL (ns, j)) (mP (ns, j)) := by
 dsimp only [aE, mO, mL, mP] at h ⊢
 refine m8 (RB (bD E.Xn) (aq (zb E.qZ (bD E.cz) E.qY))).1 (fun hp => ?_) (fun hp => ?_)
 . have e : j < ns.length := by simpa using of_decide_eq_true hp
   refine cu (fP (fh (bD E.cz) (bD E.Xn) (zX h e)) rfl) ?_
   show T.sh _ = T.sh (.int (gI ns j))
   rw [gI, akJ e]
 . have e : ¬ j < ns.length := by simpa using of_decide_eq_false hp
   refine aO (cu aB ?_)
   show T.sh _ = T.sh (.int (gI ns j))
   rw [gI, akH e]
theorem uF : lG (ao sJ) ([("script", av), ("k", av), ("len", aH)]) = true := by decide +kernel
theorem Az : aM ["script", "k"] ["script", "k"] (ao sJ) := aW
noncomputable def TR (c m n : Int) : Nat -> Int × List Int
 | 0 => (c, [])
 | j + 1 => ((TR c m n j).1 / m + (j : Int), (TR c m n j).2 ++ [((TR c m n j).1 / m + (j : Int)) % n])
noncomputable def Xo (c : Int) (most many : Nat) : List Int := (TR c ((most : Int) + 1) (many : Int) (c % ((most : Int) + 1)).toNat).2
theorem La (c m : Int) {n : Int} (h : 0 < n) : ∀ j, (TR c m n j).2.length = j /\ ∀ x ∈ (TR c m n j).2, 0 <= x /\ x < n
 | 0 => ⟨rfl, fun x hx => by cases hx⟩
 | j + 1 => by
   obtain ⟨h1, h2⟩ := La c m h j
   refine ⟨by show ((TR c m n j).2 ++ [_]).length = _; rw [ak1, h1]; rfl, fun x hx => ?_⟩
   rcases akC.mp hx with z | z
   . exact h2 x z
   . rw [alg.mp z]
     exact ⟨amh _ (by omega), al2 _ h⟩
theorem AA (c : Int) {most many : Nat} (h : 0 < many) : (Xo c most many).length <= most /\ ∀ x ∈ Xo c most many, 0 <= x /\ x < (many : Int) := by
 obtain ⟨h1, h2⟩ := La c ((most : Int) + 1) (n := (many : Int)) (by omega) (c % ((most : Int) + 1)).toNat
 have h3 := amh c (b := (most : Int) + 1) (by omega)
 have h4 := al2 c (b := (most : Int) + 1) (by omega)
 unfold Xo
 exact ⟨by omega, h2⟩
noncomputable abbrev vP : Stmt := top 64
noncomputable abbrev AF : Type := Int × Nat × Nat
noncomputable def pG : AF -> List L3.D := fun (c, most, many) => [.int c, .int most, .int many]
noncomputable def iE : AF -> Prop := fun (c, most, many) => 0 < many /\ many <= 5 /\ most <= 12
noncomputable def pH : AF -> T := fun (c, most, many) => (.lst (((Xo c most many).map .int).map T.sh) : T)
structure TV (X : Cx) (CL : Str -> Addr) : Prop extends cy X where
 lJ : Ln X 0 "cell"
 AG : Ln X 1 "most"
 f6 : Ln X 2 "many"
 cY : Ln X 3 "found"
 Xn : Ln X 4 "k"
 sL : Gl X "range"
 sM : X.mg "range" = none
theorem TX {X : Cx} {CL : Str -> Addr} {b : Bx} (E : TV X CL) (c most many) (h : iE (c, most, many)) :
   aE X CL b vP ["cell", "most", "many", "found", "k"] (pG (c, most, many)) (pH (c, most, many)) := by
 dsimp only [aE, iE, pG, pH] at h ⊢
 obtain ⟨hm, hm5, ho⟩ := h
 refine aU E.g E.cY (bW aZ (akV _)) ?_
 have h3 := amh c (b := (most : Int) + 1) (by omega)
 have h4 := al2 c (b := (most : Int) + 1) (by omega)
 refine iI E.g E.Xn (fun j δ => ∃ o, δ = [some (.sh (.int (TR c ((most : Int) + 1) (many : Int) j).1)), some (.sh (.int (most : Int))), some (.sh (.int (many : Int))), some (.lst (((TR c ((most : Int) + 1) (many : Int) j).2.map .int).map T.sh)), o])
   (vG E.sM (aq (oX (bD E.lJ) (aq (lD (bD E.AG) (aq aB))) (by omega))) (by omega) E.sL) ⟨_, rfl⟩ (fun j δ ⟨_, e⟩ => by subst e; exact akz rfl) ?turn ?fin
 case turn =>
   rintro j d δ hj ⟨o, rfl⟩
   obtain ⟨rfl, NS⟩ := Ie hj
   have NS : j < (c % ((most : Int) + 1)).toNat := NS
   rw [Int.zero_add]
   have hln := (La c ((most : Int) + 1) (n := (many : Int)) (by omega) j).1
   refine aU E.g E.lJ (lD (aq (y9 (bD E.lJ) (aq (lD (bD E.AG) (aq aB))) (⟨by omega, by omega⟩))) (bD E.Xn)) ?_
   refine mF E.cY.1 rfl (oX (bD E.lJ) (bD E.f6) (by omega)) rfl (by simp; omega) (aO ⟨some (.sh (.int (j : Int))), ?_⟩)
   show _ = [_, _, _, some (T.lst ((((TR c ((most : Int) + 1) (many : Int) j).2 ++ [((TR c ((most : Int) + 1) (many : Int) j).1 / ((most : Int) + 1) + (j : Int)) % (many : Int)]).map .int).map T.sh)), _]
   rw [akM, akM]
   rfl
 case fin =>
   rintro δ ⟨o, rfl⟩
   have hn : (iH 0 (c % ((most : Int) + 1)).toNat).length = (c % ((most : Int) + 1)).toNat := by simp [iH]
   rw [hn]
   exact cu (vM E.cY.1) rfl
theorem lu : lG (ao vP) ([("cell", av), ("most", av), ("many", av), ("found", av), ("k", av), ("range", aH)]) = true := by decide +kernel
theorem D0 : aM ["cell", "most", "many", "found", "k"] ["cell", "most", "many"] (ao vP) := aW
theorem acd {pt : List d9} (hl : pt.length <= 5) (h : ∀ p ∈ pt, iD pt.length p) {w : List Int} (hw : ∀ x ∈ w, 0 <= x /\ x < (pt.length : Int)) (n : Int) (j : Nat) : (tW pt j (w, n)).1.length <= 22 * j /\ (tW pt j (w, n)).2.1.length <= w.length + 21 * j /\ D.bS (tW pt j (w, n)).1 = true := by
 obtain ⟨h1, h2, _, h4⟩ := E8 (TQ hl h) (cs := w.map sN) (bs := [n]) rfl j
 rw [(Ja hl h hw n j).2] at h1 h2 h4
 dsimp only at h1 h2 h4
 rw [akD, akD] at h2
 exact ⟨h1, h2, h4⟩
noncomputable abbrev zm : Stmt := top 65
noncomputable abbrev zo : Type := Addr × List L3.D × List Int × List d9 × Int
noncomputable def oA : zo -> List T := fun (y, rs, w, pt, n) => [.pin y (.lst (rs.map T.sh)), .sh (.lst (w.map .int)), .sh (.lst (pt.map qz)), .sh (.int n)]
noncomputable def ly : zo -> List T := fun (y, rs, w, pt, n) => [.pin y (.lst ((rs ++ Aw pt w n).map T.sh)), .sh (.lst (w.map .int)), .sh (.lst (pt.map qz)), .sh (.int n)]
noncomputable def lz : zo -> Prop := fun (y, rs, w, pt, n) => pt.length <= 5 /\ (∀ p ∈ pt, iD pt.length p) /\ (∀ x ∈ w, 0 <= x /\ x < (pt.length : Int)) /\ w.length <= 100 /\ rs.length <= 100
noncomputable def oB : zo -> T := fun (y, rs, w, pt, n) => (.sh (.int (Fb pt w n)) : T)
structure Xp (X : Cx) (CL : Str -> Addr) : Prop extends cy X where
 bq : Ln X 0 "rows"
 dG : Ln X 1 "waiting"
 gZ : Ln X 2 "parts"
 aS : Ln X 3 "number"
 sO : Ln X 4 "turns"
 Fe : Ln X 5 "at"
 N2 : Ln X 6 "one"
 Jb : Gl X "str"
 qY : Gl X "len"
 t7 : X.mg "str" = none
 qZ : X.mg "len" = none
theorem Xq {X : Cx} {CL : Str -> Addr} {b : Bx} (E : Xp X CL) (y rs w pt n) (h : lz (y, rs, w, pt, n)) :
   eL X CL b (dS zm) (xB ["rows", "waiting", "parts", "number", "turns", "at", "one"] (oA (y, rs, w, pt, n))) { nx := fun δ => oB (y, rs, w, pt, n) = .sh .non /\ Keeps δ (ly (y, rs, w, pt, n)), rt := fun WQ δ => WQ = oB (y, rs, w, pt, n) /\ Keeps δ (ly (y, rs, w, pt, n)) } := by
 dsimp only [lz, oA, oB, ly] at h ⊢
 obtain ⟨hl, hpt, hw, ZO, hrs⟩ := h
 refine aU E.g E.sO aB ?_
 refine EF E.g (fun m δ => ∃ (j : Nat) (o5 o6 : Option T), m + j = 8 /\ δ = [some (.pin y (.lst ((rs ++ (tW pt j (w, n)).1).map T.sh))), some (.sh (.lst ((tW pt j (w, n)).2.1.map .int))), some (.sh (.lst (pt.map qz))), some (.sh (.int (tW pt j (w, n)).2.2)), some (.sh (.int j)), o5, o6]) 8 ⟨0, _, _, rfl, by show _ = [some (T.pin y (.lst ((rs ++ []).map T.sh))), _, _, _, _, _, _]; rw [akK]; rfl⟩ ?loop
 case loop =>
   rintro m δ ⟨j, o5, o6, hm, rfl⟩
   obtain ⟨k1, k2, k3⟩ := acd hl hpt hw n j
   have hbd := (Ja hl hpt hw n j).1
   have TY := @I0 pt (w, n) j
   have Jc := @Av pt (w, n) j
   have hE : (tW pt j (w, n)).2.1 = [] \/ j = 8 -> tW pt 8 (w, n) = tW pt j (w, n) := fun z => by
     rcases z with z | z
     . have := TY z (8 - j)
       rwa [show j + (8 - j) = 8 by omega] at this
     . rw [z]
   unfold Fb Aw
   generalize hs : tW pt j (w, n) = s at k1 k2 k3 hE hbd Jc ⊢
   obtain ⟨r, wt, c⟩ := s
   dsimp only at k1 k2 k3 hE hbd ⊢
   have heq : Vy (.lst (wt.map L3.D.int)) (.lst []) = decide (wt = []) := by
     cases wt with
     | nil => rw [al1 rfl]; exact vH (gR [])
     | cons x l => rw [alw (by simp)]; rfl
   refine ⟨_, _, RG (zS (zY E.u (bD E.dG) (bT (ds := []) (bW aZ (akV _))) (gR _) (gR [])).1 (fun _ => Ez (RB (bD E.sO) (aq aB)).1)), fun hp => ?_, fun hp => ?_⟩
   . rw [alf, heq] at hp
     obtain ⟨hp1, hp2⟩ := hp
     have hj8 : (j : Int) < 8 := alv hp2
     cases wt with
     | nil => rw [al1 rfl] at hp1; cases hp1
     | cons k wt =>
       have HF := Jc (rs := r) (k := k) (w := wt) (n := c) rfl
       obtain ⟨kk0, kk1⟩ := hbd k akA
       obtain ⟨⟨_, _⟩, sl, sg⟩ := Fd hl ⟨kk0, kk1⟩
       have hP := TN hpt k.toNat
       have Cg := qT (f := qz) (l := pt) (k := k) vp kk0 kk1
       rw [akZ] at k2
       generalize pt.getD k.toNat vp = P at hP Cg HF
       have l1 := hP.l1
       have l2 := hP.l2
       have cq : ∀ {x : Int}, (0 <= x /\ x < (pt.length : Int)) -> (1 : Nat) + (toString x : Str).length <= sizeLine := fun {x} hx => by
         obtain ⟨_, sl, _⟩ := Fd hl hx
         rw [sl, alb]
         omega
       refine aU E.g E.Fe (fP (d := .int k) (fh (bD E.dG) (aq aB) (bE (j := 0) rfl)) rfl) ?_
       refine qW (gY E.bq.1 rfl) rfl rfl (bU (aJ bf (aJ (qQ (aq bf) (aq (mJ E.t7 E.Jb (bD E.Fe) (sg))) (cq ⟨kk0, kk1⟩)) cN)) (aA rfl)) rfl rfl (by simp; omega) ?_
       refine qW (gY E.bq.1 rfl) rfl rfl (bU (aJ bf (aJ (v_ E.Fe.1) cN)) (aA rfl)) rfl rfl (by simp; omega) ?_
       have e0 : ((rs ++ r).map T.sh ++ [T.sh (.tup [.str "sign", .str (sN k)])]) ++ [T.sh (.tup [.str "way", .int k])] = (rs ++ (r ++ [L3.D.tup [.str "sign", .str (sN k)], .tup [.str "way", .int k]])).map T.sh := by
         rw [← akx, akM (l₁ := rs ++ r), akx]
         rfl
       show eL X CL b _ [some (.pin y (.lst (((rs ++ r).map T.sh ++ [T.sh (.tup [.str "sign", .str (sN k)])]) ++ [T.sh (.tup [.str "way", .int k])]))), _, _, _, _, _, _] _
       rw [e0]
       have hr2 : (rs ++ (r ++ [L3.D.tup [.str "sign", .str (sN k)], .tup [.str "way", .int k]])).length <= 300 := by simp; omega
       generalize hR : rs ++ (r ++ [L3.D.tup [.str "sign", .str (sN k)], .tup [.str "way", .int k]]) = R at hr2 ⊢
       refine iI E.g E.N2 (fun i δ => ∃ o6, δ = [some (.pin y (.lst ((R ++ (P.1.take i).map fZ).map T.sh))), some (.sh (.lst ((k :: wt).map .int))), some (.sh (.lst (pt.map qz))), some (.sh (.int c)), some (.sh (.int j)), some (.sh (.int k)), o6])
         (dh (jE (Kz (v_ E.gZ.1) (bD E.Fe) Cg) (aq aB) (bE (j := 0) rfl))) ⟨_, by rw [al9, amj, akK]⟩ (fun j δ ⟨_, e⟩ => by subst e; exact akz rfl) ?aeJ ?ahf
       case aeJ =>
         rintro i d δ hi ⟨o6, rfl⟩
         obtain ⟨x, rfl, _, hxm, KR, _, NK⟩ := pC hi
         obtain ⟨_, _, sg2⟩ := Fd hl (hP.b1 x hxm)
         refine qW (gY E.bq.1 rfl) rfl rfl (bU (aJ bf (aJ (qQ (aq bf) (aq (mJ E.t7 E.Jb (bD E.N2) (sg2))) (cq (hP.b1 x hxm))) cN)) (aA rfl)) rfl rfl (by simp; omega) (aO ⟨some (.sh (.int x)), ?_⟩)
         rw [NK, akM (l₂ := [x]), ← akx, akM (l₂ := [x].map fZ)]
         rfl
       case ahf =>
       rintro δ ⟨o6, rfl⟩
       rw [akD, aly]
       refine qW (gY E.bq.1 rfl) rfl rfl (bU (aJ bf (aJ aB (aJ (v_ E.aS.1) (aJ (lD (bD E.aS) (b9 (fh (bD E.gZ) (bD E.Fe) Cg) (aq aB) (bE (j := 1) rfl))) cN)))) (aA rfl)) rfl rfl (by simp; omega) ?_
       refine aU E.g E.aS (lD (bD E.aS) (b9 (fh (bD E.gZ) (bD E.Fe) Cg) (aq aB) (bE (j := 1) rfl))) ?_
       refine qW (gY E.bq.1 rfl) rfl rfl (bU (aJ bf (aJ bf (aJ (v_ E.aS.1) cN))) (aA rfl)) rfl rfl (by simp; omega) ?_
       have e1 : ((R ++ P.1.map fZ).map T.sh ++ [T.sh (.tup [.str "put", .int 0, .int c, .int (c + P.2.1)])]) ++ [T.sh (.tup [.str "say", .str "now", .int (c + P.2.1)])] = (R ++ (P.1.map fZ ++ [L3.D.tup [.str "put", .int 0, .int c, .int (c + P.2.1)], .tup [.str "say", .str "now", .int (c + P.2.1)]])).map T.sh := by
         rw [← akx, akM (l₁ := R ++ P.1.map fZ), akx]
         rfl
       show eL X CL b _ [some (.pin y (.lst (((R ++ P.1.map fZ).map T.sh ++ [T.sh (.tup [.str "put", .int 0, .int c, .int (c + P.2.1)])]) ++ [T.sh (.tup [.str "say", .str "now", .int (c + P.2.1)])]))), _, _, _, _, _, _] _
       rw [e1]
       have hr3 : (R ++ (P.1.map fZ ++ [L3.D.tup [.str "put", .int 0, .int c, .int (c + P.2.1)], .tup [.str "say", .str "now", .int (c + P.2.1)]])).length <= 310 := by simp; omega
       generalize hR3 : R ++ (P.1.map fZ ++ [L3.D.tup [.str "put", .int 0, .int c, .int (c + P.2.1)], .tup [.str "say", .str "now", .int (c + P.2.1)]]) = R3 at hr3 ⊢
       refine iI E.g E.N2 (fun i δ => ∃ o6, δ = [some (.pin y (.lst ((R3 ++ (P.2.2.take i).map fZ).map T.sh))), some (.sh (.lst ((k :: wt).map .int))), some (.sh (.lst (pt.map qz))), some (.sh (.int (c + P.2.1))), some (.sh (.int j)), some (.sh (.int k)), o6])
         (dh (jE (Kz (v_ E.gZ.1) (bD E.Fe) Cg) (aq aB) (bE (j := 2) rfl))) ⟨_, by rw [al9, amj, akK]⟩ (fun j δ ⟨_, e⟩ => by subst e; exact akz rfl) ?T3 ?fin2
       case T3 =>
         rintro i d δ hi ⟨o6, rfl⟩
         obtain ⟨x, rfl, _, hxm, KR, _, NK⟩ := pC hi
         obtain ⟨_, _, sg2⟩ := Fd hl (hP.b2 x hxm)
         refine qW (gY E.bq.1 rfl) rfl rfl (bU (aJ bf (aJ (qQ (aq bf) (aq (mJ E.t7 E.Jb (bD E.N2) (sg2))) (cq (hP.b2 x hxm))) cN)) (aA rfl)) rfl rfl (by simp; omega) (aO ⟨some (.sh (.int x)), ?_⟩)
         rw [NK, akM (l₂ := [x]), ← akx, akM (l₂ := [x].map fZ)]
         rfl
       case fin2 =>
       rintro δ ⟨o6, rfl⟩
       rw [akD, aly]
       have ahh : cutD ((k :: wt).map L3.D.int) (some 1) none = wt.map L3.D.int := by
         rw [RV]
         unfold cutD
         simp [HT.Er]
       refine aU E.g E.dG (fS (ds := (wt ++ (P.1 ++ P.2.2)).map .int) (aV (mH (ds := (wt ++ P.1).map .int) (zZ := P.2.2.map .int) (bT (aV (mH (ds := wt.map .int) (zZ := P.1.map .int) (bT (aV (RT (bD E.dG) (dO _) (EB (aq aB)) Nv) (t2 := .lst ((wt.map .int).map T.sh)) (by rw [ahh]))) (b9 (fh (bD E.gZ) (bD E.Fe) Cg) (aq aB) (bE (j := 0) rfl)) (dO _) (dO _) (alj (cI (by simp; omega)))) (t2 := .lst (((wt ++ P.1).map .int).map T.sh)) (by rw [← akM]))) (b9 (fh (bD E.gZ) (bD E.Fe) Cg) (aq aB) (bE (j := 2) rfl)) (dO _) (dO _) (alj (cI (by simp; omega)))) (by rw [← akM, akx]))) ?_
       refine aU E.g E.sO (lD (bD E.sO) (aq aB)) (aO ⟨m - 1, by omega, j + 1, some (.sh (.int k)), o6, by omega, ?_⟩)
       rw [HF]
       dsimp only
       have e3 : R3 ++ P.2.2.map fZ = rs ++ (r ++ (L3.D.tup [.str "sign", .str (sN k)] :: .tup [.str "way", .int k] :: E9 P c)) := by
         rw [← hR3, ← hR]
         unfold E9
         simp only [akx, akS, alA]
       rw [e3]
       rfl
   . have hz : wt = [] \/ j = 8 := by
       by_cases e : wt = []
       . exact .inl e
       . right
         rw [heq, alw e] at hp
         have := alW ((Bool.true_and _).symm.trans hp)
         omega
     rw [hE hz]
     dsimp only
     refine m8 (zY E.u (bD E.dG) (bT (ds := []) (bW aZ (akV _))) (gR _) (gR [])).1 (fun hq => ?_) (fun hq => aO ?_)
     . have hw2 : wt ≠ [] := fun e => by rw [heq, al1 e] at hq; cases hq
       rw [akH hw2]
       refine qW (gY E.bq.1 rfl) rfl rfl (bU (aJ bf (aJ (aV (zb E.qZ (bD E.dG) E.qY) (t2 := .sh (.int ((wt.length : Nat) : Int))) (by rw [akD])) cN)) (aA rfl)) rfl rfl (by simp; omega) (aO (cu (v_ E.aS.1) ⟨rfl, ?_⟩))
       rw [← akx, akM (l₁ := rs ++ r)]
       exact xF (ds := [_, _, _])
     . have hw2 : wt = [] := by
         by_cases e : wt = []
         . exact e
         . rw [heq, alw e] at hq; cases hq
       rw [akJ hw2, akK]
       exact cu (v_ E.aS.1) ⟨rfl, xF (ds := [_, _, _])⟩
theorem iW : lG (ao zm) ([("rows", av), ("waiting", av), ("parts", av), ("number", av), ("turns", av), ("at", av), ("one", av), ("str", aH), ("len", aH)]) = true := by decide +kernel
theorem Jd : aM ["rows", "waiting", "parts", "number", "turns", "at", "one"] ["rows", "waiting", "parts", "number"] (ao zm) := aW
noncomputable def tuS (s : List Int) (st mo : Nat) : List Int := (List.range (min mo (s.length - st))).map fun (k : Nat) => (jz s (some ((st : Int) + (k : Int))) none (some (mo : Int))).sum
theorem Xr (s : List Int) (st mo : Nat) : (tuS s st mo).length <= s.length := by unfold tuS; simp; omega
noncomputable abbrev zq : Stmt := top 67
noncomputable abbrev Ff : Type := List Int × Nat × Nat
noncomputable def sP : Ff -> List L3.D := fun (s, st, mo) => [.lst (s.map .int), .int st, .int mo]
noncomputable def oE : Ff -> Prop := fun (s, st, mo) => s.length <= 63 /\ 0 < mo /\ mo <= 100 /\ st <= 100
noncomputable def sQ : Ff -> T := fun (s, st, mo) => (.lst (((tuS s st mo).map .int).map T.sh) : T)
structure Xs (X : Cx) (CL : Str -> Addr) : Prop extends cy X where
 cz : Ln X 0 "script"
 T4 : X.env.kindOf "script" = some .cell
 iX : Ln X 1 "start"
 Xu : X.env.kindOf "start" = some .cell
 AG : Ln X 2 "most"
 acf : X.env.kindOf "most" = some .cell
 f6 : Ln X 3 "many"
 aeL : Gl X "min"
 aeM : Gl X "max"
 qY : Gl X "len"
 sL : Gl X "range"
 aeN : X.mg "min" = none
 aeO : X.mg "max" = none
 qZ : X.mg "len" = none
 sM : X.mg "range" = none
 aeP : X.mg "sum" = none
theorem Xv {X : Cx} {CL : Str -> Addr} {b : Bx} (E : Xs X CL) (s st mo) (h : oE (s, st, mo)) :
   aE X CL b zq ["script", "start", "most", "many"] (sP (s, st, mo)) (sQ (s, st, mo)) := by
 dsimp only [aE, oE, sP, sQ] at h ⊢
 obtain ⟨hs, hm0, hm1, HF⟩ := h
 refine aU E.g E.f6 (aV (Wm E.g E.aeN E.aeL (au (bD E.AG) (au (aq (Wn E.g E.aeO E.aeM (au (aq aB) (au (aq (ux (aq (EC (akD ..) E.qZ (bD E.cz) E.qY)) (bD E.iX))) bz)))) bz))) (t2 := .sh (.int ((min mo (s.length - st) : Nat) : Int))) (by
   refine congrArg (fun z : Int => T.sh (.int z)) ?_
   repeat split
   all_goals omega)) ?_
 refine cu (aV (mK (p := fun _ => true) (g := fun d => T.sh (.int (jz s (some ((st : Int) + (d.QF.toNat : Int))) none (some (mo : Int))).sum)) (cS (.cons E.AG.1 (.inl E.acf) (.cons E.cz.1 (.inl E.T4) (.cons E.iX.1 (.inl E.Xu) .nil))) (by decide +kernel)) E.g.calm (vG E.sM (bD E.f6) (by omega) E.sL) (.inr rfl) (fun C s0 H0 f0 b' d hd => ?Xw) (alj (cI (by simp [iH]; omega)))) (t2 := .lst (((tuS s st mo).map .int).map T.sh)) ?eq) rfl
 case Xw =>
   obtain ⟨i, hi, rfl⟩ := ak2.mp hd
   have et : (L3.D.int (0 + (i : Int))).QF.toNat = i := by show (0 + (i : Int)).toNat = i; omega
   refine ⟨rfl, fun _ => aV (Wz (l := jz s (some ((st : Int) + (0 + (i : Int)))) none (some (mo : Int))) (Wd E.g (by decide +kernel)) (by exact E.aeP) (bT (aV (PD (aq (v_ (uy (i := 2) rfl (by decide +kernel)))) (dO _) (EB (aq (lD (aq (v_ (uy (i := 3) rfl (by decide +kernel)))) (aq (v_ (jG (i := 0) rfl (by decide +kernel))))))) Nv (EB (aq (v_ (uy (i := 1) rfl (by decide +kernel))))) (fun z => by have := akU z; omega)) (t2 := .lst (((jz s (some ((st : Int) + (0 + (i : Int)))) none (some (mo : Int))).map .int).map T.sh)) (by rw [Te]))) (o9 (by decide +kernel))) ?_⟩
   show T.sh _ = T.sh (.int (jz s (some ((st : Int) + ((L3.D.int (0 + (i : Int))).QF.toNat : Int))) none (some (mo : Int))).sum)
   rw [et, Int.zero_add]
 case eq =>
   rw [iJ]
   unfold iH tuS
   rw [alc, alc, alc, al6]
   congr 1
   refine amf fun k _ => ?_
   show T.sh (.int (jz s (some ((st : Int) + ((0 + (k : Int)).toNat : Int))) none (some (mo : Int))).sum) = _
   rw [show (0 + (k : Int)).toNat = k by omega]
   rfl
theorem f7 : lG (ao zq) ([("script", .cell), ("start", .cell), ("most", .cell), ("many", av), ("min", aH), ("max", aH), ("len", aH), ("range", aH)]) = true := by decide +kernel
theorem Je : aM ["script", "start", "most", "many"] ["script", "start", "most"] (ao zq) := aW
noncomputable abbrev zu : Stmt := top 66
noncomputable abbrev Fg : Type := d9
noncomputable def sR : Fg -> List L3.D := fun p => [qz p]
noncomputable def sS : Fg -> Prop := fun p => iD 5 p
noncomputable def sU : Fg -> T := fun p => (.sh (.tup ((Au p).map bC.d)) : T)
structure Xx (X : Cx) (CL : Str -> Addr) : Prop extends cy X where
 pI : Ln X 0 "part"
 kK : Ln X 1 "deeds"
 vQ : Gl X "tuple"
 vR : X.mg "tuple" = none
 t7 : X.mg "str" = none
theorem Xy {X : Cx} {CL : Str -> Addr} {b : Bx} (E : Xx X CL) (p) (h : sS p) :
   aE X CL b zu ["part", "deeds"] (sR p) (sU p) := by
 dsimp only [aE, sS, sR, sU] at h ⊢
 have hp := h
 refine KP (p := fun _ => true) (gg := fun d => T.sh (fZ d.QF)) E.g E.kK (cS .nil (by decide +kernel)) (dh (jE (v_ E.pI.1) (aq aB) (bE (j := 0) rfl))) (.inr rfl) (fun C s0 H0 f0 b' d hd => ?Xw) (alj (cI (by have := hp.l1; simp; omega))) ?rest (by exact akz rfl) (zW ⟨_, rfl⟩)
 case Xw =>
   obtain ⟨i, hi, rfl⟩ := ak2.mp hd
   obtain ⟨_, sl, sg⟩ := Fd (akG 5) (hp.b1 i hi)
   exact ⟨rfl, fun _ => bU (aJ bf (aJ (qQ (aq bf) (aq (mJ E.t7 (o9 (by decide +kernel)) (aq (v_ (jG (i := 0) rfl (by decide +kernel)))) (sg))) ((show (1 : Nat) + (toString i : Str).length <= sizeLine by rw [sl, alb]; omega))) cN)) (aA rfl)⟩
 case rest =>
 have em : ((p.1.map L3.D.int).filter fun _ => true).map (fun d => T.sh (fZ d.QF)) = (p.1.map fZ).map T.sh := by
   rw [iJ, alc, alc]
   rfl
 rw [em]
 have h1 := hp.l1
 have h2 := hp.l2
 refine mF E.kK.1 rfl (bU (aJ bf (aJ aB (aJ (bU (aJ aB (aJ (fP (d := .int p.2.1) (b9 (bD E.pI) (aq aB) (bE (j := 1) rfl)) rfl) cN)) (aA rfl)) cN))) (aA rfl)) rfl (by simp; omega) ?_
 refine mF E.kK.1 rfl (bU (aJ bf (aJ bf (aJ (bU (aJ aB (aJ aB cN)) (aA rfl)) cN))) (aA rfl)) rfl (by simp; omega) ?_
 have ed : (p.1.map fZ).map T.sh ++ [T.sh (.tup [.str "put", .int 0, .tup [.int 0, .int p.2.1]])] ++ [T.sh (.tup [.str "say", .str "now", .tup [.int 0, .int 0]])] = ((p.1.map fZ ++ [L3.D.tup [.str "put", .int 0, .tup [.int 0, .int p.2.1]], .tup [.str "say", .str "now", .tup [.int 0, .int 0]]]).map T.sh) := by
   rw [akM, akx]
   rfl
 show eL X CL b _ [_, some (.lst ((p.1.map fZ).map T.sh ++ [T.sh (.tup [.str "put", .int 0, .tup [.int 0, .int p.2.1]])] ++ [T.sh (.tup [.str "say", .str "now", .tup [.int 0, .int 0]])]))] _
 rw [ed]
 have i1 : D.bS (p.1.map fZ ++ [L3.D.tup [.str "put", .int 0, .tup [.int 0, .int p.2.1]], .tup [.str "say", .str "now", .tup [.int 0, .int 0]]]) = true := kI fun d hd => by
   rcases akC.mp hd with z | z
   . exact gO (lq _) d z
   . simp only [akB, akR, alD] at z
     rcases z with rfl | rfl <;> rfl
 have e : (Au p).map bC.d = (p.1.map fZ ++ [L3.D.tup [.str "put", .int 0, .tup [.int 0, .int p.2.1]], .tup [.str "say", .str "now", .tup [.int 0, .int 0]]]) ++ p.2.2.map fZ := by
   unfold Au
   rw [akM, akM, Ay, Ay, akx]
   rfl
 rw [e]
 refine cu (xq E.vR (bT (mH (zZ := p.2.2.map fZ) (vL E.kK.1) (bT (aV (mK (p := fun _ => true) (g := fun d => T.sh (fZ d.QF)) (cS .nil (by decide +kernel)) E.g.calm (dh (jE (v_ E.pI.1) (aq aB) (bE (j := 2) rfl))) (.inr rfl) (fun C s0 H0 f0 b' d hd => ?acg) (alj (cI (by simp; omega)))) ?ceq)) i1 (lq _) (alj (cI (by simp; omega))))) (kI fun d hd => (akC.mp hd).elim (gO i1 d) (gO (lq _) d)) E.vQ) rfl
 case acg =>
   obtain ⟨i, hi, rfl⟩ := ak2.mp hd
   obtain ⟨_, sl, sg⟩ := Fd (akG 5) (hp.b2 i hi)
   exact ⟨rfl, fun _ => bU (aJ bf (aJ (qQ (aq bf) (aq (mJ E.t7 (o9 (by decide +kernel)) (aq (v_ (jG (i := 0) rfl (by decide +kernel)))) (sg))) ((show (1 : Nat) + (toString i : Str).length <= sizeLine by rw [sl, alb]; omega))) cN)) (aA rfl)⟩
 case ceq =>
   rw [iJ, alc, alc]
   rfl
theorem AH : lG (ao zu) ([("part", av), ("deeds", av), ("tuple", aH)]) = true := by decide +kernel
theorem Jf : aM ["part", "deeds"] ["part"] (ao zu) := aW
noncomputable abbrev mQ : Stmt := top 35
noncomputable abbrev q8 : Type := Nat
noncomputable def jP : q8 -> List L3.D := fun u => [Al, .lst [.int (-1)], .int 0, .str "new"]
noncomputable def jQ : q8 -> Prop := fun u => True
noncomputable def jR : q8 -> T := fun u => (.lst [] : T)
structure Jg (X : Cx) (CL : Str -> Addr) : Prop extends cy X where
 ku : Ln X 0 "tree"
 eY : Ln X 1 "memory"
 f9 : Ln X 2 "mood"
 Lb : Ln X 3 "mode"
 T5 : Ln X 4 "kind"
 iY : iP X.K (CL "Tree")
 gC : aF X.K (CL "Tree") "kinds"
 t8 : aF X.K (CL "Tree") "starts"
theorem Jh {X : Cx} {CL : Str -> Addr} {b : Bx} (E : Jg X CL) (u) (h : jQ u) :
   aE X CL b mQ ["tree", "memory", "mood", "mode", "kind"] (jP u) (jR u) := by
 dsimp only [aE, jQ, jP, jR] at h ⊢
 refine aU E.g E.T5 (fP (d := .str "leaf") (fh (dX E.iY E.gC (bD E.ku) Af) (bD E.f9) (bE (j := 0) rfl)) rfl) ?_
 exact m8 (jC (bD E.T5) (aq bf)).1 (fun hp => cu (bW aZ (akV _)) rfl) (fun hp => absurd hp (by decide))
theorem iZ : lG (ao mQ) ([("tree", av), ("memory", av), ("mood", av), ("mode", av), ("kind", av)]) = true := by decide +kernel
theorem vS : aM ["tree", "memory", "mood", "mode", "kind"] ["tree", "memory", "mood", "mode"] (ao mQ) := aW
noncomputable abbrev vU : Stmt := top 34
noncomputable abbrev AI : Type := Nat
noncomputable def pJ : AI -> List L3.D := fun u => [Al, .lst [.int (-1)], .int 0, .str "new"]
noncomputable def pL : AI -> Prop := fun u => True
noncomputable def pM : AI -> T := fun u => (.lst [.sh (.int 0)] : T)
structure T6 (X : Cx) (CL : Str -> Addr) : Prop extends cy X where
 ku : Ln X 0 "tree"
 eY : Ln X 1 "memory"
 f9 : Ln X 2 "mood"
 Lb : Ln X 3 "mode"
 cY : Ln X 4 "found"
 P7 : Ln X 5 "further"
 mR : Ln X 6 "place"
 rg : Gl X "opened_in"
 Ji : Fc X CL "opened_in" 1 4 jP jQ jR
theorem T7 {X : Cx} {CL : Str -> Addr} {b : Bx} (E : T6 X CL) (u) (h : pL u) :
   aE X CL b vU ["tree", "memory", "mood", "mode", "found", "further", "place"] (pJ u) (pM u) := by
 dsimp only [aE, pL, pJ, pM] at h ⊢
 refine aU E.g E.cY (aV (bW (aQ (v_ E.f9.1) aZ) (aA rfl)) (t2 := .lst [.sh (.int 0)]) rfl) ?_
 refine aU E.g E.P7 (abh (t := .sh (.str "new")) (jC (bD E.Lb) (aq bf)).1 (fun hq => absurd hq (by decide)) (fun _ => bf)) ?_
 refine iI E.g E.mR (fun j δ => ∃ o, δ = [some (.sh Al), some (.sh (.lst [.int (-1)])), some (.sh (.int 0)), some (.sh (.str "new")), some (.lst [.sh (.int 0)]), some (.sh (.str "new")), o])
   (dh (fS (ds := []) (aV (c_ (0 : Nat) E.Ji E.rg (au (bD E.ku) (au (bD E.eY) (au (bD E.f9) (au (bD E.Lb) bz)))) trivial rfl) (t2 := .lst []) rfl))) ⟨_, rfl⟩ (fun j δ ⟨_, e⟩ => by subst e; exact akz rfl) (fun j d δ hj => by simp at hj) ?fin
 case fin =>
   rintro δ ⟨o, rfl⟩
   exact cu (vM E.cY.1) rfl
theorem iL : lG (ao vU) ([("tree", av), ("memory", av), ("mood", av), ("mode", av), ("found", av), ("further", av), ("place", av), ("opened_in", aH)]) = true := by decide +kernel
theorem D3 : aM ["tree", "memory", "mood", "mode", "found", "further", "place"] ["tree", "memory", "mood", "mode"] (ao vU) := aW
noncomputable def Xz (i0 : List bC) (come : List Int) : List L3.D := come.flatMap fun m => L3.D.tup [.str "in", .int m] :: i0.map bC.d
theorem N3 (i0 : List bC) (so : List Int) : D.bS (Xz i0 so) = true := kI fun d hd => by
 obtain ⟨k, _, hd⟩ := List.mem_flatMap.mp hd
 rcases akB.mp hd with rfl | hd
 . rfl
 . obtain ⟨q, _, rfl⟩ := ak2.mp hd
   exact vO q
noncomputable abbrev sV : Stmt := top 47
noncomputable abbrev xM : Type := List L3.D × List L3.D × List bC × List LW × List Int
noncomputable def j7 : xM -> List L3.D := fun (bx, nm, i0, ps, come) => [bX bx nm i0 ps, .lst (come.map .int)]
noncomputable def gb : xM -> Prop := fun (bx, nm, i0, ps, come) => come.length <= 1 /\ (∀ m ∈ come, m = 0) /\ i0.length <= 100
noncomputable def j8 : xM -> T := fun (bx, nm, i0, ps, come) => (.lst ((Xz i0 come).map T.sh) : T)
structure P8 (X : Cx) (CL : Str -> Addr) : Prop extends cy X where
 aX : Ln X 0 "chart"
 rq : Ln X 1 "come"
 bq : Ln X 2 "rows"
 f9 : Ln X 3 "mood"
 aY : iP X.K (CL "Chart")
 rA : aF X.K (CL "Chart") "ins"
theorem P9 {X : Cx} {CL : Str -> Addr} {b : Bx} (E : P8 X CL) (bx nm i0 ps come) (h : gb (bx, nm, i0, ps, come)) :
   aE X CL b sV ["chart", "come", "rows", "mood"] (j7 (bx, nm, i0, ps, come)) (j8 (bx, nm, i0, ps, come)) := by
 dsimp only [aE, gb, j7, j8] at h ⊢
 obtain ⟨hl, hc, hi⟩ := h
 refine aU E.g E.bq (bW aZ (akV _)) ?_
 refine iI E.g E.f9 (fun j δ => ∃ o, δ = [some (.sh (bX bx nm i0 ps)), some (.sh (.lst (come.map .int))), some (.lst ((Xz i0 (come.take j)).map T.sh)), o])
   (dh (v_ E.rq.1)) ⟨_, rfl⟩ (fun j δ ⟨_, e⟩ => by subst e; exact akz rfl) ?turn ?fin
 case turn =>
   rintro j d δ hj ⟨o, rfl⟩
   obtain ⟨m, rfl, _, hm, NS, _, NK⟩ := pC hj
   have hm0 := hc m hm
   subst hm0
   have hj0 : j = 0 := by omega
   subst hj0
   refine mF E.bq.1 rfl (bU (aJ bf (aJ (v_ E.f9.1) cN)) (aA rfl)) rfl (akV _) ?_
   refine Sg E.bq.1 rfl (fh (dX E.aY E.rA (bD E.aX) PJ) (bD E.f9) (bE (j := 0) rfl)) (ow _) rfl (by rw [akD]; show 1 + i0.length <= _; omega) (aO ⟨some (.sh (.int 0)), ?_⟩)
   rw [NK, al9, alA]
   unfold Xz
   rw [alI, alO, akK]
   rfl
 case fin =>
   rintro δ ⟨o, rfl⟩
   rw [akD, aly]
   exact cu (vM E.bq.1) rfl
theorem pN : lG (ao sV) ([("chart", av), ("come", av), ("rows", av), ("mood", av)]) = true := by decide +kernel
theorem AJ : aM ["chart", "come", "rows", "mood"] ["chart", "come"] (ao sV) := aW
noncomputable abbrev zx : Stmt := top 42
noncomputable abbrev Fi : Type := List L3.D × L3.D × List bC × List LW
noncomputable def sW : Fi -> List L3.D := fun (bx, n0, i0, ps) => [bX bx [n0] i0 ps]
noncomputable def sX : Fi -> Prop := fun (bx, n0, i0, ps) => i0.length <= 100
noncomputable def sY : Fi -> T := fun (bx, n0, i0, ps) => (.tup [.lst ((Xz i0 [0]).map T.sh), .lst [.sh (.int 0)], .lst [.sh (.int (-1))]] : T)
structure XA (X : Cx) (CL : Str -> Addr) : Prop extends cy X where
 aX : Ln X 0 "chart"
 eY : Ln X 1 "memory"
 cO : Ln X 2 "opens"
 qY : Gl X "len"
 AK : Gl X "opened"
 oF : Gl X "in_rows"
 qZ : X.mg "len" = none
 T8 : Fc X CL "opened" 2 4 pJ pL pM
 xN : Fc X CL "in_rows" 1 2 j7 gb j8
 aY : iP X.K (CL "Chart")
 cg : aF X.K (CL "Chart") "tree"
 ng : aF X.K (CL "Chart") "names"
theorem XC {X : Cx} {CL : Str -> Addr} {b : Bx} (E : XA X CL) (bx n0 i0 ps) (h : sX (bx, n0, i0, ps)) :
   aE X CL b zx ["chart", "memory", "opens"] (sW (bx, n0, i0, ps)) (sY (bx, n0, i0, ps)) := by
 dsimp only [aE, sX, sW, sY] at h ⊢
 have hi := h
 refine aU E.g E.eY (aV (WD (ds := [.int (-1)]) (bT (ds := [.int (-1)]) (EG (aJ (qR (aq aB)) cN) (aA rfl))) (aq (EC (n := 1) (ds := [n0]) rfl E.qZ (dX E.aY E.ng (bD E.aX) IL) E.qY)) rfl (by decide) (by decide) (by rw [alb]; decide)) (t2 := .lst [.sh (.int (-1))]) rfl) ?_
 refine aU E.g E.cO (aV (c_ (0 : Nat) E.T8 E.AK (au (dX E.aY E.cg (bD E.aX) lI) (au (vL (ds := [.int (-1)]) E.eY.1) (au (aq aB) (au (aq bf) bz)))) trivial rfl) (t2 := .lst [.sh (.int 0)]) rfl) ?_
 exact cu (oZ (aQ (aV (c_ (bx, [n0], i0, ps, ([0] : List Int)) E.xN E.oF (au (bD E.aX) (au (vL (ds := [.int 0]) E.cO.1) bz)) (by dsimp only [gb]; exact ⟨by decide, fun m hm => List.mem_singleton.mp hm, hi⟩) (dQ (N3 _ _))) (t2 := .lst ((Xz i0 [0]).map T.sh)) rfl) (aQ (vM E.cO.1) (aQ (vM E.eY.1) aZ))) (aA rfl)) rfl
theorem oG : lG (ao zx) ([("chart", av), ("memory", av), ("opens", av), ("len", aH), ("opened", aH), ("in_rows", aH)]) = true := by decide +kernel
theorem Jj : aM ["chart", "memory", "opens"] ["chart"] (ao zx) := aW
noncomputable abbrev vV : Stmt := top 9
noncomputable abbrev AO : Type := (List (Str × Int)) × List L3.D × L3.D × List L3.D × List L3.D × List L3.D
noncomputable def pO : AO -> List L3.D := fun (bs, nm, tr, is, os, ws) => [EZ (bs.map m9) nm tr is os ws]
noncomputable def pP : AO -> Prop := fun (bs, nm, tr, is, os, ws) => bs.length <= 1000
noncomputable def pQ : AO -> T := fun (bs, nm, tr, is, os, ws) => (.lst (((bs.map (·.2)).map L3.D.int).map T.sh) : T)
structure T9 (X : Cx) (CL : Str -> Addr) : Prop extends cy X where
 aX : Ln X 0 "chart"
 aY : iP X.K (CL "Chart")
 aN : iP X.K (CL "NestRun")
 dz : aF X.K (CL "Chart") "boxes"
 bI : aF X.K (CL "NestRun") "boxes"
theorem Ua {X : Cx} {CL : Str -> Addr} {b : Bx} (E : T9 X CL) (bs nm tr is os ws) (h : pP (bs, nm, tr, is, os, ws)) :
   aE X CL b vV ["chart"] (pO (bs, nm, tr, is, os, ws)) (pQ (bs, nm, tr, is, os, ws)) := by
 dsimp only [aE, pP, pO, pQ] at h ⊢
 refine cu (mK (p := fun _ => true) (g := fun d => T.sh d.at2) (cS .nil (by decide +kernel)) E.g.calm (dh (uz E.aY E.dz (v_ E.aX.1) IK)) (.inr rfl) (fun C s0 H0 f0 b' d hd => ?Xw) (alj (cI (by simp; omega)))) ?eq
 case Xw =>
   obtain ⟨p, hp, rfl⟩ := ak2.mp hd
   exact ⟨rfl, fun _ => fP (b9 (aq (v_ (jG (i := 0) rfl (by decide +kernel)))) (aq aB) rfl) rfl⟩
 case eq =>
   show T.lst (((bs.map m9).filter fun _ => true).map fun d => T.sh d.at2) = T.lst (((bs.map (·.2)).map L3.D.int).map T.sh)
   refine (Xc (f := m9) (h := fun p : Str × Int => T.sh (.int p.2)) fun p _ => rfl).trans ?_
   rw [alc, alc]
   rfl
theorem Qa : lG (ao vV) ([("chart", av)]) = true := by decide +kernel
theorem D4 : aM ["chart"] ["chart"] (ao vV) := aW
noncomputable abbrev zy : Stmt := top 20
noncomputable abbrev Fj : Type := Int × Int × List Int
noncomputable def sZ : Fj -> List L3.D := fun (bx, mo, bs) => [.tup [.int bx, .int mo], .lst (bs.map .int)]
noncomputable def tu : Fj -> Prop := fun (bx, mo, bs) => bx = -1 \/ (0 <= bx /\ bx < bs.length)
noncomputable def tD : Fj -> T := fun (bx, mo, bs) => (.sh (.int (pD bx mo bs)) : T)
structure XD (X : Cx) (CL : Str -> Addr) : Prop extends cy X where
 Ub : Ln X 0 "term"
 cB : Ln X 1 "boxes"
 Uc : Ln X 2 "box"
 xO : Ln X 3 "more"
theorem XE {X : Cx} {CL : Str -> Addr} {b : Bx} (E : XD X CL) (bx mo bs) (h : tu (bx, mo, bs)) :
   aE X CL b zy ["term", "boxes", "box", "more"] (sZ (bx, mo, bs)) (tD (bx, mo, bs)) := by
 dsimp only [aE, tu, sZ, tD] at h ⊢
 refine aU E.g E.Uc (fP (b9 (bD E.Ub) (aq aB) rfl) rfl) ?_
 refine aU E.g E.xO (fP (b9 (bD E.Ub) (aq aB) rfl) rfl) ?_
 refine m8 (abg (bD E.Uc) (aq (qR (aq aB)))).1 (fun hp => ?_) (fun hp => ?_)
 . refine cu (v_ E.xO.1) ?_
   have e : bx = -1 := alv hp
   show T.sh _ = T.sh (.int (pD bx mo bs))
   rw [pD, akJ e]
 . refine aO ?_
   have e : ¬ bx = -1 := alW hp
   refine cu (lD (fh (bD E.cB) (bD E.Uc) (zX (by omega) (by omega))) (bD E.xO)) ?_
   show T.sh _ = T.sh (.int (pD bx mo bs))
   rw [pD, akH e]
theorem vW : lG (ao zy) ([("term", av), ("boxes", av), ("box", av), ("more", av)]) = true := by decide +kernel
theorem Jk : aM ["term", "boxes", "box", "more"] ["term", "boxes"] (ao zy) := aW
noncomputable abbrev jS : Stmt := top 52
noncomputable abbrev nh : Type := J × Bool × List Int
noncomputable def g6 : nh -> List L3.D := fun (r, back, bs) => [r.d, .int (if back then 2 else 3), .lst (bs.map .int)]
noncomputable def g7 : nh -> Prop := fun (r, back, bs) => ∃ o m, r.ok (o, m, bs)
noncomputable def g8 : nh -> T := fun (r, back, bs) => (.lst (((Ak back r bs).map .int).map T.sh) : T)
structure Cm (X : Cx) (CL : Str -> Addr) : Prop extends cy X where
 rB : Ln X 0 "row"
 mR : Ln X 1 "place"
 cB : Ln X 2 "boxes"
 bY : Ln X 3 "behind"
 cF : Gl X "list"
 cG : X.mg "list" = none
theorem Cp {X : Cx} {CL : Str -> Addr} {b : Bx} (E : Cm X CL) (r back bs) (h : g7 (r, back, bs)) :
   aE X CL b jS ["row", "place", "boxes", "behind"] (g6 (r, back, bs)) (g8 (r, back, bs)) := by
 dsimp only [aE, g7, g6, g8] at h ⊢
 obtain ⟨o, m, h⟩ := h
 refine aU E.g E.bY (lE E.cG (v_ E.cB.1) E.cF bQ) ?_
 refine m8 (jC (b9 (bD E.rB) (aq aB) (aha r)) (aq bf)).1 (fun hp => ?_) (fun hp => aO ?_)
 . rw [show decide (r.w = Str.ofString "put") = r.Tj from aeG h] at hp
   cases r with
   | put x p q =>
     have h : 0 <= x /\ x < bs.length := h
     have hlen : ((bs.map L3.D.int).map T.sh).length = bs.length := by simp
     have Cg : Hs [L3.D.str "put", .int x, .int p, .int q] (if back then 2 else 3) = some (.int (if back then p else q)) := by cases back <;> rfl
     refine ad7 E.bY.1 (fP (b9 (bD E.rB) (bD E.mR) Cg) rfl) (b9 (bD E.rB) (aq aB) rfl) rfl (abr h.1 (by rw [hlen]; exact h.2)) (aO ?_)
     refine cu (vM E.bY.1) ?_
     show T.lst _ = T.lst _
     rw [Ak, List.map_set, List.map_set]
   | _ => cases hp
 . rw [show decide (r.w = Str.ofString "put") = r.Tj from aeG h] at hp
   have e : Ak back r bs = bs := by cases r <;> first | rfl | cases hp
   refine cu (vM E.bY.1) ?_
   show T.lst _ = T.lst (((Ak back r bs).map .int).map T.sh)
   rw [e]
theorem gf : lG (ao jS) ([("row", av), ("place", av), ("boxes", av), ("behind", av), ("list", aH)]) = true := by decide +kernel
theorem rC : aM ["row", "place", "boxes", "behind"] ["row", "place", "boxes"] (ao jS) := aW
noncomputable abbrev vX : Stmt := top 51
noncomputable abbrev AQ : Type := J × List Int
noncomputable def pR : AQ -> List L3.D := fun (r, bs) => [r.d, .lst (bs.map .int)]
noncomputable def pS : AQ -> Prop := fun (r, bs) => ∃ o m, r.ok (o, m, bs)
noncomputable def pT : AQ -> T := fun (r, bs) => (.lst (((Ak false r bs).map .int).map T.sh) : T)
structure Ud (X : Cx) (CL : Str -> Addr) : Prop extends cy X where
 rB : Ln X 0 "row"
 cB : Ln X 1 "boxes"
 ni : Gl X "with_number"
 XF : Gl X "AFTER"
 Cq : Fc X CL "with_number" 1 3 g6 g7 g8
 XG : ∃ u, X.mg "AFTER" = some (.int 3 u)
theorem Ue {X : Cx} {CL : Str -> Addr} {b : Bx} (E : Ud X CL) (r bs) (h : pS (r, bs)) :
   aE X CL b vX ["row", "boxes"] (pR (r, bs)) (pT (r, bs)) := by
 dsimp only [aE, pS, pR, pT] at h ⊢
 exact cu (c_ (r, false, bs) E.Cq E.ni (au (bD E.rB) (au (aq (gP E.XG E.XF)) (au (bD E.cB) bz))) h (cT _)) rfl
theorem tE : lG (ao vX) ([("row", av), ("boxes", av), ("with_number", aH), ("AFTER", aH)]) = true := by decide +kernel
theorem D5 : aM ["row", "boxes"] ["row", "boxes"] (ao vX) := aW
noncomputable abbrev Fl : Stmt := top 50
noncomputable abbrev Lc : Type := bC × List Int
noncomputable def vY : Lc -> List L3.D := fun (q, bs) => [q.d, .lst (bs.map .int)]
noncomputable def vZ : Lc -> Prop := fun (q, bs) => q.ok bs
noncomputable def v5 : Lc -> T := fun (q, bs) => (.tup [.lst (((Ak false (q.row bs) bs).map .int).map T.sh), .sh (q.row bs).d] : T)
structure aci (X : Cx) (CL : Str -> Addr) : Prop extends cy X where
 gK : Ln X 0 "deed"
 cB : Ln X 1 "boxes"
 rD : Ln X 2 "word"
 rB : Ln X 3 "row"
 zA : Gl X "value"
 AU : Gl X "redone"
 N4 : Fc X CL "value" 1 2 sZ tu tD
 Ug : Fc X CL "redone" 2 2 pR pS pT
theorem acj {X : Cx} {CL : Str -> Addr} {b : Bx} (E : aci X CL) (q bs) (h : vZ (q, bs)) :
   aE X CL b Fl ["deed", "boxes", "word", "row"] (vY (q, bs)) (v5 (q, bs)) := by
 dsimp only [aE, vZ, vY, v5] at h ⊢
 have hcl : (T.lst (((Ak false (q.row bs) bs).map L3.D.int).map T.sh)).clean = true := by
   rw [gA]
   exact mG _
 have fin : ∀ (w1 : Str) (p1 p2 p3 p4 p5 p6 p7 p8 : Pos) (n1 : Nat), eL X CL b [.Return (some (.Tuple [.Call (.Name "redone" p1) [.Name "row" p2, .Name "boxes" p3] [] p4, .Name "row" p5] n1 p6)) p7] [some (.sh q.d), some (.sh (.lst (bs.map .int))), some (.sh (.str w1)), some (.sh (q.row bs).d)] { nx := fun _ => (T.tup [.lst (((Ak false (q.row bs) bs).map .int).map T.sh), .sh (q.row bs).d]) = .sh .non, rt := fun t _ => t = .tup [.lst (((Ak false (q.row bs) bs).map .int).map T.sh), .sh (q.row bs).d] } := by
   intro w1 p1 p2 p3 p4 p5 p6 p7 p8 n1
   exact cu (oZ (aQ (c_ (q.row bs, bs) E.Ug E.AU (au (bD E.rB) (au (bD E.cB) bz)) (ab2 h) hcl) (aQ (v_ E.rB.1) aZ)) (aA rfl)) rfl
 cases q with
 | put x bb m =>
   have h : (0 <= x /\ x < bs.length) /\ Xe bs bb := h
   refine aU E.g E.rD (fP (b9 (bD E.gK) (aq aB) rfl) rfl) ?_
   refine m8 (jC (bD E.rD) (aq bf)).1 (fun hp => ?_) (fun hp => absurd rfl (alW hp))
   refine aU E.g E.rB (bU (ds := [.str "put", .int x, .int (bs.getD x.toNat 0), .int (pD bb m bs)]) (aQ bf (aQ (jE (v_ E.gK.1) (aq aB) rfl) (aQ (fP (fh (bD E.cB) (b9 (bD E.gK) (aq aB) rfl) (zX h.1.1 h.1.2)) rfl) (aQ (c_ (bb, m, bs) E.N4 E.zA (au (b9 (bD E.gK) (aq aB) rfl) (au (bD E.cB) bz)) h.2 rfl) aZ)))) (aA rfl)) (aO ?_)
   exact fin _ _ _ _ _ _ _ _ ⟨0, 0, 0, 0⟩ _
 | call s =>
   refine aU E.g E.rD (fP (b9 (bD E.gK) (aq aB) rfl) rfl) ?_
   refine m8 (jC (bD E.rD) (aq bf)).1 (fun hp => absurd (show ("call" : Str) = "put" from alv hp) (by decide +kernel)) (fun hp => ?_)
   refine m8 (jC (bD E.rD) (aq bf)).1 (fun hp => absurd (show ("call" : Str) = "say" from alv hp) (by decide +kernel)) (fun hp => ?_)
   refine aU E.g E.rB (bU (ds := [.str "call", .str s]) (aQ bf (aQ (jE (v_ E.gK.1) (aq aB) rfl) aZ)) (aA rfl)) (aO (aO ?_))
   exact fin _ _ _ _ _ _ _ _ ⟨0, 0, 0, 0⟩ _
 | say s bb m =>
   refine aU E.g E.rD (fP (b9 (bD E.gK) (aq aB) rfl) rfl) ?_
   refine m8 (jC (bD E.rD) (aq bf)).1 (fun hp => absurd (show ("say" : Str) = "put" from alv hp) (by decide +kernel)) (fun hp => ?_)
   refine m8 (jC (bD E.rD) (aq bf)).1 (fun hp => ?_) (fun hp => absurd rfl (alW hp))
   refine aU E.g E.rB (bU (ds := [.str "say", .str s, .int (pD bb m bs)]) (aQ bf (aQ (jE (v_ E.gK.1) (aq aB) rfl) (aQ (c_ (bb, m, bs) E.N4 E.zA (au (b9 (bD E.gK) (aq aB) rfl) (au (bD E.cB) bz)) h rfl) aZ))) (aA rfl)) (aO (aO ?_))
   exact fin _ _ _ _ _ _ _ _ ⟨0, 0, 0, 0⟩ _
theorem tF : lG (ao Fl) ([("deed", av), ("boxes", av), ("word", av), ("row", av), ("value", aH), ("redone", aH)]) = true := by decide +kernel
theorem N5 : aM ["deed", "boxes", "word", "row"] ["deed", "boxes"] (ao Fl) := aW
noncomputable abbrev pU : Stmt := top 53
noncomputable abbrev uG : Type := Bool × List bC × List Int
noncomputable def kL : uG -> List L3.D := fun (l, qs, bs) => [Ih l (qs.map bC.d), .lst (bs.map .int)]
noncomputable def i6 : uG -> Prop := fun (l, qs, bs) => qs.length <= 1000 /\ ∀ q ∈ qs, q.ok bs
noncomputable def i7 : uG -> T := fun (l, qs, bs) => (.tup [.lst (((qs.foldl DP bs).map .int).map T.sh), .lst (((fU qs bs).map J.d).map T.sh), .lst (((gJ qs).map .str).map T.sh)] : T)
structure Ld (X : Cx) (CL : Str -> Addr) : Prop extends cy X where
 kK : Ln X 0 "deeds"
 cB : Ln X 1 "boxes"
 bY : Ln X 2 "behind"
 bq : Ln X 3 "rows"
 gi : Ln X 4 "called"
 gK : Ln X 5 "deed"
 eF : Ln X 6 "step"
 cF : Gl X "list"
 Le : Gl X "done"
 cG : X.mg "list" = none
 ack : Fc X CL "done" 3 2 vY vZ v5
theorem Lf {X : Cx} {CL : Str -> Addr} {b : Bx} (E : Ld X CL) (l qs bs) (h : i6 (l, qs, bs)) :
   aE X CL b pU ["deeds", "boxes", "behind", "rows", "called", "deed", "step"] (kL (l, qs, bs)) (i7 (l, qs, bs)) := by
 dsimp only [aE, i6, kL, i7] at h ⊢
 refine aU E.g E.bY (lE E.cG (v_ E.cB.1) E.cF bQ) ?_
 refine aU E.g E.bq (bW (tl := []) aZ (aA rfl)) ?_
 refine aU E.g E.gi (bW (tl := []) aZ (aA rfl)) ?_
 have hti : ∀ (p p' : Pos) (o2 o3 o4 o5 o6 : Option T), Vx X CL b (.Name "deed" p) (.Name "deeds" p') [some (.sh (Ih l (qs.map bC.d))), some (.sh (.lst (bs.map .int))), o2, o3, o4, o5, o6] (qs.map bC.d) [some (.sh (Ih l (qs.map bC.d))), some (.sh (.lst (bs.map .int))), o2, o3, o4, o5, o6] := by
   intro p p' o2 o3 o4 o5 o6
   cases l
   . exact zV (v_ E.kK.1)
   . exact dh (v_ E.kK.1)
 refine iI E.g E.gK (fun j δ => ∃ o5 o6, δ = [some (.sh (Ih l (qs.map bC.d))), some (.sh (.lst (bs.map .int))), some (.lst ((((qs.take j).foldl DP bs).map .int).map T.sh)), some (.lst (((fU (qs.take j) bs).map J.d).map T.sh)), some (.lst (((gJ (qs.take j)).map .str).map T.sh)), o5, o6]) (hti _ _ _ _ _ _ _) ⟨_, _, rfl⟩ (fun j δ ⟨_, _, e⟩ => by subst e; exact akz rfl) ?turn ?fin
 case turn =>
   rintro j d δ hj ⟨o5, o6, rfl⟩
   rw [ak0] at hj
   obtain ⟨q, hq, rfl⟩ := Option.map_eq_some_iff.mp hj
   have hm : q ∈ qs := alr hq
   have hl : (fU (qs.take j) bs).length <= 1000 := by rw [Tt, alx]; omega
   have hl' : (gJ (qs.take j)).length <= 1000 := alq (alE _ _) (by rw [alx]; omega)
   have ec : gJ (qs.take (j + 1)) = gJ (qs.take j) ++ (DY q).toList := by
     rw [jI hq]; unfold gJ; rw [ama]; cases q <;> rfl
   rw [jI hq, Tr, ams, ← jI hq, ec]
   have hcl := Tq (qs.take j) bs
   have dJ := NZ hcl q (h.2 q hm)
   generalize (qs.take j).foldl DP bs = cur at hcl dJ ⊢
   generalize fU (qs.take j) bs = rs at hl ⊢
   generalize gJ (qs.take j) = cs at hl' ⊢
   refine aU E.g E.eF (c_ (q, cur) E.ack E.Le (au (bD E.gK) (au (vL E.bY.1) bz)) dJ (K5 _ _ _)) ?_
   refine aU E.g E.bY (gB (tt := [.lst (((DP cur q).map .int).map T.sh), .sh (q.row cur).d]) 0 E.eF.1 rfl rfl) ?_
   refine mF E.bq.1 rfl (fP (d := (q.row cur).d) (b9 (vE (t := .tup [.sh .any, .sh (q.row cur).d]) E.eF.1 rfl rfl) (aq aB) rfl) (zg cur q)) rfl (by simp; omega) ?_
   have er : (rs.map J.d).map T.sh ++ [T.sh (q.row cur).d] = ((rs ++ [q.row cur]).map J.d).map T.sh := by rw [akM, akM]; rfl
   rw [er]
   cases q with
   | put x bb m =>
     refine m8 (jC (b9 (bD E.gK) (aq aB) rfl) (aq bf)).1 (fun hp => absurd (show ("put" : Str) = "call" from alv hp) (by decide +kernel)) (fun hp => aO (aO ⟨some (.sh (bC.put x bb m).d), some (.tup [.sh .any, .sh ((bC.put x bb m).row cur).d]), ?_⟩))
     rw [show (DY (bC.put x bb m)).toList = [] from rfl, akK]
     rfl
   | say s bb m =>
     refine m8 (jC (b9 (bD E.gK) (aq aB) rfl) (aq bf)).1 (fun hp => absurd (show ("say" : Str) = "call" from alv hp) (by decide +kernel)) (fun hp => aO (aO ⟨some (.sh (bC.say s bb m).d), some (.tup [.sh .any, .sh ((bC.say s bb m).row cur).d]), ?_⟩))
     rw [show (DY (bC.say s bb m)).toList = [] from rfl, akK]
     rfl
   | call s =>
     refine m8 (jC (b9 (bD E.gK) (aq aB) rfl) (aq bf)).1 (fun hp => ?_) (fun hp => absurd rfl (alW hp))
     refine mF E.gi.1 rfl (fP (b9 (bD E.gK) (aq aB) rfl) rfl) rfl (by simp; omega) (aO (aO ⟨some (.sh (bC.call s).d), some (.tup [.sh .any, .sh ((bC.call s).row cur).d]), ?_⟩))
     have es : (cs.map L3.D.str).map T.sh ++ [T.sh (.str s)] = ((cs ++ (DY (bC.call s)).toList).map L3.D.str).map T.sh := by rw [akM, akM]; rfl
     rw [← es]
     rfl
 case fin =>
   rintro δ ⟨o5, o6, rfl⟩
   rw [akD, aly]
   exact cu (oZ (aQ (vM E.bY.1) (aQ (vM E.bq.1) (aQ (vM E.gi.1) aZ))) (aA rfl)) rfl
theorem ef : lG (ao pU) ([("deeds", av), ("boxes", av), ("behind", av), ("rows", av), ("called", av), ("deed", av), ("step", av), ("list", aH), ("done", aH)]) = true := by decide +kernel
theorem yH : aM ["deeds", "boxes", "behind", "rows", "called", "deed", "step"] ["deeds", "boxes"] (ao pU) := aW
noncomputable abbrev mS : Stmt := top 56
noncomputable abbrev rE : Type := Bool × List It × List Int
noncomputable def gS : rE -> List L3.D := fun (l, xs, bs) => [Ih l (xs.map It.d), .lst (bs.map .int)]
noncomputable def eG : rE -> Prop := fun (l, xs, bs) => xs.length <= 1000 /\ ∀ x ∈ xs, x.ok bs
noncomputable def gT : rE -> T := fun (l, xs, bs) => (.tup [.lst (((xs.foldl It.af bs).map .int).map T.sh), .lst (((sI xs bs).map J.d).map T.sh), .lst (((bP xs).map .str).map T.sh)] : T)
structure Jl (X : Cx) (CL : Str -> Addr) : Prop extends cy X where
 cz : Ln X 0 "script"
 cB : Ln X 1 "boxes"
 bY : Ln X 2 "behind"
 bq : Ln X 3 "rows"
 gi : Ln X 4 "called"
 pI : Ln X 5 "part"
 eF : Ln X 6 "step"
 cF : Gl X "list"
 N6 : Gl X "MARKS"
 uH : Gl X "all_done"
 cG : X.mg "list" = none
 zB : GT X "MARKS" ["out", "keep", "way", "in"]
 Lg : Fc X CL "all_done" 4 2 kL i6 i7
theorem Jm {X : Cx} {CL : Str -> Addr} {b : Bx} (E : Jl X CL) (l xs bs) (h : eG (l, xs, bs)) :
   aE X CL b mS ["script", "boxes", "behind", "rows", "called", "part", "step"] (gS (l, xs, bs)) (gT (l, xs, bs)) := by
 dsimp only [aE, eG, gS, gT] at h ⊢
 refine aU E.g E.bY (iQ E.cG (bD E.cB) (dO _) E.cF bQ) ?_
 refine aU E.g E.bq (bW (tl := []) aZ (aA rfl)) ?_
 refine aU E.g E.gi (bW (tl := []) aZ (aA rfl)) ?_
 have hti : ∀ (p p' : Pos) (o2 o3 o4 o5 o6 : Option T), Vx X CL b (.Name "part" p) (.Name "script" p') [some (.sh (Ih l (xs.map It.d))), some (.sh (.lst (bs.map .int))), o2, o3, o4, o5, o6] (xs.map It.d) [some (.sh (Ih l (xs.map It.d))), some (.sh (.lst (bs.map .int))), o2, o3, o4, o5, o6] := by
   intro p p' o2 o3 o4 o5 o6
   cases l
   . exact zV (v_ E.cz.1)
   . exact dh (v_ E.cz.1)
 refine iI E.g E.pI (fun j δ => ∃ o5 o6, δ = [some (.sh (Ih l (xs.map It.d))), some (.sh (.lst (bs.map .int))), some (.lst ((((xs.take j).foldl It.af bs).map .int).map T.sh)), some (.lst (((sI (xs.take j) bs).map J.d).map T.sh)), some (.lst (((bP (xs.take j)).map .str).map T.sh)), o5, o6]) (hti _ _ _ _ _ _ _) ⟨_, _, rfl⟩ (fun j δ ⟨_, _, e⟩ => by subst e; exact akz rfl) ?turn ?fin
 case turn =>
   rintro j d δ hj ⟨o5, o6, rfl⟩
   rw [ak0] at hj
   obtain ⟨x, hq, rfl⟩ := Option.map_eq_some_iff.mp hj
   have hm : x ∈ xs := alr hq
   have hl : (sI (xs.take j) bs).length <= 1000 := by rw [zj, alx]; omega
   have hl' : (bP (xs.take j)).length <= 1000 := alq (alE _ _) (by rw [alx]; omega)
   have hcl := uC (xs.take j) bs
   have dJ := Xh hcl x (h.2 x hm)
   have e1 : (xs.take (j + 1)).foldl It.af bs = ((xs.take j).foldl It.af bs |> fun c => x.af c) := by rw [jI hq, ams]; rfl
   have e2 : sI (xs.take (j + 1)) bs = sI (xs.take j) bs ++ [x.j ((xs.take j).foldl It.af bs)] := by rw [jI hq, Xg]; rfl
   have e3 : bP (xs.take (j + 1)) = bP (xs.take j) ++ x.call.toList := by rw [jI hq, IQ]
   rw [e1, e2, e3]
   clear e1 e2 e3
   generalize (xs.take j).foldl It.af bs = cur at hcl dJ ⊢
   generalize sI (xs.take j) bs = rs at hl ⊢
   generalize bP (xs.take j) = cs at hl' ⊢
   have hmk := Xf x
   by_cases ht : x.told = true
   . obtain ⟨q, rfl⟩ : ∃ q, x = .kJ q := by cases x <;> first | exact ⟨_, rfl⟩ | cases ht
     have dJ : q.ok cur := dJ
     refine m8 (NB (l := kr) (b9 (aq (v_ (d := .tup (.str q.w :: q.ds)) E.pI.1)) (aq aB) aah) (aq (Il E.zB E.N6)) rfl rfl).1 (fun hp => by rw [show decide (q.w ∈ kr) = false from hmk] at hp; cases hp) (fun hp => ?_)
     refine aU E.g E.eF (c_ (true, [q], cur) E.Lg E.uH (au (bT (ds := [q.d]) (bW (aQ (v_ (d := q.d) E.pI.1) aZ) (aA rfl))) (au (vL E.bY.1) bz)) (by dsimp only [i6]; exact ⟨by simp, fun y hy => by rw [List.mem_singleton.mp hy]; exact dJ⟩) (K4 (dO _) (PR _ _) (iR (fun _ => rfl) _))) ?_
     rw [show i7 (true, [q], cur) = T.tup [.lst (((DP cur q).map .int).map T.sh), .lst ([(q.row cur).d].map T.sh), .lst (((gJ [q]).map .str).map T.sh)] from rfl]
     refine aU E.g E.bY (gB 0 E.eF.1 rfl rfl) ?_
     have hcq : (gJ [q]).length <= 1 := alE _ _
     refine NP E.bq.1 rfl (gB 1 E.eF.1 rfl rfl) rfl (by simp; omega) ?_
     refine NP E.gi.1 rfl (gB 2 E.eF.1 rfl rfl) rfl (by simp; omega) (aO (aO ⟨some (.sh q.d), some (.tup [.sh .any, .sh .any, .sh .any]), ?_⟩))
     have ec : gJ [q] = (It.kJ q).call.toList := by cases q <;> rfl
     rw [← ec, akM, akM, akM, akM]
     rfl
   . have ht : x.told = false := by simpa using ht
     have hj : x.j cur = x.sj := by cases x <;> first | rfl | cases ht
     have ha : x.af cur = cur := by cases x <;> first | rfl | cases ht
     have hc : x.call = none := by cases x <;> first | rfl | cases ht
     rw [ht] at hmk
     refine m8 (NB (l := kr) (b9 (aq (v_ (d := .tup (.str x.sj.w :: x.sj.ds)) E.pI.1)) (aq aB) aah) (aq (Il E.zB E.N6)) rfl rfl).1 (fun hp => ?_) (fun hp => by rw [show decide (x.sj.w ∈ kr) = true from hmk] at hp; cases hp)
     refine mF E.bq.1 rfl (fP (d := x.d) (bD E.pI) (Tv x)) rfl (by simp; omega) (aO (aO ⟨some (.sh x.d), o6, ?_⟩))
     rw [hj, hc, show (fun c => x.af c) cur = cur from ha, show (none : Option Str).toList = [] from rfl, akK, akM, akM]
     rfl
 case fin =>
   rintro δ ⟨o5, o6, rfl⟩
   rw [akD, aly]
   exact cu (oZ (aQ (vM E.bY.1) (aQ (vM E.bq.1) (aQ (vM E.gi.1) aZ))) (aA rfl)) rfl
theorem cW : lG (ao mS) ([("script", av), ("boxes", av), ("behind", av), ("rows", av), ("called", av), ("part", av), ("step", av), ("list", aH), ("MARKS", aH), ("all_done", aH)]) = true := by decide +kernel
theorem v7 : aM ["script", "boxes", "behind", "rows", "called", "part", "step"] ["script", "boxes"] (ao mS) := aW
noncomputable abbrev kM : Stmt := top 29
noncomputable abbrev pV : Type := List L3.D × List L3.D × List bC × List LW × Int
noncomputable def gj : pV -> List L3.D := fun (bx, nm, i0, ps, i) => [bX bx nm i0 ps, .int i]
noncomputable def dR : pV -> Prop := fun (bx, nm, i0, ps, i) => 0 <= i /\ i < ps.length
noncomputable def gk : pV -> T := fun (bx, nm, i0, ps, i) => (.sh (.bl false) : T)
structure Fo (X : Cx) (CL : Str -> Addr) : Prop extends cy X where
 aX : Ln X 0 "chart"
 aS : Ln X 1 "number"
 Jo : Gl X "TARGET"
 Jp : ∃ u, X.mg "TARGET" = some (.int 4 u)
 aY : iP X.K (CL "Chart")
 cj : aF X.K (CL "Chart") "ways"
theorem Fp {X : Cx} {CL : Str -> Addr} {b : Bx} (E : Fo X CL) (bx nm i0 ps i) (h : dR (bx, nm, i0, ps, i)) :
   aE X CL b kM ["chart", "number"] (gj (bx, nm, i0, ps, i)) (gk (bx, nm, i0, ps, i)) := by
 dsimp only [aE, dR, gj, gk] at h ⊢
 obtain ⟨h0, h1⟩ := h
 exact cu (aV (RA (b9 (fh (dX E.aY E.cj (bD E.aX) jH) (bD E.aS) (qT (f := Ht) E4 h0 h1)) (aq (gP E.Jp E.Jo)) (bE (j := 4) rfl)) (aq (qR (aq aB)))).2 (t2 := .sh (.bl false)) rfl) rfl
theorem nj : lG (ao kM) ([("chart", av), ("number", av), ("TARGET", aH)]) = true := by decide +kernel
theorem t9 : aM ["chart", "number"] ["chart", "number"] (ao kM) := aW
noncomputable abbrev zC : Stmt := top 12
noncomputable abbrev Ft : Type := List Str × List Int × List Int × Int
noncomputable def oH : Ft -> List L3.D := fun (ks, es, ss, m) => [DX ks es ss, .int m]
noncomputable def lA : Ft -> Prop := fun (ks, es, ss, m) => Tf es /\ 0 <= m /\ m < es.length /\ es.length <= 1000
noncomputable def oJ : Ft -> T := fun (ks, es, ss, m) => (.lst (((Xb es m).map .int).map T.sh) : T)
structure XH (X : Cx) (CL : Str -> Addr) : Prop extends cy X where
 ku : Ln X 0 "tree"
 f9 : Ln X 1 "mood"
 cY : Ln X 2 "found"
 mU : Ln X 3 "elder"
 iY : iP X.K (CL "Tree")
 fN : aF X.K (CL "Tree") "elders"
theorem XI {X : Cx} {CL : Str -> Addr} {b : Bx} (E : XH X CL) (ks es ss m) (h : lA (ks, es, ss, m)) :
   aE X CL b zC ["tree", "mood", "found", "elder"] (oH (ks, es, ss, m)) (oJ (ks, es, ss, m)) := by
 dsimp only [aE, lA, oH, oJ] at h ⊢
 obtain ⟨ht, h0, h1, hlen⟩ := h
 refine aU E.g E.cY (bW aZ (akV _)) ?_
 refine aU E.g E.mU (fP (fh (dX E.iY E.fN (bD E.ku) qX) (bD E.f9) (zX h0 h1)) rfl) ?_
 have hm := ht.at h0 h1
 refine EF E.g (fun n δ => ∃ (k : Int) (l : List Int), δ = [some (.sh (DX ks es ss)), some (.sh (.int m)), some (.lst ((l.map .int).map T.sh)), some (.sh (.int k))] /\ -1 <= k /\ k < n /\ k < es.length /\ l ++ chF n es k = Xb es m /\ l.length + n <= es.length + 1) (es.length + 1)
   ⟨es.getD m.toNat 0, [], rfl, hm.1, by omega, by omega, rfl, by simp⟩ ?_
 rintro n δ ⟨k, l, rfl, k0, k1, k2, k3, k4⟩
 refine ⟨_, _, (RA (bD E.mU) (aq (qR (aq aB)))).1, fun hp => ?_, fun hp => ?_⟩
 . have hk : ¬ k = -1 := by simpa using hp
   have ha := ht.at (k := k) (by omega) k2
   cases n with
   | zero => omega
   | succ n =>
     refine mF E.cY.1 rfl (v_ E.mU.1) rfl (by simp; omega) ?_
     refine aU E.g E.mU (fP (fh (dX E.iY E.fN (bD E.ku) qX) (bD E.mU) (zX (by omega) k2)) rfl) ?_
     refine aO ⟨n, Nat.lt_succ_self _, es.getD k.toNat 0, l ++ [k], ?_, ha.1, by omega, by omega, ?_, by simp; omega⟩
     . show [_, _, some (T.lst (((l.map D.int).map T.sh) ++ [T.sh (.int k)])), _] = _
       simp
     . rw [← k3, chF, akH hk, akx]
       rfl
 . have hk : k = -1 := by simpa using hp
   subst hk
   have e : l = Xb es m := by
     rw [← k3]
     cases n with
     | zero => rw [chF, akK]
     | succ n => rw [chF, akJ rfl, akK]
   subst e
   exact cu (vM E.cY.1) rfl
theorem v8 : lG (ao zC) ([("tree", av), ("mood", av), ("found", av), ("elder", av)]) = true := by decide +kernel
theorem Jq : aM ["tree", "mood", "found", "elder"] ["tree", "mood"] (ao zC) := aW
noncomputable abbrev zE : Stmt := top 13
noncomputable abbrev Fv : Type := List Str × List Int × List Int × Int
noncomputable def tG : Fv -> List L3.D := fun (ks, es, ss, m) => [DX ks es ss, .int m]
noncomputable def oK : Fv -> Prop := fun (ks, es, ss, m) => Tf es /\ 0 <= m /\ m < es.length /\ es.length <= 1000
noncomputable def tH : Fv -> T := fun (ks, es, ss, m) => (.sh (.int ((Xb es m).length : Nat)) : T)
structure XJ (X : Cx) (CL : Str -> Addr) : Prop extends cy X where
 ku : Ln X 0 "tree"
 f9 : Ln X 1 "mood"
 qY : Gl X "len"
 v9 : Gl X "above"
 qZ : X.mg "len" = none
 Fw : Fc X CL "above" 1 2 oH lA oJ
theorem XM {X : Cx} {CL : Str -> Addr} {b : Bx} (E : XJ X CL) (ks es ss m) (h : oK (ks, es, ss, m)) :
   aE X CL b zE ["tree", "mood"] (tG (ks, es, ss, m)) (tH (ks, es, ss, m)) := by
 dsimp only [aE, oK, tG, tH] at h ⊢
 have hl : ((Xb es m).map L3.D.int).length = (Xb es m).length := by simp
 exact cu (EC hl E.qZ (bT (c_ (ks, es, ss, m) E.Fw E.v9 (au (bD E.ku) (au (bD E.f9) bz)) h (by show (T.lst _).clean = true; rw [gA]; exact mG _))) E.qY) rfl
theorem wc : lG (ao zE) ([("tree", av), ("mood", av), ("len", aH), ("above", aH)]) = true := by decide +kernel
theorem Jr : aM ["tree", "mood"] ["tree", "mood"] (ao zE) := aW
noncomputable abbrev Fx : Stmt := top 32
noncomputable abbrev Lh : Type := List L3.D × List L3.D × List bC × List LW × List Int
noncomputable def wg : Lh -> List L3.D := fun (bx, nm, i0, ps, row) => [bX bx nm i0 ps, .lst (row.map .int)]
noncomputable def rG : Lh -> Prop := fun (bx, nm, i0, ps, row) => row.length <= 1 /\ ∀ k ∈ row, 0 <= k /\ k < ps.length
noncomputable def wj : Lh -> T := fun (bx, nm, i0, ps, row) => (.lst ((row.map .int).map T.sh) : T)
structure acm (X : Cx) (CL : Str -> Addr) : Prop extends cy X where
 aX : Ln X 0 "chart"
 mV : X.env.kindOf "chart" = some .cell
 cY : Ln X 1 "found"
 AV : Ln X 2 "chosen"
 acn : Ln X 3 "tops"
 aS : Ln X 4 "number"
 afJ : Ln X 5 "upper"
 afK : X.env.kindOf "upper" = some .cell
 gU : Gl X "sorted"
 pW : Gl X "has_target"
 aij : Gl X "any"
 gW : X.mg "sorted" = none
 pX : Fc X CL "has_target" 1 2 gj dR gk
 aik : X.mg "any" = none
 XO : Fc X CL "depth" 2 2 tG oK tH
 wk : ∃ u, X.mg "SOURCE" = some (.int 0 u)
 aY : iP X.K (CL "Chart")
 cg : aF X.K (CL "Chart") "tree"
 cj : aF X.K (CL "Chart") "ways"
 lam : SG X CL "#kept.<locals>.<lambda>" "kept.<locals>.<lambda>"
 dp : X.A.depth < recursionLimit
 rm : dg 3 X.A
theorem aco {X : Cx} {CL : Str -> Addr} {b : Bx} (E : acm X CL) (bx nm i0 ps row) (h : rG (bx, nm, i0, ps, row)) :
   aE X CL b Fx ["chart", "found", "chosen", "tops", "number", "upper"] (wg (bx, nm, i0, ps, row)) (wj (bx, nm, i0, ps, row)) := by
 dsimp only [aE, rG, wg, wj] at h ⊢
 obtain ⟨hl, aeQ⟩ := h
 refine aU E.g E.AV (bW aZ (akV _)) ?_
 refine aU E.g E.acn (bW aZ (akV _)) ?_
 have aI : ∀ (l : List Int) (x : Int), (l.map L3.D.int).map T.sh ++ [T.sh (.int x)] = ((l ++ [x]).map L3.D.int).map T.sh := by intros; simp
 refine iI E.g E.aS (fun j δ => ∃ o4 o5, δ = [some (.sh (bX bx nm i0 ps)), some (.sh (.lst (row.map .int))), some (.lst (((row.take j).map .int).map T.sh)), some (.lst []), o4, o5])
   (dh (fS (ds := row.map .int) (aV (Ad (y := "way") (g := fun d => (0 : Int)) E.lam E.g E.dp E.gW E.gU (cS (.cons E.aX.1 (.inl E.mV) .nil) (by decide +kernel)) (bD E.cY) (dO _) (by simp; omega) (fun f c s0 H0 b' d hd => ?key)) (by rw [E6])))) ⟨_, _, rfl⟩ (fun j δ ⟨_, _, e⟩ => by subst e; exact akz rfl) ?turn ?fin
 case key =>
   obtain ⟨k, hkm, rfl⟩ := ak2.mp hd
   obtain ⟨k0, k1⟩ := aeQ k hkm
   exact aq (aV (qR (aq (aV (c_ (Xi, Hu, Hu, (0 : Int)) (abR E.XO (E.rm.mono (by decide))) (KY (by decide +kernel)) (au (dX (by exact E.aY) (by exact E.cg) (aq (v_ (EW (i := 1) rfl (by decide +kernel)))) lI) (au (b9 (fh (dX (by exact E.aY) (by exact E.cj) (aq (v_ (EW (i := 1) rfl (by decide +kernel)))) jH) (aq (v_ (SM (i := 0) rfl (by decide +kernel)))) (qT (f := Ht) E4 k0 k1)) (aq (gP (by exact E.wk) (KY (by decide +kernel)))) (bE (j := 0) rfl)) bz)) (by dsimp only [oK]; exact ⟨trL, by decide, by decide, by decide⟩) rfl) (t2 := .sh (.int 0)) (by show T.sh (.int ((Xb Hu 0).length : Nat)) = _; rw [chL]; rfl)))) rfl)
 case turn =>
   rintro j d δ hj ⟨o4, o5, rfl⟩
   obtain ⟨k, rfl, _, hkm, NS, _, NK⟩ := pC hj
   obtain ⟨k0, k1⟩ := aeQ k hkm
   refine m8 (Nr (aV (c_ (bx, nm, i0, ps, k) E.pX E.pW (au (bD E.aX) (au (bD E.aS) bz)) (by dsimp only [dR]; exact ⟨k0, k1⟩) rfl) (t2 := .sh (.bl false)) rfl)) (fun hp => by cases hp) (fun hp => aO ?_)
   have vo : (row.take j).length <= 1 := by rw [alx]; omega
   refine mF E.AV.1 rfl (v_ E.aS.1) rfl (by simp; omega) (aO ?_)
   rw [aI, NK]
   exact ⟨_, _, rfl⟩
 case fin =>
   rintro δ ⟨o4, o5, rfl⟩
   rw [akD, aly]
   refine cu (aV (uA E.gW (vL E.AV.1) (by omega) E.gU) (t2 := .lst ((row.map .int).map T.sh)) ?_) rfl
   have e : sortI row = row := by
     match row, hl with
     | [], _ => rfl
     | [x], _ => rfl
   rw [e]
theorem i9 : lG (ao Fx) ([("chart", .cell), ("found", av), ("chosen", av), ("tops", av), ("number", av), ("upper", .cell), ("sorted", aH), ("has_target", aH), ("any", aH)]) = true := by decide +kernel
theorem N7 : aM ["chart", "found", "chosen", "tops", "number", "upper"] ["chart", "found"] (ao Fx) := aW
noncomputable abbrev jT : Stmt := top 27
noncomputable abbrev nq : Type := List L3.D × List L3.D × List Str × List Int × List Int × List L3.D × List L3.D × List L3.D × List Int
noncomputable def g9 : nq -> List L3.D := fun (bs, nm, ks, es, ss, is, os, ws, ops) => [EZ bs nm (DX ks es ss) is os ws, .lst (ops.map .int)]
noncomputable def fC : nq -> Prop := fun (bs, nm, ks, es, ss, is, os, ws, ops) => ops.length <= 1000 /\ ∀ x ∈ ops, 0 <= x /\ x < ks.length
noncomputable def ia : nq -> T := fun (bs, nm, ks, es, ss, is, os, ws, ops) => (.lst (((lvM ks ops).map .int).map T.sh) : T)
structure Cr (X : Cx) (CL : Str -> Addr) : Prop extends cy X where
 aX : Ln X 0 "chart"
 mV : X.env.kindOf "chart" = some .cell
 cO : Ln X 1 "opens"
 aY : iP X.K (CL "Chart")
 iY : iP X.K (CL "Tree")
 gC : aF X.K (CL "Tree") "kinds"
 cg : aF X.K (CL "Chart") "tree"
theorem Ct {X : Cx} {CL : Str -> Addr} {b : Bx} (E : Cr X CL) (bs nm ks es ss is os ws ops) (h : fC (bs, nm, ks, es, ss, is, os, ws, ops)) :
   aE X CL b jT ["chart", "opens"] (g9 (bs, nm, ks, es, ss, is, os, ws, ops)) (ia (bs, nm, ks, es, ss, is, os, ws, ops)) := by
 dsimp only [aE, fC, g9, ia] at h ⊢
 obtain ⟨hl, ho⟩ := h
 refine cu (mK (p := fun d => aeH ks d.QF) (g := fun d => T.sh d) (cS (.cons E.aX.1 (.inl E.mV) .nil) (by decide +kernel)) E.g.calm (dh (v_ E.cO.1)) (.inr rfl) (fun C s0 H0 f0 b' d hd => ?Xw) (Nat.le_of_lt (cI (by simpa using hl)))) ?eq
 case Xw =>
   obtain ⟨x, hx, rfl⟩ := ak2.mp hd
   obtain ⟨x0, x1⟩ := ho x hx
   exact ⟨(jC (fh (dX (by exact E.iY) (by exact E.gC) (dX (by exact E.aY) (by exact E.cg) (aq (v_ (uy (i := 1) rfl (by decide +kernel)))) lI) Af) (aq (v_ (jG (i := 0) rfl (by decide +kernel)))) (qT Str.empty x0 x1)) (aq bf)).1, fun _ => v_ (jG (i := 0) rfl (by decide +kernel))⟩
 case eq =>
   unfold lvM
   rw [List.filter_map, alc, alc]
   rfl
theorem lK : lG (ao jT) ([("chart", .cell), ("opens", av)]) = true := by decide +kernel
theorem rH : aM ["chart", "opens"] ["chart", "opens"] (ao jT) := aW
noncomputable abbrev Fy : Stmt := top 25
noncomputable abbrev Li : Type := List Int
noncomputable def wm : Li -> List L3.D := fun ops => [.tup [], .lst (ops.map .int)]
noncomputable def wo : Li -> Prop := fun ops => True
noncomputable def wu : Li -> T := fun ops => (.sh (.bl true) : T)
structure acp (X : Cx) (CL : Str -> Addr) : Prop extends cy X where
 Lj : Ln X 0 "asks"
 cO : Ln X 1 "opens"
 Uh : Ln X 2 "ask"
theorem acq {X : Cx} {CL : Str -> Addr} {b : Bx} (E : acp X CL) (ops) (h : wo ops) :
   aE X CL b Fy ["asks", "opens", "ask"] (wm ops) (wu ops) := by
 dsimp only [aE, wo, wm, wu] at h ⊢
 refine iI E.g E.Uh (fun j δ => ∃ o, δ = [some (.sh (.tup [])), some (.sh (.lst (ops.map .int))), o])
   (zV (v_ E.Lj.1)) ⟨_, rfl⟩ (fun j δ ⟨_, e⟩ => by subst e; exact akz rfl) (fun j d δ hj => by simp at hj) ?fin
 case fin =>
   rintro δ ⟨o, rfl⟩
   exact cu Nn rfl
theorem Fz : lG (ao Fy) ([("asks", av), ("opens", av), ("ask", av)]) = true := by decide +kernel
theorem N8 : aM ["asks", "opens", "ask"] ["asks", "opens"] (ao Fy) := aW
noncomputable abbrev wA : Stmt := top 24
noncomputable abbrev AW : Type := List L3.D × List L3.D × List bC × List LW × Str
noncomputable def pY : AW -> List L3.D := fun (bx, nm, i0, ps, sg) => [bX bx nm i0 ps, .lst [.int 0], .int 0, .str sg]
noncomputable def pZ : AW -> Prop := fun (bx, nm, i0, ps, sg) => ps.length <= 63
noncomputable def lM : AW -> T := fun (bx, nm, i0, ps, sg) => (.lst (((Cj (uD ps sg ps.length)).map .int).map T.sh) : T)
structure Ui (X : Cx) (CL : Str -> Addr) : Prop extends cy X where
 aX : Ln X 0 "chart"
 mV : X.env.kindOf "chart" = some .cell
 cO : Ln X 1 "opens"
 AX : Ln X 2 "leaf"
 lN : Ln X 3 "sign"
 cY : Ln X 4 "found"
 aS : Ln X 5 "number"
 AY : Ln X 6 "way"
 Lk : Ln X 7 "line"
 acr : X.env.kindOf "line" = some .cell
 v9 : Gl X "above"
 Js : Gl X "enumerate"
 acs : Gl X "SIGN"
 Uj : Gl X "SOURCE"
 Lp : Gl X "fits"
 Lq : Gl X "ASKS"
 gU : Gl X "sorted"
 Fw : Fc X CL "above" 1 2 oH lA oJ
 Jt : X.mg "enumerate" = none
 acu : ∃ u, X.mg "SIGN" = some (.int 1 u)
 wk : ∃ u, X.mg "SOURCE" = some (.int 0 u)
 acv : Fc X CL "fits" 1 2 wm wo wu
 Lr : ∃ u, X.mg "ASKS" = some (.int 2 u)
 gW : X.mg "sorted" = none
 aY : iP X.K (CL "Chart")
 cj : aF X.K (CL "Chart") "ways"
 cg : aF X.K (CL "Chart") "tree"
 lam : SG X CL "#goable.<locals>.<lambda>" "goable.<locals>.<lambda>"
 dp : X.A.depth < recursionLimit
 rm : dg 1 X.A
theorem Uk {X : Cx} {CL : Str -> Addr} {b : Bx} (E : Ui X CL) (bx nm i0 ps sg) (h : pZ (bx, nm, i0, ps, sg)) :
   aE X CL b wA ["chart", "opens", "leaf", "sign", "found", "number", "way", "line"] (pY (bx, nm, i0, ps, sg)) (lM (bx, nm, i0, ps, sg)) := by
 dsimp only [aE, pZ, pY, lM] at h ⊢
 have ZO := h
 refine aU E.g E.Lk (aV (mH (ds := [.int 0]) (zZ := []) (bT (ds := [.int 0]) (bW (aQ (v_ E.AX.1) aZ) (aA rfl))) (bT (ds := []) (aV (c_ (Xi, Hu, Hu, (0 : Int)) E.Fw E.v9 (au (dX E.aY E.cg (bD E.aX) lI) (au (bD E.AX) bz)) (by dsimp only [lA]; exact ⟨trL, by decide, by decide, by decide⟩) (cT _)) (t2 := .lst []) (by show T.lst (((Xb Hu 0).map L3.D.int).map T.sh) = _; rw [chL]; rfl))) rfl rfl (aA rfl)) (t2 := .lst (([(0 : Int)].map L3.D.int).map T.sh)) rfl) ?_
 refine aU E.g E.cY (bW aZ (akV _)) ?_
 have aI : ∀ (l : List Int) (x : Int), (l.map L3.D.int).map T.sh ++ [T.sh (.int x)] = ((l ++ [x]).map L3.D.int).map T.sh := by intros; simp
 refine aby E.g (Wr E.g.nd E.g.calm E.aS E.AY) (fun j δ => ∃ o5 o6, δ = [some (.sh (bX bx nm i0 ps)), some (.sh (.lst [.int 0])), some (.sh (.int 0)), some (.sh (.str sg)), some (.lst (((Cj (uD ps sg j)).map .int).map T.sh)), o5, o6, some (.lst (([(0 : Int)].map .int).map T.sh))])
   (R8 (f := Ht) (l := ps) E4 E.Jt (uz E.aY E.cj (v_ E.aX.1) jH) E.Js) ⟨_, _, rfl⟩ (fun j δ ⟨_, _, e⟩ => by subst e; intro i hi; simp only [akB, akR, alD] at hi; rcases hi with rfl | rfl <;> exact akz rfl) ?turn ?fin
 case turn =>
   rintro j d δ hj ⟨o5, o6, rfl⟩
   obtain ⟨i, rfl, hi, him, KR, _, _⟩ := pC hj
   have ei : i = j := by
     rw [List.getElem?_range (by simpa using (List.getElem?_eq_some_iff.mp hi).1)] at hi
     exact (akU hi).symm
   subst ei
   have KR : i < ps.length := alF.mp him
   refine ⟨_, rfl, ?_⟩
   show eL X CL b _ _ { nx := fun δ => ∃ o5 o6, δ = [_, _, _, _, some (.lst (((Cj (uD ps sg (i + 1))).map .int).map T.sh)), o5, o6, _], rt := _, bk := _, ct := _ }
   rw [PV]
   have hfl := IU ps sg i
   generalize uD ps sg i = fl at hfl ⊢
   refine m8 (RG (zS (jC (b9 (bD E.AY) (aq (gP E.acu E.acs)) (bE (j := 1) rfl)) (bD E.lN)).1 (fun _ => zS (Nz (l := [0]) (b9 (bD E.AY) (aq (gP E.wk E.Uj)) (bE (j := 0) rfl)) (vL E.Lk.1) rfl rfl).1 (fun _ => Ez (Nr (aV (c_ ([0] : List Int) E.acv E.Lp (au (b9 (bD E.AY) (aq (gP E.Lr E.Lq)) (bE (j := 2) rfl)) (au (bD E.cO) bz)) trivial rfl) (t2 := .sh (.bl true)) rfl)))))) (fun hp => ?_) (fun hp => aO (aO ?_))
   . have hp : decide ((ps.getD i E4).1 = sg) = true := by
       rw [alf] at hp
       exact hp.1
     refine mF E.cY.1 rfl (v_ E.aS.1) rfl (by simp [Cj]; omega) (aO (aO ?_))
     rw [aI, akJ hp]
     unfold Cj
     rw [akM]
     exact ⟨_, _, rfl⟩
   . have hp : decide ((ps.getD i E4).1 = sg) = false := by
       cases e : decide ((ps.getD i E4).1 = sg) with
       | false => rfl
       | true => rw [e] at hp; exact absurd hp (by decide)
     rw [akH (by rw [hp]; decide), akK]
     exact ⟨_, _, rfl⟩
 case fin =>
   rintro δ ⟨o5, o6, rfl⟩
   rw [akD, List.length_range]
   have hfl := IU ps sg ps.length
   refine cu (aV (Ad (y := "way") (g := fun _ => (0 : Int)) E.lam E.g E.dp E.gW E.gU (cS (.cons E.aX.1 (.inl E.mV) (.cons E.Lk.1 (.inl E.acr) .nil)) (by decide +kernel)) (vL E.cY.1) (dO _) (by simp [Cj]; omega) (fun f c s0 H0 b' d hd => ?key)) ?eq) rfl
   case key =>
     obtain ⟨x, hx, rfl⟩ := ak2.mp hd
     obtain ⟨k, hk, rfl⟩ := ak2.mp hx
     have hk := Am hk
     exact aq (aV (SR (l := [0]) (j := 0) (ad9 (aq (v_ (EW (i := 2) rfl (by decide +kernel)))) (di _)) (b9 (fh (dX (by exact E.aY) (by exact E.cj) (aq (v_ (EW (i := 1) rfl (by decide +kernel)))) jH) (aq (v_ (SM (i := 0) rfl (by decide +kernel)))) (qT (f := Ht) E4 (by omega) (by omega))) (aq (gP (by exact E.wk) (KY (by decide +kernel)))) (bE (j := 0) rfl)) rfl (fun i hi => absurd hi (Nat.not_lt_zero i))) rfl)
   case eq =>
     rw [E6]
theorem cA : lG (ao wA) ([("chart", .cell), ("opens", av), ("leaf", av), ("sign", av), ("found", av), ("number", av), ("way", av), ("line", .cell), ("above", aH), ("enumerate", aH), ("SIGN", aH), ("SOURCE", aH), ("fits", aH), ("ASKS", aH), ("sorted", aH)]) = true := by decide +kernel
theorem D6 : aM ["chart", "opens", "leaf", "sign", "found", "number", "way", "line"] ["chart", "opens", "leaf", "sign"] (ao wA) := aW
noncomputable abbrev p9 : Stmt := top 22
noncomputable abbrev uI : Type := L3.D
noncomputable def kN : uI -> List L3.D := fun bs => [.tup [], bs]
noncomputable def kO : uI -> Prop := fun bs => True
noncomputable def kP : uI -> T := fun bs => (.sh (.bl true) : T)
structure Ls (X : Cx) (CL : Str -> Addr) : Prop extends cy X where
 Lj : Ln X 0 "asks"
 cB : Ln X 1 "boxes"
 Uh : Ln X 2 "ask"
theorem Lv {X : Cx} {CL : Str -> Addr} {b : Bx} (E : Ls X CL) (bs) (h : kO bs) :
   aE X CL b p9 ["asks", "boxes", "ask"] (kN bs) (kP bs) := by
 dsimp only [aE, kO, kN, kP] at h ⊢
 refine iI E.g E.Uh (fun j δ => ∃ o, δ = [some (.sh (.tup [])), some (.sh bs), o])
   (zV (v_ E.Lj.1)) ⟨_, rfl⟩ (fun j δ ⟨_, e⟩ => by subst e; exact akz rfl) (fun j d δ hj => by simp at hj) ?fin
 case fin =>
   rintro δ ⟨o, rfl⟩
   exact cu Nn rfl
theorem rJ : lG (ao p9) ([("asks", av), ("boxes", av), ("ask", av)]) = true := by decide +kernel
theorem yI : aM ["asks", "boxes", "ask"] ["asks", "boxes"] (ao p9) := aW
noncomputable abbrev jU : Stmt := top 26
noncomputable abbrev nu : Type := List L3.D × List L3.D × List bC × List LW × Int
noncomputable def ic : nu -> List L3.D := fun (bx, nm, i0, ps, k) => [bX bx nm i0 ps, .int k]
noncomputable def fD : nu -> Prop := fun (bx, nm, i0, ps, k) => 0 <= k /\ k < ps.length
noncomputable def ig : nu -> T := fun (bx, nm, i0, ps, k) => (.sh (.tup []) : T)
structure Cu (X : Cx) (CL : Str -> Addr) : Prop extends cy X where
 aX : Ln X 0 "chart"
 AY : Ln X 1 "way"
 vQ : Gl X "tuple"
 Lq : Gl X "ASKS"
 vR : X.mg "tuple" = none
 Lr : ∃ u, X.mg "ASKS" = some (.int 2 u)
 aY : iP X.K (CL "Chart")
 cj : aF X.K (CL "Chart") "ways"
theorem Cv {X : Cx} {CL : Str -> Addr} {b : Bx} (E : Cu X CL) (bx nm i0 ps k) (h : fD (bx, nm, i0, ps, k)) :
   aE X CL b jU ["chart", "way"] (ic (bx, nm, i0, ps, k)) (ig (bx, nm, i0, ps, k)) := by
 dsimp only [aE, fD, ic, ig] at h ⊢
 obtain ⟨k0, k1⟩ := h
 refine cu (xq E.vR (Wh (aV (mK (p := fun d => true) (g := fun d => T.sh d) (cS .nil (by decide +kernel)) E.g.calm (zV (jE (Kz (uz E.aY E.cj (v_ E.aX.1) jH) (bD E.AY) (qT (f := Ht) E4 k0 k1)) (aq (gP E.Lr E.Lq)) (bE (j := 2) rfl))) (.inr rfl) (fun C s0 H0 f0 b' d hd => by cases hd) (akV _)) (t2 := .lst (([] : List L3.D).map T.sh)) rfl) rfl) rfl E.vQ) rfl
theorem ja : lG (ao jU) ([("chart", av), ("way", av), ("tuple", aH), ("ASKS", aH)]) = true := by decide +kernel
theorem rK : aM ["chart", "way"] ["chart", "way"] (ao jU) := aW
noncomputable def kd1 (l : List Int) : List (Key × L3.D) := l.map fun s => ((Sum.inl s : Key), L3.D.bl true)
theorem Ul (l : List Int) : ((kd1 l).map (·.1)).map Ph = l.map L3.D.int := by
 unfold kd1
 rw [alc, alc]
 rfl
noncomputable abbrev zF : Stmt := top 28
noncomputable abbrev FD : Type := List L3.D × List L3.D × List bC × List LW × L3.D × Str
noncomputable def tK : FD -> List L3.D := fun (bx, nm, i0, ps, bs, sg) => [bX bx nm i0 ps, .lst [.int 0], bs, .str sg]
noncomputable def tL : FD -> Prop := fun (bx, nm, i0, ps, bs, sg) => ps.length <= 63
noncomputable def tM : FD -> T := fun (bx, nm, i0, ps, bs, sg) => (.lst (((Hv ps sg).map .int).map T.sh) : T)
structure XQ (X : Cx) (CL : Str -> Addr) : Prop extends cy X where
 aX : Ln X 0 "chart"
 cO : Ln X 1 "opens"
 cB : Ln X 2 "boxes"
 lN : Ln X 3 "sign"
 cY : Ln X 4 "found"
 AX : Ln X 5 "leaf"
 aS : Ln X 6 "number"
 ny : Gl X "open_leaves"
 wB : Gl X "goable"
 uJ : Gl X "all_hold"
 nA : Gl X "number_asks"
 cF : Gl X "list"
 Cw : Fc X CL "open_leaves" 1 2 g9 fC ia
 oM : Fc X CL "goable" 2 4 pY pZ lM
 Lw : Fc X CL "all_hold" 1 2 kN kO kP
 Cy : Fc X CL "number_asks" 1 2 ic fD ig
 cG : X.mg "list" = none
theorem XR {X : Cx} {CL : Str -> Addr} {b : Bx} (E : XQ X CL) (bx nm i0 ps bs sg) (h : tL (bx, nm, i0, ps, bs, sg)) :
   aE X CL b zF ["chart", "opens", "boxes", "sign", "found", "leaf", "number"] (tK (bx, nm, i0, ps, bs, sg)) (tM (bx, nm, i0, ps, bs, sg)) := by
 dsimp only [aE, tL, tK, tM] at h ⊢
 have ZO := h
 refine aU E.g E.cY WK ?_
 have hpl := zk ps sg
 refine iI E.g E.AX (fun j δ => ∃ o5 o6, δ = [some (.sh (bX bx nm i0 ps)), some (.sh (.lst [.int 0])), some (.sh bs), some (.sh (.str sg)), some (.oj (kd1 ((Hv ps sg).take j))), o5, o6])
   (dh (fS (ds := [.int 0]) (aV (c_ (bx, nm, Xi, Hu, Hu, [L3.D.tup (i0.map bC.d)], [L3.D.tup []], ps.map Ht, ([0] : List Int)) E.Cw E.ny (au (bD E.aX) (au (bD E.cO) bz)) (by dsimp only [fC]; exact ⟨by decide, fun x hx => by rw [List.mem_singleton.mp hx]; exact ⟨by decide, by decide⟩⟩) (cT _)) (t2 := .lst [.sh (.int 0)]) (by show T.lst (((lvM Xi [0]).map L3.D.int).map T.sh) = _; rw [show lvM Xi [0] = [0] by decide +kernel]; rfl)))) ⟨_, _, rfl⟩ (fun j δ ⟨_, _, e⟩ => by subst e; exact Nat.le_of_ble_eq_true rfl) ?turn ?fin
 case turn =>
   rintro j d δ hj ⟨o5, o6, rfl⟩
   have hj0 : j = 0 := by
     have := (ak7.mp hj).1
     simpa using this
   subst hj0
   cases hj
   show eL X CL b _ _ { nx := fun δ => ∃ o5 o6, δ = [_, _, _, _, some (.oj (kd1 ((Hv ps sg).take 1))), o5, o6], rt := _, bk := _, ct := _ }
   rw [al3 hpl]
   have hgo : lM (bx, nm, i0, ps, sg) = T.lst (((Cj (uD ps sg ps.length)).map .int).map T.sh) := rfl
   have hgm : ∀ k ∈ Cj (uD ps sg ps.length), 0 <= k /\ k < ps.length := fun k hk => by
     obtain ⟨n, hn, rfl⟩ := ak2.mp hk
     have := Am hn
     omega
   unfold Hv
   generalize Cj (uD ps sg ps.length) = go at hgm hgo ⊢
   refine iI E.g E.aS (fun i δ => ∃ o6, i = 0 /\ δ = [some (.sh (bX bx nm i0 ps)), some (.sh (.lst [.int 0])), some (.sh bs), some (.sh (.str sg)), some (.oj []), some (.sh (.int 0)), o6])
     (dh (fS (ds := go.map .int) (aV (c_ (bx, nm, i0, ps, sg) E.oM E.wB (au (bD E.aX) (au (bD E.cO) (au (bD E.AX) (au (bD E.lN) bz)))) ZO (by rw [hgo]; exact cT _)) hgo))) ⟨_, rfl, rfl⟩ (fun j δ ⟨_, _, e⟩ => by subst e; exact akz rfl) ?T3 ?fin2
   case T3 =>
     rintro i d δ hi ⟨o6, rfl, rfl⟩
     obtain ⟨k, rfl, hki, hkm, _, _, _⟩ := pC hi
     obtain ⟨k0, k1⟩ := hgm k hkm
     refine m8 (Nr (aV (c_ bs E.Lw E.uJ (au (aq (aV (c_ (bx, nm, i0, ps, k) E.Cy E.nA (au (bD E.aX) (au (bD E.aS) bz)) (by dsimp only [fD]; exact ⟨k0, k1⟩) rfl) (t2 := .sh (.tup [])) rfl)) (au (bD E.cB) bz)) trivial rfl) (t2 := .sh (.bl true)) rfl)) (fun hp => ?_) (fun hp => by cases hp)
     refine abK (.inl k) E.u E.cY.1 Nn (bD E.aS) rfl (akV _) (Wq (aO ⟨some (.sh (.int 0)), some (.sh (.int k)), ?_⟩))
     have e : go.take 1 = [k] := by
       cases go with
       | nil => cases hki
       | cons x r => cases hki; rfl
     rw [e]
     rfl
   case fin2 =>
     rintro δ ⟨o6, h0, rfl⟩
     have e : go = [] := by
       rw [akD] at h0
       exact amq.mp h0
     subst e
     exact aO ⟨_, _, rfl⟩
 case fin =>
   rintro δ ⟨o5, o6, rfl⟩
   refine cu (aV (Sd E.g E.cG (vE E.cY.1 rfl (by rw [T.fc])) E.cF) (t2 := .lst (((Hv ps sg).map .int).map T.sh)) ?_) rfl
   rw [Ul]
   show T.lst ((((Hv ps sg).take 1).map L3.D.int).map T.sh) = _
   rw [al3 hpl]
theorem fE : lG (ao zF) ([("chart", av), ("opens", av), ("boxes", av), ("sign", av), ("found", av), ("leaf", av), ("number", av), ("open_leaves", aH), ("goable", aH), ("all_hold", aH), ("number_asks", aH), ("list", aH)]) = true := by decide +kernel
theorem Ju : aM ["chart", "opens", "boxes", "sign", "found", "leaf", "number"] ["chart", "opens", "boxes", "sign"] (ao zF) := aW
noncomputable abbrev qa : Stmt := top 43
noncomputable abbrev uK : Type := L3.D × L3.D
noncomputable def kQ : uK -> List L3.D := fun (c, o) => [c, o, .lst []]
noncomputable def kR : uK -> Prop := fun (c, o) => True
noncomputable def kT : uK -> T := fun (c, o) => (.lst [] : T)
structure Lx (X : Cx) (CL : Str -> Addr) : Prop extends cy X where
 aX : Ln X 0 "chart"
 cO : Ln X 1 "opens"
 jb : Ln X 2 "going"
 qb : Ln X 3 "gone"
 aS : Ln X 4 "number"
 gU : Gl X "sorted"
 gW : X.mg "sorted" = none
 aY : iP X.K (CL "Chart")
 cg : aF X.K (CL "Chart") "tree"
theorem Ly {X : Cx} {CL : Str -> Addr} {b : Bx} (E : Lx X CL) (c o) (h : kR (c, o)) :
   aE X CL b qa ["chart", "opens", "going", "gone", "number"] (kQ (c, o)) (kT (c, o)) := by
 dsimp only [aE, kR, kQ, kT] at h ⊢
 refine aU E.g E.qb (bW aZ (akV _)) ?_
 refine iI E.g E.aS (fun j δ => ∃ o5, δ = [some (.sh c), some (.sh o), some (.sh (.lst [])), some (.lst []), o5])
   (dh (v_ E.jb.1)) ⟨_, rfl⟩ (fun j δ ⟨_, e⟩ => by subst e; exact akz rfl) (fun j d δ hj => by simp at hj) ?fin
 case fin =>
   rintro δ ⟨o5, rfl⟩
   exact cu (aV (KN (l := []) E.gW (vL E.qb.1) (by decide) E.gU) (t2 := .lst []) rfl) rfl
theorem iM : lG (ao qa) ([("chart", av), ("opens", av), ("going", av), ("gone", av), ("number", av), ("sorted", aH)]) = true := by decide +kernel
theorem yJ : aM ["chart", "opens", "going", "gone", "number"] ["chart", "opens", "going"] (ao qa) := aW
noncomputable abbrev kU : Stmt := top 38
noncomputable abbrev qc : Type := Nat
noncomputable def jc : qc -> List L3.D := fun u => [Al, .lst [.int (-1)], .lst [.int 0], .lst []]
noncomputable def jd : qc -> Prop := fun u => True
noncomputable def je : qc -> T := fun u => (.lst [.sh (.int (-1))] : T)
structure FE (X : Cx) (CL : Str -> Addr) : Prop extends cy X where
 ku : Ln X 0 "tree"
 eY : Ln X 1 "memory"
 cO : Ln X 2 "opens"
 XS : Ln X 3 "moods"
 bY : Ln X 4 "behind"
 f9 : Ln X 5 "mood"
 mU : Ln X 6 "elder"
 cF : Gl X "list"
 cG : X.mg "list" = none
 iY : iP X.K (CL "Tree")
 fN : aF X.K (CL "Tree") "elders"
 gC : aF X.K (CL "Tree") "kinds"
theorem FG {X : Cx} {CL : Str -> Addr} {b : Bx} (E : FE X CL) (u) (h : jd u) :
   aE X CL b kU ["tree", "memory", "opens", "moods", "behind", "mood", "elder"] (jc u) (je u) := by
 dsimp only [aE, jd, jc, je] at h ⊢
 refine aU E.g E.bY (aV (lE E.cG (v_ E.eY.1) E.cF bQ) (t2 := .lst [.sh (.int (-1))]) rfl) ?_
 refine iI E.g E.f9 (fun j δ => ∃ o5 o6, δ = [some (.sh Al), some (.sh (.lst [.int (-1)])), some (.sh (.lst [.int 0])), some (.sh (.lst [])), some (.lst [.sh (.int (-1))]), o5, o6])
   (dh (v_ E.cO.1)) ⟨_, _, rfl⟩ (fun j δ ⟨_, _, e⟩ => by subst e; exact akz rfl) ?turn ?fin
 case turn =>
   rintro j d δ hj ⟨o5, o6, rfl⟩
   have hj0 : j = 0 := by
     have := (ak7.mp hj).1
     simpa using this
   subst hj0
   cases hj
   refine aU E.g E.mU (fP (d := .int (-1)) (fh (dX E.iY E.fN (bD E.ku) qX) (bD E.f9) (bE (j := 0) rfl)) rfl) ?_
   refine m8 (RG (zS (q := true) (Nz (l := []) (bD E.mU) (bD E.XS) rfl rfl).1 (fun hp => absurd hp (by decide)))) (fun hp => absurd hp (by decide)) (fun hp => aO (aO ⟨_, _, rfl⟩))
 case fin =>
   rintro δ ⟨o5, o6, rfl⟩
   exact cu (vM E.bY.1) rfl
theorem dB : lG (ao kU) ([("tree", av), ("memory", av), ("opens", av), ("moods", av), ("behind", av), ("mood", av), ("elder", av), ("list", aH)]) = true := by decide +kernel
theorem ua : aM ["tree", "memory", "opens", "moods", "behind", "mood", "elder"] ["tree", "memory", "opens", "moods"] (ao kU) := aW
noncomputable abbrev jV : Stmt := top 44
noncomputable abbrev nB : Type := L3.D × L3.D
noncomputable def iu : nB -> List L3.D := fun (c, o) => [c, o, .lst []]
noncomputable def iy : nB -> Prop := fun (c, o) => True
noncomputable def iz : nB -> T := fun (c, o) => (.lst [] : T)
structure Cz (X : Cx) (CL : Str -> Addr) : Prop extends cy X where
 aX : Ln X 0 "chart"
 eY : Ln X 1 "memory"
 jb : Ln X 2 "going"
 rq : Ln X 3 "come"
 aS : Ln X 4 "number"
 AY : Ln X 5 "way"
 Jo : Gl X "TARGET"
 ahl : Gl X "MODE"
 gU : Gl X "sorted"
 Jp : ∃ u, X.mg "TARGET" = some (.int 4 u)
 ahm : ∃ u, X.mg "MODE" = some (.int 5 u)
 gW : X.mg "sorted" = none
 aY : iP X.K (CL "Chart")
 cj : aF X.K (CL "Chart") "ways"
 cg : aF X.K (CL "Chart") "tree"
theorem CB {X : Cx} {CL : Str -> Addr} {b : Bx} (E : Cz X CL) (c o) (h : iy (c, o)) :
   aE X CL b jV ["chart", "memory", "going", "come", "number", "way"] (iu (c, o)) (iz (c, o)) := by
 dsimp only [aE, iy, iu, iz] at h ⊢
 refine aU E.g E.rq (bW aZ (akV _)) ?_
 refine iI E.g E.aS (fun j δ => ∃ o5 o6, δ = [some (.sh c), some (.sh o), some (.sh (.lst [])), some (.lst []), o5, o6])
   (dh (v_ E.jb.1)) ⟨_, _, rfl⟩ (fun j δ ⟨_, _, e⟩ => by subst e; exact akz rfl) (fun j d δ hj => by simp at hj) ?fin
 case fin =>
   rintro δ ⟨o5, o6, rfl⟩
   exact cu (aV (uA (l := []) E.gW (vL E.rq.1) (by decide) E.gU) (t2 := .lst []) rfl) rfl
theorem cH : lG (ao jV) ([("chart", av), ("memory", av), ("going", av), ("come", av), ("number", av), ("way", av), ("TARGET", aH), ("MODE", aH), ("sorted", aH)]) = true := by decide +kernel
theorem rL : aM ["chart", "memory", "going", "come", "number", "way"] ["chart", "memory", "going"] (ao jV) := aW
noncomputable abbrev qd : Stmt := top 45
noncomputable abbrev uL : Type := L3.D × L3.D × L3.D
noncomputable def kW : uL -> List L3.D := fun (c, m, n) => [c, .lst [], m, n]
noncomputable def kX : uL -> Prop := fun (c, m, n) => True
noncomputable def kY : uL -> T := fun (c, m, n) => (.lst [] : T)
structure Lz (X : Cx) (CL : Str -> Addr) : Prop extends cy X where
 aX : Ln X 0 "chart"
 qb : Ln X 1 "gone"
 eY : Ln X 2 "memory"
 bY : Ln X 3 "behind"
 bq : Ln X 4 "rows"
 f9 : Ln X 5 "mood"
 aY : iP X.K (CL "Chart")
 wC : aF X.K (CL "Chart") "outs"
theorem LC {X : Cx} {CL : Str -> Addr} {b : Bx} (E : Lz X CL) (c m n) (h : kX (c, m, n)) :
   aE X CL b qd ["chart", "gone", "memory", "behind", "rows", "mood"] (kW (c, m, n)) (kY (c, m, n)) := by
 dsimp only [aE, kX, kW, kY] at h ⊢
 refine aU E.g E.bq (bW aZ (akV _)) ?_
 refine iI E.g E.f9 (fun j δ => ∃ o5, δ = [some (.sh c), some (.sh (.lst [])), some (.sh m), some (.sh n), some (.lst []), o5])
   (dh (v_ E.qb.1)) ⟨_, rfl⟩ (fun j δ ⟨_, e⟩ => by subst e; exact akz rfl) (fun j d δ hj => by simp at hj) ?fin
 case fin =>
   rintro δ ⟨o5, rfl⟩
   exact cu (vM E.bq.1) rfl
theorem iN : lG (ao qd) ([("chart", av), ("gone", av), ("memory", av), ("behind", av), ("rows", av), ("mood", av)]) = true := by decide +kernel
theorem yK : aM ["chart", "gone", "memory", "behind", "rows", "mood"] ["chart", "gone", "memory", "behind"] (ao qd) := aW
noncomputable def LD (ps : List LW) (so : List Int) : List L3.D := so.flatMap fun k => L3.D.tup [.str "way", .int k] :: (ps.getD k.toNat E4).2.map bC.d
theorem zG (ps : List LW) (so : List Int) : D.bS (LD ps so) = true := kI fun d hd => by
 obtain ⟨k, _, hd⟩ := List.mem_flatMap.mp hd
 rcases akB.mp hd with rfl | hd
 . rfl
 . obtain ⟨q, _, rfl⟩ := ak2.mp hd
   exact vO q
theorem acw (ps : List LW) (sg : Str) : LD ps (Hv ps sg) = (yG ps sg).map It.d := by
 unfold LD yG
 rw [List.map_flatMap]
 refine congrArg (fun f => (Hv ps sg).flatMap f) (funext fun k => ?_)
 rw [akP, alc]
 rfl
noncomputable abbrev qe : Stmt := top 46
noncomputable abbrev uM : Type := List L3.D × List L3.D × List bC × List LW × List Int
noncomputable def kZ : uM -> List L3.D := fun (bx, nm, i0, ps, so) => [bX bx nm i0 ps, .lst (so.map .int)]
noncomputable def jf : uM -> Prop := fun (bx, nm, i0, ps, so) => so.length <= 1 /\ (∀ i ∈ so, 0 <= i /\ i < ps.length) /\ ∀ p ∈ ps, p.2.length <= 20
noncomputable def k6 : uM -> T := fun (bx, nm, i0, ps, so) => (.lst ((LD ps so).map T.sh) : T)
structure LJ (X : Cx) (CL : Str -> Addr) : Prop extends cy X where
 aX : Ln X 0 "chart"
 kB : Ln X 1 "ways"
 bq : Ln X 2 "rows"
 aS : Ln X 3 "number"
 XT : Gl X "DEEDS"
 XU : ∃ u, X.mg "DEEDS" = some (.int 3 u)
 aY : iP X.K (CL "Chart")
 cj : aF X.K (CL "Chart") "ways"
theorem LK {X : Cx} {CL : Str -> Addr} {b : Bx} (E : LJ X CL) (bx nm i0 ps so) (h : jf (bx, nm, i0, ps, so)) :
   aE X CL b qe ["chart", "ways", "rows", "number"] (kZ (bx, nm, i0, ps, so)) (k6 (bx, nm, i0, ps, so)) := by
 dsimp only [aE, jf, kZ, k6] at h ⊢
 obtain ⟨hl, hs, hp⟩ := h
 refine aU E.g E.bq (bW aZ (akV _)) ?_
 refine iI E.g E.aS (fun j δ => ∃ o, δ = [some (.sh (bX bx nm i0 ps)), some (.sh (.lst (so.map .int))), some (.lst ((LD ps (so.take j)).map T.sh)), o])
   (dh (v_ E.kB.1)) ⟨_, rfl⟩ (fun j δ ⟨_, e⟩ => by subst e; exact akz rfl) ?turn ?fin
 case turn =>
   rintro j d δ hj ⟨o, rfl⟩
   obtain ⟨i, rfl, _, hi, NS, _, NK⟩ := pC hj
   obtain ⟨i0', i1⟩ := hs i hi
   have hj0 : j = 0 := by omega
   subst hj0
   have d1 : (ps.getD i.toNat E4).2.length <= 20 := by
     rw [ale, akX (by omega)]
     exact hp _ (List.getElem_mem _)
   refine mF E.bq.1 rfl (bU (aJ bf (aJ (v_ E.aS.1) cN)) (aA rfl)) rfl (akV _) ?_
   refine Sg E.bq.1 rfl (b9 (fh (dX E.aY E.cj (bD E.aX) jH) (bD E.aS) (qT (f := Ht) E4 i0' i1)) (aq (gP E.XU E.XT)) (bE (j := 3) rfl)) (ow _) rfl (by rw [akD]; show 1 + (ps.getD i.toNat E4).2.length <= _; omega) (aO ⟨some (.sh (.int i)), ?_⟩)
   rw [NK, al9, alA]
   unfold LD
   rw [alI, alO, akK]
   rfl
 case fin =>
   rintro δ ⟨o, rfl⟩
   rw [akD, aly]
   exact cu (vM E.bq.1) rfl
theorem j9 : lG (ao qe) ([("chart", av), ("ways", av), ("rows", av), ("number", av), ("DEEDS", aH)]) = true := by decide +kernel
theorem yL : aM ["chart", "ways", "rows", "number"] ["chart", "ways"] (ao qe) := aW
noncomputable abbrev zH : Stmt := top 41
noncomputable abbrev FH : Type := List L3.D × List L3.D × List bC × List LW × List Int
noncomputable def tN : FH -> List L3.D := fun (bx, nm, i0, ps, so) => [bX bx nm i0 ps, .lst [.int 0], .lst [.int (-1)], .lst (so.map .int)]
noncomputable def oN : FH -> Prop := fun (bx, nm, i0, ps, so) => so.length <= 1 /\ (∀ i ∈ so, 0 <= i /\ i < ps.length) /\ (∀ p ∈ ps, p.2.length <= 20) /\ i0.length <= 100
noncomputable def tO : FH -> T := fun (bx, nm, i0, ps, so) => (.tup [.lst ((LD ps so).map T.sh), .lst [.sh (.int 0)], .lst [.sh (.int (-1))]] : T)
structure XW (X : Cx) (CL : Str -> Addr) : Prop extends cy X where
 aX : Ln X 0 "chart"
 mV : X.env.kindOf "chart" = some .cell
 cO : Ln X 1 "opens"
 eY : Ln X 2 "memory"
 kB : Ln X 3 "ways"
 jb : Ln X 4 "going"
 qb : Ln X 5 "gone"
 acy : X.env.kindOf "gone" = some .cell
 bY : Ln X 6 "behind"
 rq : Ln X 7 "come"
 cz : Ln X 8 "script"
 uN : Gl X "all_left"
 qf : Gl X "remembered"
 nE : Gl X "all_entered"
 uO : Gl X "out_rows"
 uP : Gl X "way_rows"
 oF : Gl X "in_rows"
 gU : Gl X "sorted"
 LN : Fc X CL "all_left" 1 3 kQ kR kT
 FI : Fc X CL "remembered" 1 4 jc jd je
 CD : Fc X CL "all_entered" 1 3 iu iy iz
 LQ : Fc X CL "out_rows" 1 4 kW kX kY
 LR : Fc X CL "way_rows" 1 2 kZ jf k6
 xN : Fc X CL "in_rows" 1 2 j7 gb j8
 gW : X.mg "sorted" = none
 pX : Fc X CL "has_target" 1 2 gj dR gk
 aY : iP X.K (CL "Chart")
 cg : aF X.K (CL "Chart") "tree"
theorem XY {X : Cx} {CL : Str -> Addr} {b : Bx} (E : XW X CL) (bx nm i0 ps so) (h : oN (bx, nm, i0, ps, so)) :
   aE X CL b zH ["chart", "opens", "memory", "ways", "going", "gone", "behind", "come", "script"] (tN (bx, nm, i0, ps, so)) (tO (bx, nm, i0, ps, so)) := by
 dsimp only [aE, oN, tN, tO] at h ⊢
 obtain ⟨hl, hs, hp, hi⟩ := h
 refine KP (p := fun d => false) (gg := fun d => T.sh d) E.g E.jb (cS (.cons E.aX.1 (.inl E.mV) .nil) (by decide +kernel)) (dh (v_ E.kB.1)) (.inr rfl) (fun C s0 H0 f0 b' d hd => ?ahn) (alj (cI (by simp; omega))) ?rest (by exact akz rfl) (zW ⟨_, rfl⟩)
 case ahn =>
   obtain ⟨i, hi, rfl⟩ := ak2.mp hd
   exact ⟨Nr (c_ (bx, nm, i0, ps, i) (Nu E.pX) (o9 (by decide +kernel)) (au (aq (v_ (uy (i := 1) rfl (by decide +kernel)))) (au (aq (v_ (jG (i := 0) rfl (by decide +kernel)))) bz)) (by dsimp only [dR]; exact hs i hi) rfl), fun z => by cases z⟩
 case rest =>
 have acz : (((so.map L3.D.int).filter (fun d => false)).map fun d => T.sh d) = [] := by
   rw [List.filter_eq_nil_iff.mpr (fun _ _ => by decide)]
   rfl
 rw [acz]
 refine aU E.g E.qb (fS (ds := []) (aV (c_ (bX bx nm i0 ps, .lst [.int 0]) E.LN E.uN (au (bD E.aX) (au (bD E.cO) (au (vL (ds := []) E.jb.1) bz))) trivial rfl) (t2 := .lst []) rfl)) ?_
 refine aU E.g E.bY (aV (c_ (0 : Nat) E.FI E.qf (au (dX E.aY E.cg (bD E.aX) lI) (au (bD E.eY) (au (bD E.cO) (au (bT (ds := []) (aV (mK (p := fun d => true) (g := fun d => T.sh d) (cS (.cons E.aX.1 (.inl E.mV) .nil) (by decide +kernel)) E.g.calm (dh (v_ E.qb.1)) (.inr rfl) (fun C s0 H0 f0 b' d hd => by cases hd) (akV _)) (t2 := .lst []) rfl)) bz)))) trivial rfl) (t2 := .lst [.sh (.int (-1))]) rfl) ?_
 refine aU E.g E.rq (aV (c_ (bX bx nm i0 ps, .lst [.int (-1)]) E.CD E.nE (au (bD E.aX) (au (vL (ds := [.int (-1)]) E.bY.1) (au (vL (ds := []) E.jb.1) bz))) trivial rfl) (t2 := .lst []) rfl) ?_
 have ZO : (LD ps so).length <= 100 := by
   match so, hl, hs with
   | [], _, _ => exact akV _
   | [k], _, hs =>
     obtain ⟨k0, k1⟩ := hs k akA
     have : (ps.getD k.toNat E4).2.length <= 20 := by
       rw [ale, akX (by omega)]
       exact hp _ (List.getElem_mem _)
     unfold LD
     rw [alI, alO, akK, akZ, akD]
     omega
 refine aU E.g E.cz (aV (mH (ds := LD ps so) (zZ := []) (bT (ds := LD ps so) (aV (mH (ds := []) (zZ := LD ps so) (bT (ds := []) (aV (c_ (bX bx nm i0 ps, .lst [.int (-1)], .lst [.int (-1)]) E.LQ E.uO (au (bD E.aX) (au (bD E.qb) (au (bD E.eY) (au (vL (ds := [.int (-1)]) E.bY.1) bz)))) trivial rfl) (t2 := .lst []) rfl))
   (bT (aV (c_ (bx, nm, i0, ps, so) E.LR E.uP (au (bD E.aX) (au (bD E.kB) bz)) (by dsimp only [jf]; exact ⟨hl, hs, hp⟩) (dQ (zG _ _))) (t2 := .lst ((LD ps so).map T.sh)) rfl)) rfl (zG _ _) (Nat.le_of_lt (cI (by simp; omega)))) (t2 := .lst ((LD ps so).map T.sh)) rfl))
   (bT (ds := []) (aV (c_ (bx, nm, i0, ps, ([] : List Int)) E.xN E.oF (au (bD E.aX) (au (vL (ds := []) E.rq.1) bz)) (by dsimp only [gb]; exact ⟨by decide, fun m hm => (by cases hm), hi⟩) rfl) (t2 := .lst []) rfl)) (zG _ _) rfl (Nat.le_of_lt (cI (by simp; omega)))) (t2 := .lst ((LD ps so).map T.sh)) (by rw [List.append_nil])) ?_
 refine cu (oZ (aQ (vM E.cz.1) (aQ (aV (uA (l := [0]) E.gW (bT (ds := [.int 0]) (aV (mH (ds := [.int 0]) (zZ := []) (bT (ds := [.int 0]) (aV (mK (p := fun d => true) (g := fun d => T.sh d) (cS (.cons E.qb.1 (.inl E.acy) .nil) (by decide +kernel)) E.g.calm (dh (v_ E.cO.1)) (.inr rfl) (fun C s0 H0 f0 b' d hd => ?aho) (by rw [alb]; decide)) (t2 := .lst [.sh (.int 0)]) rfl)) (vL (ds := []) E.rq.1) rfl rfl (by rw [alb]; decide)) (t2 := .lst [.sh (.int 0)]) rfl)) (by decide) E.gU) (t2 := .lst [.sh (.int 0)]) rfl) (aQ (vM E.bY.1) aZ))) (aA rfl)) rfl
 case aho =>
   cases alg.mp hd
   exact ⟨(Wo (l := []) (aq (v_ (jG (i := 0) rfl (by decide +kernel)))) (aq (v_ (uy (i := 1) rfl (by decide +kernel)))) rfl rfl).1, fun _ => (v_ (jG (i := 0) rfl (by decide +kernel)))⟩
theorem cR : lG (ao zH) ([("chart", .cell), ("opens", av), ("memory", av), ("ways", av), ("going", av), ("gone", .cell), ("behind", av), ("come", av), ("script", av), ("all_left", aH), ("remembered", aH), ("all_entered", aH), ("out_rows", aH), ("way_rows", aH), ("in_rows", aH), ("sorted", aH)]) = true := by decide +kernel
theorem Jv : aM ["chart", "opens", "memory", "ways", "going", "gone", "behind", "come", "script"] ["chart", "opens", "memory", "ways"] (ao zH) := aW
noncomputable abbrev fV : Stmt := inClass (top 61) 1
noncomputable abbrev jg : Type := List L3.D × L3.D × List bC × List LW × List L3.D × List Int × (List (Str × L3.D)) × Str
noncomputable def eS : jg -> List L3.D := fun (bx, n0, i0, ps, pa, bs, ex, sg) => [.ins "NestRun" (oz (bX bx [n0] i0 ps) oU pa bs ex), .str sg]
noncomputable def c9 : jg -> Prop := fun (bx, n0, i0, ps, pa, bs, ex, sg) => ps.length <= 63 /\ (∀ p ∈ ps, p.2.length <= 20) /\ i0.length <= 100
noncomputable def eU : jg -> T := fun (bx, n0, i0, ps, pa, bs, ex, sg) => (.tup [.lst (((yG ps sg).map It.d).map T.sh), .tup [.lst [.sh (.int 0)], .lst [.sh (.int (-1))]]] : T)
structure wF (X : Cx) (CL : Str -> Addr) : Prop extends cy X where
 bK : Ln X 0 "self"
 lN : Ln X 1 "sign"
 cO : Ln X 2 "opens"
 kB : Ln X 3 "ways"
 FJ : Ln X 4 "move"
 FL : Gl X "kept"
 FN : Gl X "picks"
 FP : Gl X "moved"
 xP : Fc X CL "kept" 4 2 wg rG wj
 XZ : Fc X CL "picks" 3 4 tK tL tM
 X3 : Fc X CL "moved" 2 4 tN oN tO
 aY : iP X.K (CL "Chart")
 aN : iP X.K (CL "NestRun")
 cK : aF X.K (CL "NestRun") "place"
 fF : aF X.K (CL "NestRun") "chart"
 dz : aF X.K (CL "Chart") "boxes"
 bI : aF X.K (CL "NestRun") "boxes"
theorem wG {X : Cx} {CL : Str -> Addr} {b : Bx} (E : wF X CL) (bx n0 i0 ps pa bs ex sg) (h : c9 (bx, n0, i0, ps, pa, bs, ex, sg)) :
   aE X CL b fV ["self", "sign", "opens", "ways", "move"] (eS (bx, n0, i0, ps, pa, bs, ex, sg)) (eU (bx, n0, i0, ps, pa, bs, ex, sg)) := by
 dsimp only [aE, c9, eS, eU] at h ⊢
 obtain ⟨hl, hd, hi⟩ := h
 refine aU E.g E.cO (jE (uz E.aN E.cK (v_ E.bK.1) DZ) (aq aB) (bE (j := 0) rfl)) ?_
 refine aU E.g E.kB (aV (c_ (bx, [n0], i0, ps, Hv ps sg) E.xP E.FL (au (dX E.aN E.fF (bD E.bK) xG) (au (bT (aV (c_ (bx, [n0], i0, ps, .lst (bs.map .int), sg) E.XZ E.FN (au (dX E.aN E.fF (bD E.bK) xG) (au (bD E.cO) (au (dX E.aN E.bI (bD E.bK) xH) (au (bD E.lN) bz)))) hl (cT _)) (t2 := .lst (((Hv ps sg).map .int).map T.sh)) rfl)) bz)) (by dsimp only [rG]; exact ⟨zk ps sg, fun k hk => E5 hk⟩) (cT _)) (t2 := .lst (((Hv ps sg).map .int).map T.sh)) rfl) ?_
 refine aU E.g E.FJ (aV (c_ (bx, [n0], i0, ps, Hv ps sg) E.X3 E.FP (au (dX E.aN E.fF (bD E.bK) xG) (au (bD E.cO) (au (b9 (dX E.aN E.cK (bD E.bK) DZ) (aq aB) (bE (j := 1) rfl)) (au (vL E.kB.1) bz)))) (by dsimp only [oN]; exact ⟨zk ps sg, fun k hk => E5 hk, hd, hi⟩) (by show T.bV [T.lst _, T.lst _, T.lst _] = true; rw [T.bV, T.bV, T.bV, T.bV, dQ (zG _ _)]; rfl)) (t2 := .tup [.lst (((yG ps sg).map It.d).map T.sh), .lst [.sh (.int 0)], .lst [.sh (.int (-1))]]) (by rw [← acw]; rfl)) ?_
 exact cu (oZ (aQ (gB 0 E.FJ.1 rfl rfl) (aQ (oZ (aQ (gB 1 E.FJ.1 rfl rfl) (aQ (gB 2 E.FJ.1 rfl rfl) aZ)) (aA rfl)) aZ)) (aA rfl)) rfl
theorem bZ : lG (ao fV) ([("self", av), ("sign", av), ("opens", av), ("ways", av), ("move", av), ("kept", aH), ("picks", aH), ("moved", aH)]) = true := by decide +kernel
theorem lO : aM ["self", "sign", "opens", "ways", "move"] ["self", "sign"] (ao fV) := aW
noncomputable abbrev jh : Stmt := inClass (top 59) 2
noncomputable abbrev ji : Type := Addr × List L3.D × L3.D × List bC × List LW × List L3.D × List Int × Option (List L3.D) × List Str
noncomputable def dH : ji -> List T := fun (y, bx, n0, i0, ps, pa, bs, eo, cs) => [.pin y (.ins "NestRun" (cZ (bX bx [n0] i0 ps) oU pa bs (yU eo))), .sh (.lst (cs.map .str))]
noncomputable def cU : ji -> List T := fun (y, bx, n0, i0, ps, pa, bs, eo, cs) => [.pin y (.ins "NestRun" (cZ (bX bx [n0] i0 ps) oU pa (K6 ps cs bs) (yU eo))), .sh (.lst (cs.map .str))]
noncomputable def cV : ji -> Prop := fun (y, bx, n0, i0, ps, pa, bs, eo, cs) => Ck ps bs.length /\ i0.length <= 100 /\ cs.length <= 1000
noncomputable def dI : ji -> T := fun (y, bx, n0, i0, ps, pa, bs, eo, cs) => (.lst ((B6 ps cs bs).map T.sh) : T)
structure AZ (X : Cx) (CL : Str -> Addr) : Prop extends cy X where
 bK : Ln X 0 "self"
 gi : Ln X 1 "called"
 dG : Ln X 2 "waiting"
 bq : Ln X 3 "rows"
 f6 : Ln X 4 "many"
 lN : Ln X 5 "sign"
 jb : Ln X 6 "going"
 eF : Ln X 7 "step"
 cF : Gl X "list"
 FQ : Gl X "MOST_SIGNS"
 kg : Gl X "performed"
 qY : Gl X "len"
 cG : X.mg "list" = none
 FT : ∃ u, X.mg "MOST_SIGNS" = some (.int 8 u)
 rM : Fc X CL "performed" 5 2 gS eG gT
 qZ : X.mg "len" = none
 wH : Fq X CL "NestRun" "step_at" 5 2 eS c9 eU
 aY : iP X.K (CL "Chart")
 aN : iP X.K (CL "NestRun")
 cK : aF X.K (CL "NestRun") "place"
 dz : aF X.K (CL "Chart") "boxes"
 bI : aF X.K (CL "NestRun") "boxes"
theorem A0 {X : Cx} {CL : Str -> Addr} {b : Bx} (E : AZ X CL) (y bx n0 i0 ps pa bs eo cs) (h : cV (y, bx, n0, i0, ps, pa, bs, eo, cs)) :
   eL X CL b (dS jh) (xB ["self", "called", "waiting", "rows", "many", "sign", "going", "step"] (dH (y, bx, n0, i0, ps, pa, bs, eo, cs))) { nx := fun δ => dI (y, bx, n0, i0, ps, pa, bs, eo, cs) = .sh .non /\ Keeps δ (cU (y, bx, n0, i0, ps, pa, bs, eo, cs)), rt := fun WQ δ => WQ = dI (y, bx, n0, i0, ps, pa, bs, eo, cs) /\ Keeps δ (cU (y, bx, n0, i0, ps, pa, bs, eo, cs)) } := by
 dsimp only [cV, dH, dI, cU] at h ⊢
 obtain ⟨NF, hi, hc⟩ := h
 refine aU E.g E.dG (lE E.cG (v_ E.gi.1) E.cF bQ) ?_
 refine aU E.g E.bq (bW (tl := []) aZ (aA rfl)) ?_
 refine aU E.g E.f6 aB ?_
 refine EF E.g (fun m δ => ∃ (j : Nat) (o5 o6 o7 : Option T), m + j = 8 /\ δ = [some (.pin y (.ins "NestRun" (cZ (bX bx [n0] i0 ps) oU pa (wY ps j (cs, bs)).2.2 (yU eo)))), some (.sh (.lst (cs.map .str))), some (.lst (((wY ps j (cs, bs)).2.1.map .str).map T.sh)), some (.lst ((wY ps j (cs, bs)).1.map T.sh)), some (.sh (.int j)), o5, o6, o7]) 8 ⟨0, _, _, _, rfl, rfl⟩ ?loop
 case loop =>
   rintro m δ ⟨j, o5, o6, o7, hm, rfl⟩
   obtain ⟨k1, k2, k3, k4⟩ := E8 NF (cs := cs) (bs := bs) rfl j
   have TY := @IX ps (cs, bs) j
   have Jc := @As ps (cs, bs) j
   have hE : (wY ps j (cs, bs)).2.1 = [] \/ j = 8 -> wY ps 8 (cs, bs) = wY ps j (cs, bs) := fun z => by
     rcases z with z | z
     . have := TY z (8 - j)
       rwa [show j + (8 - j) = 8 by omega] at this
     . rw [z]
   unfold K6 B6
   generalize hs : wY ps j (cs, bs) = s at k1 k2 k3 k4 hE Jc ⊢
   obtain ⟨rs, w, cur⟩ := s
   dsimp only at k1 k2 k3 k4 hE ⊢
   refine ⟨_, _, RG (zS (SV (vL E.dG.1)) (fun _ => Ez (RB (bD E.f6) (aq (gP E.FT E.FQ))).1)), fun hp => ?_, fun hp => ?_⟩
   . rw [alf] at hp
     obtain ⟨hp1, hp2⟩ := hp
     have hj8 : (j : Int) < 8 := alv hp2
     cases w with
     | nil => cases hp1
     | cons sg w =>
       have HF := Jc (rs := rs) (sg := sg) (w := w) (bs := cur) rfl
       obtain ⟨s1, s2⟩ := TJ NF sg
       have s3 : (bP (yG ps sg)).length <= (yG ps sg).length := alE _ _
       rw [akZ] at k2
       refine abW E.g E.f6 rfl (aq aB) ?_
       refine ER E.g E.lN (S8 (t := .sh (.str sg)) (tl := (w.map L3.D.str).map T.sh) (gY E.dG.1 rfl) rfl rfl) ?_
       refine aU E.g E.jb (zc (d := .tup [.lst ((yG ps sg).map It.d), oU]) (aV (q_ (bx, n0, i0, ps, pa, cur, N1 eo, sg) E.wH (vE E.bK.1 rfl IV) (TF (by decide +kernel) (by decide +kernel) (by decide +kernel) (by decide +kernel) (by decide +kernel)) (au (bD E.lN) bz) rfl (by dsimp only [c9]; exact ⟨NF.l, NF.d, hi⟩) (by show T.bV [T.lst _, T.tup [T.lst _, T.lst _]] = true; rw [T.bV, T.bV, T.bV, dQ (iR Tv _)]; rfl)) (t2 := .tup [.lst (((yG ps sg).map It.d).map T.sh), .tup [.lst [.sh (.int 0)], .lst [.sh (.int (-1))]]]) rfl) (by rw [T.fc, T.iO, T.iO, T.iO, di]; rfl)) ?_
       refine aU E.g E.eF (aV (c_ (true, yG ps sg, cur) E.rM E.kg (au (b9 (bD E.jb) (aq aB) (bE (j := 0) rfl)) (au (dX E.aN E.bI (vE E.bK.1 rfl IV) xH) bz)) (by dsimp only [eG]; exact ⟨by omega, s2 cur k3⟩) (K4 (dO _) (E3 _ _) (iR (fun _ => rfl) _))) (t2 := .tup [.lst ((((yG ps sg).foldl It.af cur).map .int).map T.sh), .lst (((sI (yG ps sg) cur).map J.d).map T.sh), .lst (((bP (yG ps sg)).map .str).map T.sh)]) rfl) ?_
       refine lH E.aN E.cK E.bK.1 (jE (v_ E.jb.1) (aq aB) (bE (j := 1) rfl)) rfl (Aq _ _ _ _ _) ?_
       rw [PY]
       refine lH E.aN E.bI E.bK.1 (fS (gB 0 E.eF.1 rfl rfl)) rfl (Aq _ _ _ _ _) ?_
       rw [PZ]
       refine mF E.bq.1 rfl (bU (aJ bf (aJ (v_ E.lN.1) cN)) (aA rfl)) rfl (by rw [akD]; omega) ?_
       refine NP E.bq.1 rfl (gB 1 E.eF.1 rfl rfl) rfl (by simp [zj]; omega) ?_
       refine NP E.dG.1 rfl (gB 2 E.eF.1 rfl rfl) rfl (by simp; omega) (aO ⟨m - 1, by omega, j + 1, some (.sh (.str sg)), some (.sh (.tup [.lst ((yG ps sg).map It.d), oU])), some (.tup [.sh .any, .sh .any, .sh .any]), by omega, ?_⟩)
       rw [HF]
       dsimp only
       rw [akM, akM, akM, akP, akx]
       rfl
   . have hz : w = [] \/ j = 8 := by
       cases w with
       | nil => exact .inl rfl
       | cons sg w =>
         right
         have hp : (true && decide ((j : Int) < 8)) = false := hp
         have := alW ((Bool.true_and _).symm.trans hp)
         omega
     rw [hE hz]
     dsimp only
     refine m8 (SV (vL E.dG.1)) (fun hq => ?_) (fun hq => aO ?_)
     . have hw : w ≠ [] := by
         rintro rfl
         cases hq
       rw [akH hw]
       refine mF E.bq.1 rfl (bU (aJ bf (aJ (aV (zb E.qZ (vL E.dG.1) E.qY) (t2 := .sh (.int ((w.length : Nat) : Int))) (by rw [akD])) cN)) (aA rfl)) rfl (by rw [akD]; omega) (aO (cu (vM E.bq.1) ⟨?_, xF (ds := [_])⟩))
       rw [akM]
       rfl
     . have hw : w = [] := by
         cases w with
         | nil => rfl
         | cons sg w => cases hq
       subst hw
       rw [akJ rfl, akK]
       exact cu (vM E.bq.1) ⟨rfl, xF (ds := [_])⟩
theorem bJ : lG (ao jh) ([("self", av), ("called", av), ("waiting", av), ("rows", av), ("many", av), ("sign", av), ("going", av), ("step", av), ("list", aH), ("MOST_SIGNS", aH), ("performed", aH), ("len", aH)]) = true := by decide +kernel
theorem qA : aM ["self", "called", "waiting", "rows", "many", "sign", "going", "step"] ["self", "called"] (ao jh) := aW
noncomputable abbrev jW : Stmt := inClass (top 59) 0
noncomputable abbrev jX : Type := Addr × List L3.D × L3.D × List bC × List LW × List Int × List It
noncomputable def fG : jX -> List T := fun (y, bx, n0, i0, ps, bs, xs) => [.pin y (.ins "NestRun" [("chart", .sh (bX bx [n0] i0 ps))]), .sh (.lst (bs.map .int)), .sh oU, .sh (.lst (xs.map It.d))]
noncomputable def dY : jX -> List T := fun (y, bx, n0, i0, ps, bs, xs) => [.pin y (.ins "NestRun" (cZ (bX bx [n0] i0 ps) oU [] (K6 ps (bP xs) (xs.foldl It.af bs)) (yU (some ((sI xs bs).map J.d ++ B6 ps (bP xs) (xs.foldl It.af bs)))))), .sh (.lst (bs.map .int)), .sh oU, .sh (.lst (xs.map It.d))]
noncomputable def fH : jX -> Prop := fun (y, bx, n0, i0, ps, bs, xs) => Ck ps bs.length /\ i0.length <= 100 /\ xs.length <= 200 /\ (∀ x ∈ xs, x.ok bs)
noncomputable def fJ : jX -> T := fun (y, bx, n0, i0, ps, bs, xs) => (.sh .non : T)
structure CF (X : Cx) (CL : Str -> Addr) : Prop extends cy X where
 bK : Ln X 0 "self"
 cB : Ln X 1 "boxes"
 mR : Ln X 2 "place"
 cz : Ln X 3 "script"
 eF : Ln X 4 "step"
 kg : Gl X "performed"
 rM : Fc X CL "performed" 5 2 gS eG gT
 lP : FqM X CL "NestRun" "dealt" 6 2 dH cV dI cU
 aY : iP X.K (CL "Chart")
 aN : iP X.K (CL "NestRun")
 cK : aF X.K (CL "NestRun") "place"
 gn : aF X.K (CL "NestRun") "past"
 dz : aF X.K (CL "Chart") "boxes"
 bI : aF X.K (CL "NestRun") "boxes"
 gu : aF X.K (CL "NestRun") "first_rows"
theorem CG {X : Cx} {CL : Str -> Addr} {b : Bx} (E : CF X CL) (y bx n0 i0 ps bs xs) (h : fH (y, bx, n0, i0, ps, bs, xs)) :
   eL X CL b (dS jW) (xB ["self", "boxes", "place", "script", "step"] (fG (y, bx, n0, i0, ps, bs, xs))) { nx := fun δ => fJ (y, bx, n0, i0, ps, bs, xs) = .sh .non /\ Keeps δ (dY (y, bx, n0, i0, ps, bs, xs)), rt := fun WQ δ => WQ = fJ (y, bx, n0, i0, ps, bs, xs) /\ Keeps δ (dY (y, bx, n0, i0, ps, bs, xs)) } := by
 dsimp only [fH, fG, fJ, dY] at h ⊢
 obtain ⟨NF, hi, hx, hxo⟩ := h
 have hcl : (bP xs).length <= xs.length := alE _ _
 have hbl := uC xs bs
 have acA : Ck ps (xs.foldl It.af bs).length := by rw [hbl]; exact NF
 obtain ⟨d1, d2⟩ := TL acA (cs := bP xs) rfl
 refine lH E.aN E.cK E.bK.1 (v_ E.mR.1) rfl (akz rfl) ?_
 rw [show ko "place" (.sh oU) [(("chart" : Str), T.sh (bX bx [n0] i0 ps))] = [(("chart" : Str), T.sh (bX bx [n0] i0 ps)), (("place" : Str), T.sh oU)] by rw [aR (by decide +kernel)]; rfl]
 refine lH E.aN E.gn E.bK.1 (bW (tl := []) aZ (aA rfl)) rfl (akz rfl) ?_
 rw [show ko "past" (.lst []) [(("chart" : Str), T.sh (bX bx [n0] i0 ps)), (("place" : Str), T.sh oU)] = [(("chart" : Str), T.sh (bX bx [n0] i0 ps)), (("place" : Str), T.sh oU), (("past" : Str), T.lst [])] by rw [aR (by decide +kernel), aR (by decide +kernel)]; rfl]
 refine aU E.g E.eF (aV (c_ (true, xs, bs) E.rM E.kg (au (bD E.cz) (au (bD E.cB) bz)) (by dsimp only [eG]; exact ⟨by omega, hxo⟩) (K4 (dO _) (E3 _ _) (iR (fun _ => rfl) _))) (t2 := .tup [.lst (((xs.foldl It.af bs).map .int).map T.sh), .lst (((sI xs bs).map J.d).map T.sh), .lst (((bP xs).map .str).map T.sh)]) rfl) ?_
 refine lH E.aN E.bI E.bK.1 (fS (gB 0 E.eF.1 rfl rfl)) rfl (akz rfl) ?_
 rw [show ko "boxes" (.sh (.lst ((xs.foldl It.af bs).map .int))) [(("chart" : Str), T.sh (bX bx [n0] i0 ps)), (("place" : Str), T.sh oU), (("past" : Str), T.lst [])] = cZ (bX bx [n0] i0 ps) oU [] (xs.foldl It.af bs) (yU none) by rw [aR (by decide +kernel), aR (by decide +kernel), aR (by decide +kernel)]; rfl]
 generalize xs.foldl It.af bs = cur at hbl acA d1 d2 ⊢
 refine abX E.aN E.gu E.bK.1 (W9 (gB 1 E.eF.1 rfl rfl) (qM (dl := [.lst ((bP xs).map .str)]) (fun z => (z, bx, n0, i0, ps, [], cur, none, bP xs)) (.pin y (.ins "NestRun" (cZ (bX bx [n0] i0 ps) oU [] (K6 ps (bP xs) cur) (yU none)))) E.lP E.bK.1 (.pin rfl) (aQ (fS (gB 2 E.eF.1 rfl rfl)) aZ) (fun z _ => by dsimp only [cV]; exact ⟨acA, hi, by omega⟩) (fun z _ => rfl) (fun z hz => by subst hz; exact ⟨rfl, .inr rfl, trivial⟩) (E7 (by decide +kernel) (by decide +kernel) (by decide +kernel) (by decide +kernel) (by decide +kernel)) (fun z hz => by subst hz; rfl)) (by rw [sizeLine_eq, List.length_map, zj]; omega)) rfl (Aq _ _ _ _ _) (aO ⟨rfl, ?_⟩)
 rw [show ko "first_rows" (.lst (((sI xs bs).map J.d ++ B6 ps (bP xs) cur).map T.sh)) (cZ (bX bx [n0] i0 ps) oU [] (K6 ps (bP xs) cur) (yU none)) = cZ (bX bx [n0] i0 ps) oU [] (K6 ps (bP xs) cur) (yU (some ((sI xs bs).map J.d ++ B6 ps (bP xs) cur))) by
   unfold cZ
   rw [aR (by decide +kernel), aR (by decide +kernel), aR (by decide +kernel), aR (by decide +kernel)]
   rfl]
 exact xF (ds := [_, _, _])
theorem eZ : lG (ao jW) ([("self", av), ("boxes", av), ("place", av), ("script", av), ("step", av), ("performed", aH)]) = true := by decide +kernel
theorem rN : aM ["self", "boxes", "place", "script", "step"] ["self", "boxes", "place", "script"] (ao jW) := aW
noncomputable abbrev jk : Stmt := inClass (top 61) 0
noncomputable abbrev lQ : Type := (List (Str × Int)) × L3.D × List bC × List LW
noncomputable def oO : lQ -> List L3.D := fun (bx, n0, i0, ps) => [bX (bx.map m9) [n0] i0 ps]
noncomputable def jJ : lQ -> Prop := fun (bx, n0, i0, ps) => Ck ps bx.length /\ i0.length <= 100 /\ bx.length <= 1000 /\ (∀ bs : List Int, bs.length = bx.length -> ∀ q ∈ i0, q.ok bs)
noncomputable def oQ : lQ -> List (Str × T) := fun (bx, n0, i0, ps) => (cZ (bX (bx.map m9) [n0] i0 ps) oU [] (K6 ps (bP (iV i0)) ((iV i0).foldl It.af (bx.map (·.2)))) (yU (some ((sI (iV i0) (bx.map (·.2))).map J.d ++ B6 ps (bP (iV i0)) ((iV i0).foldl It.af (bx.map (·.2)))))) : List (Str × T))
structure A1 (X : Cx) (CL : Str -> Addr) : Prop extends cy X where
 bK : Ln X 0 "self"
 aX : Ln X 1 "chart"
 iX : Ln X 2 "start"
 FU : Gl X "begun"
 Um : Gl X "Runner"
 A2 : Gl X "firsts"
 X4 : Fc X CL "begun" 3 1 sW sX sY
 Uo : Fc X CL "firsts" 1 1 pO pP pQ
 nF : FkM X CL "Runner" "__init__" 7 4 fG fH fJ dY
 aN : iP X.K (CL "NestRun")
 fF : aF X.K (CL "NestRun") "chart"
theorem A3 {X : Cx} {CL : Str -> Addr} {b : Bx} (E : A1 X CL) (bx : List (Str × Int)) (n0 : L3.D) (i0 : List bC) (ps : List LW) (y : Addr) (h : Ck ps bx.length /\ i0.length <= 100 /\ bx.length <= 1000 /\ (∀ bs : List Int, bs.length = bx.length -> ∀ q ∈ i0, q.ok bs)) :
   eL X CL b (dS jk) (KD ["self", "chart", "start"] y "NestRun" [bX (bx.map m9) [n0] i0 ps]) { nx := fun δ => δ[0]? = some (some (.pin y (.ins "NestRun" (cZ (bX (bx.map m9) [n0] i0 ps) oU [] (K6 ps (bP (iV i0)) ((iV i0).foldl It.af (bx.map (·.2)))) (yU (some ((sI (iV i0) (bx.map (·.2))).map J.d ++ B6 ps (bP (iV i0)) ((iV i0).foldl It.af (bx.map (·.2)))))))))), rt := fun _ _ => False } := by
 obtain ⟨NF, hi, hb, hq⟩ := h
 refine lH E.aN E.fF E.bK.1 (v_ E.aX.1) rfl (akz rfl) ?_
 refine aU E.g E.iX (zc (d := .tup [.lst ((iV i0).map It.d), .lst [.int 0], .lst [.int (-1)]]) (aV (c_ (bx.map m9, n0, i0, ps) E.X4 E.FU (au (bD E.aX) bz) hi (by show T.bV [T.lst _, T.lst _, T.lst _] = true; rw [T.bV, T.bV, T.bV, T.bV, dQ (N3 _ _)]; rfl)) (t2 := .tup [.lst ((Xz i0 [0]).map T.sh), .lst [.sh (.int 0)], .lst [.sh (.int (-1))]]) rfl) (by rw [T.fc, T.iO, T.iO, T.iO, T.iO, di, ab4]; exact congrArg (fun z => L3.D.tup [.lst z, .lst [.int 0], .lst [.int (-1)]]) (show Xz i0 [0] = _ by unfold Xz; rw [alI, alO, akK]))) ?_
 have hbl : (bx.map (·.2)).length = bx.length := akD ..
 refine WW (kM1 (fun z => (z, bx.map m9, n0, i0, ps, bx.map (·.2), iV i0)) (.pin y (.ins "NestRun" (cZ (bX (bx.map m9) [n0] i0 ps) oU [] (K6 ps (bP (iV i0)) ((iV i0).foldl It.af (bx.map (·.2)))) (yU (some ((sI (iV i0) (bx.map (·.2))).map J.d ++ B6 ps (bP (iV i0)) ((iV i0).foldl It.af (bx.map (·.2)))))))))
   E.nF E.Um (aeq E.bK.1 rfl (vK (fS (c_ (bx, [n0], Al, [L3.D.tup (i0.map bC.d)], [L3.D.tup []], ps.map Ht) E.Uo E.A2 (au (bD E.aX) bz) hb (cT _))) (vK (bU (aJ (jE (v_ E.iX.1) (aq aB) (bE (j := 1) rfl)) (aJ (jE (v_ E.iX.1) (aq aB) (bE (j := 2) rfl)) cN)) (aA rfl)) (vK (jE (v_ E.iX.1) (aq aB) (bE (j := 0) rfl)) KQ))))
   (fun z _ => by dsimp only [fH]; exact ⟨by rw [hbl]; exact NF, hi, by unfold iV; rw [List.length_cons, List.length_map]; omega, fun x hx => Xj (fun q hm => hq _ hbl q hm) x hx⟩) (fun z _ => rfl) (fun z hz => by cases hz.1; exact ⟨rfl, .inr rfl, trivial⟩) (fun z hz => by cases hz.1; rfl)) (aO rfl)
theorem dZ : lG (ao jk) ([("self", av), ("chart", av), ("start", av), ("begun", aH), ("Runner", aH), ("firsts", aH)]) = true := by decide +kernel
theorem qB : aM ["self", "chart", "start"] ["self", "chart"] (ao jk) := aW
noncomputable abbrev k7 : Stmt := inClass (top 8) 0
noncomputable abbrev qg : Type := List L3.D × List L3.D × V × List L3.D × List L3.D × List L3.D
noncomputable def rO : qg -> List L3.D := fun (bs, nm, tv, is, os, ws) => [.lst bs, .lst nm, .val tv, .lst is, .lst os, .lst ws]
noncomputable def rP : qg -> Prop := fun (bs, nm, tv, is, os, ws) => D.bS bs = true /\ D.bS nm = true /\ D.bS is = true /\ D.bS os = true /\ D.bS ws = true
noncomputable def rQ : qg -> List (Str × T) := fun (bs, nm, tv, is, os, ws) => (Aj bs nm (.sh (.val tv)) is os ws : List (Str × T))
structure FW (X : Cx) (CL : Str -> Addr) : Prop extends cy X where
 bK : Ln X 0 "self"
 cB : Ln X 1 "boxes"
 X5 : Ln X 2 "names"
 ku : Ln X 3 "tree"
 aeS : Ln X 4 "ins"
 acB : Ln X 5 "outs"
 kB : Ln X 6 "ways"
 cF : Gl X "list"
 cG : X.mg "list" = none
 aY : iP X.K (CL "Chart")
 aN : iP X.K (CL "NestRun")
 dz : aF X.K (CL "Chart") "boxes"
 bI : aF X.K (CL "NestRun") "boxes"
 ng : aF X.K (CL "Chart") "names"
 cg : aF X.K (CL "Chart") "tree"
 rA : aF X.K (CL "Chart") "ins"
 wC : aF X.K (CL "Chart") "outs"
 cj : aF X.K (CL "Chart") "ways"
theorem FY {X : Cx} {CL : Str -> Addr} {b : Bx} (E : FW X CL) (bs nm : List L3.D) (tv : V) (is os ws : List L3.D) (y : Addr) (h : D.bS bs = true /\ D.bS nm = true /\ D.bS is = true /\ D.bS os = true /\ D.bS ws = true) :
   eL X CL b (dS k7) (KD ["self", "boxes", "names", "tree", "ins", "outs", "ways"] y "Chart" [.lst bs, .lst nm, .val tv, .lst is, .lst os, .lst ws]) { nx := fun δ => δ[0]? = some (some (.pin y (.ins "Chart" (Aj bs nm (.sh (.val tv)) is os ws)))), rt := fun _ _ => False } := by
 obtain ⟨h1, h2, h3, h4, h5⟩ := h
 refine lH E.aY E.dz E.bK.1 (iQ E.cG (bD E.cB) h1 E.cF bQ) rfl (akz rfl) ?_
 rw [iS]
 refine lH E.aY E.ng E.bK.1 (iQ E.cG (bD E.X5) h2 E.cF bQ) rfl (akz rfl) ?_
 rw [aR (by decide +kernel), iS]
 refine lH E.aY E.cg E.bK.1 (v_ E.ku.1) rfl (akz rfl) ?_
 rw [aR (by decide +kernel), aR (by decide +kernel), iS]
 refine lH E.aY E.rA E.bK.1 (iQ E.cG (bD E.aeS) h3 E.cF bQ) rfl (akz rfl) ?_
 rw [aR (by decide +kernel), aR (by decide +kernel), aR (by decide +kernel), iS]
 refine lH E.aY E.wC E.bK.1 (iQ E.cG (bD E.acB) h4 E.cF bQ) rfl (akz rfl) ?_
 rw [aR (by decide +kernel), aR (by decide +kernel), aR (by decide +kernel), aR (by decide +kernel), iS]
 refine lH E.aY E.cj E.bK.1 (iQ E.cG (bD E.kB) h5 E.cF bQ) rfl (akz rfl) ?_
 rw [aR (by decide +kernel), aR (by decide +kernel), aR (by decide +kernel), aR (by decide +kernel), aR (by decide +kernel), iS]
 exact aO rfl
theorem dD : lG (ao k7) ([("self", av), ("boxes", av), ("names", av), ("tree", av), ("ins", av), ("outs", av), ("ways", av), ("list", aH)]) = true := by decide +kernel
theorem uc : aM ["self", "boxes", "names", "tree", "ins", "outs", "ways"] ["self", "boxes", "names", "tree", "ins", "outs", "ways"] (ao k7) := aW
noncomputable abbrev mW : Stmt := inClass (top 11) 0
noncomputable abbrev rR : Type := List Str × List Int × List Int
noncomputable def ud : rR -> List L3.D := fun (ks, es, ss) => [.lst (ks.map .str), .lst (es.map .int), .lst (ss.map .int)]
noncomputable def uf : rR -> Prop := fun (ks, es, ss) => True
noncomputable def ug : rR -> List (Str × T) := fun (ks, es, ss) => (Ag ks es ss : List (Str × T))
structure Jw (X : Cx) (CL : Str -> Addr) : Prop extends cy X where
 bK : Ln X 0 "self"
 X6 : Ln X 1 "kinds"
 Up : Ln X 2 "elders"
 Uq : Ln X 3 "starts"
 cF : Gl X "list"
 cG : X.mg "list" = none
 iY : iP X.K (CL "Tree")
 gC : aF X.K (CL "Tree") "kinds"
 fN : aF X.K (CL "Tree") "elders"
 t8 : aF X.K (CL "Tree") "starts"
theorem Jx {X : Cx} {CL : Str -> Addr} {b : Bx} (E : Jw X CL) (ks : List Str) (es ss : List Int) (y : Addr) (h : True) :
   eL X CL b (dS mW) (KD ["self", "kinds", "elders", "starts"] y "Tree" [.lst (ks.map .str), .lst (es.map .int), .lst (ss.map .int)]) { nx := fun δ => δ[0]? = some (some (.pin y (.ins "Tree" (Ag ks es ss)))), rt := fun _ _ => False } := by
 have hi : D.bS (ks.map L3.D.str) = true := iR (fun _ => rfl) _
 refine lH E.iY E.gC E.bK.1 (iQ E.cG (bD E.X6) hi E.cF bQ) rfl (akz rfl) ?_
 rw [iS]
 refine lH E.iY E.fN E.bK.1 (iQ E.cG (bD E.Up) (dO _) E.cF bQ) rfl (akz rfl) ?_
 rw [aR (by decide +kernel), iS]
 refine lH E.iY E.t8 E.bK.1 (iQ E.cG (bD E.Uq) (dO _) E.cF bQ) rfl (akz rfl) ?_
 rw [aR (by decide +kernel), aR (by decide +kernel), iS]
 exact aO rfl
theorem jl : lG (ao mW) ([("self", av), ("kinds", av), ("elders", av), ("starts", av), ("list", aH)]) = true := by decide +kernel
theorem wI : aM ["self", "kinds", "elders", "starts"] ["self", "kinds", "elders", "starts"] (ao mW) := aW
noncomputable def N9 (l : List (List Int × List L3.D)) : List L3.D := l.map fun q => .tup [oU, .lst (q.1.map .int), .lst q.2]
noncomputable def qh (r : List L3.D) (l : List (List Int × List L3.D)) : List L3.D := r ++ l.flatMap (·.2)
noncomputable abbrev jm : Stmt := inClass (top 59) 6
noncomputable abbrev lR : Type := L3.D × L3.D × (List (List Int × List L3.D)) × List Int × List L3.D
noncomputable def gD : lR -> List L3.D := fun (cd, pl, l, bs, r) => [.ins "NestRun" (oz cd pl (N9 l) bs (N1 (some r)))]
noncomputable def e7 : lR -> Prop := fun (cd, pl, l, bs, r) => D.bS r = true /\ r.length <= 1000 /\ l.length <= 1000 /\ ∀ q ∈ l, q.2.length <= 200 /\ D.bS q.2 = true
noncomputable def gE : lR -> T := fun (cd, pl, l, bs, r) => (.lst ((qh r l).map T.sh) : T)
structure A4 (X : Cx) (CL : Str -> Addr) : Prop extends cy X where
 bK : Ln X 0 "self"
 bq : Ln X 1 "rows"
 eF : Ln X 2 "step"
 cF : Gl X "list"
 cG : X.mg "list" = none
 aN : iP X.K (CL "NestRun")
 gn : aF X.K (CL "NestRun") "past"
 gu : aF X.K (CL "NestRun") "first_rows"
theorem A5 {X : Cx} {CL : Str -> Addr} {b : Bx} (E : A4 X CL) (cd pl l bs r) (h : e7 (cd, pl, l, bs, r)) :
   aE X CL b jm ["self", "rows", "step"] (gD (cd, pl, l, bs, r)) (gE (cd, pl, l, bs, r)) := by
 dsimp only [aE, e7, gD, gE] at h ⊢
 obtain ⟨hr, hrl, hl, hq⟩ := h
 refine aU E.g E.bq (lE E.cG (uz E.aN E.gu (v_ E.bK.1) PX) E.cF bQ) ?_
 have hlen : ∀ j, (qh r (l.take j)).length <= r.length + 200 * j := fun j => by
   unfold qh
   rw [ak1]
   have : ∀ l : List (List Int × List L3.D), (∀ q ∈ l, q.2.length <= 200) -> (l.flatMap (·.2)).length <= 200 * l.length := by
     intro l
     induction l with
     | nil => intro _; exact akV _
     | cons q l ih =>
       intro h
       rw [alI, ak1, akZ]
       have h1 := h q akA
       have h2 := ih fun p hp => h p (akE _ hp)
       omega
   have h1 := this (l.take j) fun q hm => (hq q (List.mem_of_mem_take hm)).1
   have h2 : (l.take j).length <= j := by rw [alx]; omega
   omega
 refine iI E.g E.eF (fun j δ => ∃ o, δ = [some (.sh (.ins "NestRun" (oz cd pl (N9 l) bs (N1 (some r))))), some (.lst ((qh r (l.take j)).map T.sh)), o])
   (dh (uz E.aN E.gn (v_ E.bK.1) Tz)) ⟨none, by rw [al9]; unfold qh; rw [alO, akK]; rfl⟩ (fun j δ ⟨_, e⟩ => by subst e; exact akz rfl) ?turn ?fin
 case turn =>
   rintro j d δ hj ⟨o, rfl⟩
   unfold N9 at hj
   obtain ⟨q, rfl, _, hqm, NS, _, NK⟩ := pC hj
   obtain ⟨q1, q2⟩ := hq q hqm
   have hjn := hlen j
   refine W8 (gY E.bq.1 rfl) rfl rfl (b9 (bD E.eF) (aq aB) (bE (j := 2) rfl)) q2 rfl rfl (by rw [akD]; omega) (aO ⟨some (.sh (.tup [oU, .lst (q.1.map .int), .lst q.2])), ?_⟩)
   rw [NK]
   unfold qh
   rw [List.flatMap_append, alI, alO, akK, ← akx, akM (l₂ := q.2)]
   rfl
 case fin =>
   rintro δ ⟨o, rfl⟩
   have e : (N9 l).length = l.length := akD ..
   rw [e, aly]
   exact cu (vM E.bq.1) rfl
theorem iA : lG (ao jm) ([("self", av), ("rows", av), ("step", av), ("list", aH)]) = true := by decide +kernel
theorem qC : aM ["self", "rows", "step"] ["self"] (ao jm) := aW
noncomputable abbrev gF : Stmt := inClass (top 59) 7
noncomputable abbrev jK : Type := L3.D × L3.D × List L3.D × List Int × (List (Str × L3.D))
noncomputable def fq : jK -> List L3.D := fun (cd, pl, pa, bs, ex) => [.ins "NestRun" (oz cd pl pa bs ex)]
noncomputable def fu : jK -> Prop := fun (cd, pl, pa, bs, ex) => True
noncomputable def fz : jK -> T := fun (cd, pl, pa, bs, ex) => (.lst ((bs.map .int).map T.sh) : T)
structure xQ (X : Cx) (CL : Str -> Addr) : Prop extends cy X where
 bK : Ln X 0 "self"
 cF : Gl X "list"
 cG : X.mg "list" = none
 aY : iP X.K (CL "Chart")
 aN : iP X.K (CL "NestRun")
 dz : aF X.K (CL "Chart") "boxes"
 bI : aF X.K (CL "NestRun") "boxes"
theorem xR {X : Cx} {CL : Str -> Addr} {b : Bx} (E : xQ X CL) (cd pl pa bs ex) (h : fu (cd, pl, pa, bs, ex)) :
   aE X CL b gF ["self"] (fq (cd, pl, pa, bs, ex)) (fz (cd, pl, pa, bs, ex)) := by
 dsimp only [aE, fu, fq, fz] at h ⊢
 exact cu (lE E.cG (uz E.aN E.bI (v_ E.bK.1) xH) E.cF bQ) rfl
theorem mX : lG (ao gF) ([("self", av), ("list", aH)]) = true := by decide +kernel
theorem mY : aM ["self"] ["self"] (ao gF) := aW
noncomputable abbrev jY : Stmt := inClass (top 59) 3
noncomputable abbrev jZ : Type := Addr × List L3.D × L3.D × List bC × List LW × List L3.D × List Int × Option (List L3.D) × Str
noncomputable def fK : jZ -> List T := fun (y, bx, n0, i0, ps, pa, bs, eo, sg) => [.pin y (.ins "NestRun" (cZ (bX bx [n0] i0 ps) oU pa bs (yU eo))), .sh (.str sg)]
noncomputable def d7 : jZ -> List T := fun (y, bx, n0, i0, ps, pa, bs, eo, sg) => [.pin y (.ins "NestRun" (cZ (bX bx [n0] i0 ps) oU (pa ++ [.tup [oU, .lst (bs.map .int), .lst (B6 ps [sg] bs)]]) (K6 ps [sg] bs) (yU eo))), .sh (.str sg)]
noncomputable def fL : jZ -> Prop := fun (y, bx, n0, i0, ps, pa, bs, eo, sg) => Ck ps bs.length /\ i0.length <= 100 /\ pa.length <= 1000
noncomputable def fM : jZ -> T := fun (y, bx, n0, i0, ps, pa, bs, eo, sg) => (.lst ((B6 ps [sg] bs).map T.sh) : T)
structure CH (X : Cx) (CL : Str -> Addr) : Prop extends cy X where
 bK : Ln X 0 "self"
 lN : Ln X 1 "sign"
 mR : Ln X 2 "place"
 cB : Ln X 3 "boxes"
 bq : Ln X 4 "rows"
 cF : Gl X "list"
 cG : X.mg "list" = none
 lP : FqM X CL "NestRun" "dealt" 6 2 dH cV dI cU
 aY : iP X.K (CL "Chart")
 aN : iP X.K (CL "NestRun")
 cK : aF X.K (CL "NestRun") "place"
 dz : aF X.K (CL "Chart") "boxes"
 bI : aF X.K (CL "NestRun") "boxes"
 gn : aF X.K (CL "NestRun") "past"
theorem CJ {X : Cx} {CL : Str -> Addr} {b : Bx} (E : CH X CL) (y bx n0 i0 ps pa bs eo sg) (h : fL (y, bx, n0, i0, ps, pa, bs, eo, sg)) :
   eL X CL b (dS jY) (xB ["self", "sign", "place", "boxes", "rows"] (fK (y, bx, n0, i0, ps, pa, bs, eo, sg))) { nx := fun δ => fM (y, bx, n0, i0, ps, pa, bs, eo, sg) = .sh .non /\ Keeps δ (d7 (y, bx, n0, i0, ps, pa, bs, eo, sg)), rt := fun WQ δ => WQ = fM (y, bx, n0, i0, ps, pa, bs, eo, sg) /\ Keeps δ (d7 (y, bx, n0, i0, ps, pa, bs, eo, sg)) } := by
 dsimp only [fL, fK, fM, d7] at h ⊢
 obtain ⟨NF, hi, hpa⟩ := h
 refine aU E.g E.mR (NW (p := [.fld "place"]) (K1 E.aN E.cK (gY E.bK.1 rfl) rfl rfl An) rfl P0) ?_
 refine aU E.g E.cB (NW (p := [.fld "boxes"]) (K1 E.aN E.bI (gY E.bK.1 rfl) rfl rfl Ao) rfl P1) ?_
 refine ER E.g E.bq (qM (dl := [.lst [.str sg]]) (fun z => (z, bx, n0, i0, ps, pa, bs, eo, [sg])) (.pin y (.ins "NestRun" (cZ (bX bx [n0] i0 ps) oU pa (K6 ps [sg] bs) (yU eo)))) E.lP E.bK.1 (.pin rfl) (aQ (fS (ds := [.str sg]) (bW (aQ (v_ E.lN.1) aZ) (aA rfl))) aZ) (fun z _ => by dsimp only [cV]; exact ⟨NF, hi, by simp⟩) (t := .lst ((B6 ps [sg] bs).map T.sh)) (fun z _ => rfl) (fun z hz => by subst hz; exact ⟨rfl, .inr rfl, trivial⟩) (E7 (by decide +kernel) (by decide +kernel) (by decide +kernel) (by decide +kernel) (by decide +kernel)) (fun z hz => by subst hz; rfl)) ?_
 refine aad (i := 4) (d := .lst (B6 ps [sg] bs)) rfl (di _) ?_
 refine qW (p := [.fld "past"]) (K1 E.aN E.gn (gY E.bK.1 rfl) rfl rfl xJ) rfl IW (bU (aJ (v_ E.mR.1) (aJ (v_ E.cB.1) (aJ (v_ E.bq.1) cN))) (aA rfl)) rfl IW (by rw [akD]; omega) ?_
 rw [show (pa.map T.sh ++ [T.sh (.tup [oU, .lst (bs.map .int), .lst (B6 ps [sg] bs)])]) = (pa ++ [L3.D.tup [oU, .lst (bs.map .int), .lst (B6 ps [sg] bs)]]).map T.sh by rw [akM]; rfl, P4]
 exact cu (lE E.cG (v_ E.bq.1) E.cF bQ) ⟨rfl, xF (ds := [_])⟩
theorem e9 : lG (ao jY) ([("self", av), ("sign", av), ("place", av), ("boxes", av), ("rows", av), ("list", aH)]) = true := by decide +kernel
theorem rS : aM ["self", "sign", "place", "boxes", "rows"] ["self", "sign"] (ao jY) := aW
noncomputable def pK (a : List Int) (m k : Nat) : d9 := (Xo (gI a (1 + (k : Int)) % 10 ^ (40 : Int).toNat / 7) 3 m, gI a (6 + (k : Int)) % (2 * 10 ^ (30 : Int).toNat - 1) - (10 ^ (30 : Int).toNat - 1), Xo (gI a (1 + (k : Int)) % 10 ^ (40 : Int).toNat / 4096) 3 m)
noncomputable def ptK (a : List Int) (m j : Nat) : List d9 := (List.range j).map (pK a m)
theorem Oa (a : List Int) (m j : Nat) : (ptK a m j).length = j := by simp [ptK]
theorem Ur (a : List Int) (m j : Nat) : ptK a m (j + 1) = ptK a m j ++ [pK a m j] := by
 unfold ptK
 rw [List.range_succ, akM]
 rfl
theorem acC (a : List Int) {m : Nat} (h : 0 < m) (j : Nat) : ∀ p ∈ ptK a m j, iD m p := fun p hp => by
 obtain ⟨k, _, rfl⟩ := ak2.mp hp
 exact ⟨(AA _ h).1, (AA _ h).1, (AA _ h).2, (AA _ h).2⟩
theorem X7 (p : LW) : (Ht p).m5 = true := by
 show (true && (true && (true && (D.bS (p.2.map bC.d) && (true && (true && true)))))) = true
 rw [ow]
 rfl
theorem Qc (op : List Int) (n : Int) : bP (iV (cD op)) = op.map sN /\ (iV (cD op)).foldl It.af [n] = [n] /\ (sI (iV (cD op)) [n]).map J.d = L3.D.tup [.str "in", .int 0] :: op.map fZ := by
 obtain ⟨d1, d2, d3⟩ := IY (cD op) [n]
 obtain ⟨c1, c2, c3⟩ := EY op [n]
 refine ⟨?_, ?_, ?_⟩
 . rw [← c3, ← d3]
   rfl
 . show ((cD op).map It.kJ).foldl It.af [n] = _
   rw [d2, c2]
 . show (sI (It.O7 0 :: (cD op).map .kJ) [n]).map J.d = _
   rw [sI, akP]
   refine congrArg (L3.D.tup [.str "in", .int 0] :: ·) ?_
   rw [← c1]
   exact congrArg (List.map J.d) d1
theorem Us {n : Nat} (hn : n <= 5) {p : d9} (h : iD n p) (c : Int) : ∀ d ∈ E9 p c, qH 59 d := fun d hd => by
 unfold E9 at hd
 rcases akC.mp hd with z | z
 . obtain ⟨i, hi, rfl⟩ := ak2.mp z
   exact Ax hn (h.b1 i hi)
 . rcases akC.mp z with z | z
   . simp only [akB, akR, alD] at z
     rcases z with rfl | rfl
     . refine .tup fun d hd => ?_
       simp only [akB, akR, alD] at hd
       rcases hd with rfl | rfl | rfl | rfl
       . exact .str _ _ (by decide +kernel)
       . exact .int _ _
       . exact .int _ _
       . exact .int _ _
     . refine .tup fun d hd => ?_
       simp only [akB, akR, alD] at hd
       rcases hd with rfl | rfl | rfl
       . exact .str _ _ (by decide +kernel)
       . exact .str _ _ (by decide +kernel)
       . exact .int _ _
   . obtain ⟨i, hi, rfl⟩ := ak2.mp z
     exact Ax hn (h.b2 i hi)
theorem Ut {pt : List d9} (hl : pt.length <= 5) (h : ∀ p ∈ pt, iD pt.length p) {w : List Int} (hw : ∀ x ∈ w, 0 <= x /\ x < (pt.length : Int)) (n : Int) : ∀ j, ∀ d ∈ (tW pt j (w, n)).1, qH 59 d
 | 0 => fun d hd => by cases hd
 | j + 1 => fun d hd => by
   have ih := Ut hl h hw n j
   have hb := (Ja hl h hw n j).1
   cases e : tW pt j (w, n) with
   | mk rs r =>
     obtain ⟨w2, m⟩ := r
     rw [e] at ih hb
     dsimp only at ih hb
     cases w2 with
     | nil =>
       rw [tW, e] at hd
       exact ih d hd
     | cons k w2 =>
       rw [Av e] at hd
       have hk := hb k akA
       rcases akC.mp hd with z | z
       . exact ih d z
       . rcases akB.mp z with rfl | z
         . refine .tup fun d hd => ?_
           simp only [akB, akR, alD] at hd
           rcases hd with rfl | rfl
           . exact .str _ _ (by decide +kernel)
           . exact .str _ _ (Fd hl hk).1.2
         . rcases akB.mp z with rfl | z
           . refine .tup fun d hd => ?_
             simp only [akB, akR, alD] at hd
             rcases hd with rfl | rfl
             . exact .str _ _ (by decide +kernel)
             . exact .int _ _
           . exact Us hl (TN h _) m d z
theorem Ob {pt : List d9} (hl : pt.length <= 5) (h : ∀ p ∈ pt, iD pt.length p) {w : List Int} (hw : ∀ x ∈ w, 0 <= x /\ x < (pt.length : Int)) (n : Int) : ∀ d ∈ Aw pt w n, qH 59 d := fun d hd => by
 unfold Aw at hd
 rcases akC.mp hd with z | z
 . exact Ut hl h hw n 8 d z
 . split at z
   . cases z
   . rw [alg.mp z]
     refine .tup fun d hd => ?_
     simp only [akB, akR, alD] at hd
     rcases hd with rfl | rfl
     . exact .str _ _ (by decide +kernel)
     . exact .int _ _
noncomputable def aal (a : List Int) : Int := gI a 6 / 7 % (2 * 10 ^ (30 : Int).toNat - 1) - (10 ^ (30 : Int).toNat - 1)
noncomputable def wJ (op : List Int) : List L3.D := L3.D.tup [.str "in", .int 0] :: op.map fZ
noncomputable abbrev Oc : Stmt := top 68
noncomputable abbrev Uu : Type := List Int
noncomputable def tP : Uu -> List L3.D := fun a => [.lst (a.map .int)]
noncomputable def tQ : Uu -> Prop := fun a => a.length <= 63
noncomputable def tR : Uu -> T := fun a => (.sh (.bl true) : T)
structure aeT (X : Cx) (CL : Str -> Addr) : Prop extends cy X where
 cz : Ln X 0 "script"
 f6 : Ln X 1 "many"
 gZ : Ln X 2 "parts"
 X8 : X.env.kindOf "parts" = some .cell
 Xn : Ln X 3 "k"
 lJ : Ln X 4 "cell"
 xO : Ln X 5 "more"
 xS : Ln X 6 "opening"
 kB : Ln X 7 "ways"
 iX : Ln X 8 "start"
 aS : Ln X 9 "number"
 Jy : Ln X 10 "run"
 Uv : Ln X 11 "due"
 bq : Ln X 12 "rows"
 gw : Gl X "_law_cell_at"
 sL : Gl X "range"
 nG : Gl X "_law_called"
 vQ : Gl X "tuple"
 Qd : Gl X "NestRun"
 X9 : Gl X "Chart"
 acD : Gl X "Tree"
 cF : Gl X "list"
 wK : Gl X "_law_dealt"
 FZ : Gl X "_law_turns"
 Jb : Gl X "str"
 oR : Fc X CL "_law_cell_at" 1 2 mL mO mP
 sM : X.mg "range" = none
 A6 : Fc X CL "_law_called" 1 3 pG iE pH
 vR : X.mg "tuple" = none
 Qe : Fm X CL "NestRun" 9 2 oO jJ oQ
 Yb : Fm X CL "Chart" 1 7 rO rP rQ
 acE : Fm X CL "Tree" 1 4 ud uf ug
 cG : X.mg "list" = none
 Od : FcM X CL "_law_dealt" 1 4 oA lz oB ly
 Yc : Fc X CL "_law_turns" 1 3 sP oE sQ
 t7 : X.mg "str" = none
 Yd : Fc X CL "_law_deeds" 1 1 sR sS sU
 A7 : Fq X CL "NestRun" "story" 1 1 gD e7 gE
 oS : Fq X CL "NestRun" "numbers" 1 1 fq fu fz
 CK : FqM X CL "NestRun" "feed" 7 2 fK fL fM d7
theorem aeU {X : Cx} {CL : Str -> Addr} {b : Bx} (E : aeT X CL) (a) (h : tQ a) :
   aE X CL b Oc ["script", "many", "parts", "k", "cell", "more", "opening", "ways", "start", "number", "run", "due", "rows"] (tP a) (tR a) := by
 dsimp only [aE, tQ, tP, tR] at h ⊢
 have c0 := amh (gI a 0) (show (5 : Int) ≠ 0 by decide)
 have c1 := al2 (gI a 0) (show (0 : Int) < 5 by decide)
 obtain ⟨m, hm⟩ : ∃ m : Nat, (m : Int) = 1 + gI a 0 % 5 := ⟨(1 + gI a 0 % 5).toNat, by omega⟩
 have hm0 : 0 < m := by omega
 have hm5 : m <= 5 := by omega
 refine aU E.g E.f6 (aV (lD (aq aB) (aq (oX (aq (c_ ((a, 0)) E.oR E.gw (au (bD E.cz) (au (aq aB) bz)) ((show (0 : Int) <= 0 by omega)) rfl)) (aq aB) (by decide)))) (t2 := .sh (.int (m : Int))) (by rw [hm])) ?_
 refine aU E.g E.gZ (bW (tl := []) aZ (aA rfl)) ?_
 refine iI E.g E.Xn (fun j δ => ∃ o3 o4 o5, δ = [some (.sh (.lst (a.map .int))), some (.sh (.int (m : Int))), some (.lst (((ptK a m j).map qz).map T.sh)), o3, o4, o5, none, none, none, none, none, none, none])
   (vG E.sM (bD E.f6) (by omega) E.sL) ⟨_, _, _, rfl⟩ (fun j δ ⟨_, _, _, e⟩ => by subst e; exact akz rfl) ?turn ?fin
 case turn =>
   rintro j d δ hj ⟨o3, o4, o5, rfl⟩
   obtain ⟨rfl, NS⟩ := Ie hj
   rw [Int.zero_add]
   have NS : j < m := by have NS : j < ((m : Int)).toNat := NS; omega
   have hpl := Oa a m j
   refine aU E.g E.lJ (aV (oX (aq (c_ ((a, 1 + (j : Int))) E.oR E.gw (au (bD E.cz) (au (aq (lD (aq aB) (bD E.Xn))) bz)) ((show (0 : Int) <= 1 + (j : Int) by omega)) rfl)) (aq (xj (aq aB) (aq aB) ⟨by decide, by decide, by decide⟩)) (by decide)) (t2 := .sh (.int (gI a (1 + (j : Int)) % 10 ^ (40 : Int).toNat))) rfl) ?_
   refine aU E.g E.xO (aV (ux (aq (oX (aq (c_ ((a, 6 + (j : Int))) E.oR E.gw (au (bD E.cz) (au (aq (lD (aq aB) (bD E.Xn))) bz)) ((show (0 : Int) <= 6 + (j : Int) by omega)) rfl)) (aq (ux (aq (Rz (aq aB) (aq (xj (aq aB) (aq aB) ⟨by decide, by decide, by decide⟩)) (.inl ⟨by decide, by decide⟩))) (aq aB))) (by decide))) (aq (ux (aq (xj (aq aB) (aq aB) ⟨by decide, by decide, by decide⟩)) (aq aB)))) (t2 := .sh (.int (pK a m j).2.1)) rfl) ?_
   refine mF E.gZ.1 rfl (zc (d := qz (pK a m j)) (oZ (aQ (aV (c_ ((gI a (1 + (j : Int)) % 10 ^ (40 : Int).toNat / 7, 3, m)) E.A6 E.nG (au (aq (y9 (bD E.lJ) (aq aB) ⟨by decide, by decide⟩)) (au (aq aB) (au (bD E.f6) bz))) (by dsimp only [iE]; exact (⟨hm0, hm5, by decide⟩)) (cT _)) (t2 := .lst (((pK a m j).1.map .int).map T.sh)) rfl) (aQ (v_ E.xO.1) (aQ (aV (c_ ((gI a (1 + (j : Int)) % 10 ^ (40 : Int).toNat / 4096, 3, m)) E.A6 E.nG (au (aq (y9 (bD E.lJ) (aq aB) ⟨by decide, by decide⟩)) (au (aq aB) (au (bD E.f6) bz))) (by dsimp only [iE]; exact (⟨hm0, hm5, by decide⟩)) (cT _)) (t2 := .lst (((pK a m j).2.2.map .int).map T.sh)) rfl) aZ))) (aA rfl)) (by rw [T.fc, T.iO, T.iO, T.iO, T.iO, di, di, T.fc]; try rfl)) rfl (by rw [List.length_map, List.length_map]; omega) (aO ⟨some (.sh (.int (j : Int))), some (.sh (.int (gI a (1 + (j : Int)) % 10 ^ (40 : Int).toNat))), some (.sh (.int (pK a m j).2.1)), ?_⟩)
   rw [Ur, akM, akM]
   rfl
 case fin =>
 rintro δ ⟨o3, o4, o5, rfl⟩
 have hn : (iH 0 ((m : Nat) : Int).toNat).length = m := by simp [iH]
 rw [hn]
 have hpt := acC a hm0 m
 have hpl := Oa a m m
 generalize ptK a m m = pt at hpt hpl ⊢
 have Jz : ∀ p ∈ pt, iD pt.length p := by rw [hpl]; exact hpt
 have hl5 : pt.length <= 5 := by omega
 refine aad (i := 2) (d := .lst (pt.map qz)) rfl (di _) ?_
 refine aU E.g E.xS (fS (ds := (Xo (gI a 11 % 10 ^ (40 : Int).toNat) 12 m).map .int) (aV (c_ ((gI a 11 % 10 ^ (40 : Int).toNat, 12, m)) E.A6 E.nG (au (aq (oX (aq (c_ ((a, 11)) E.oR E.gw (au (bD E.cz) (au (aq aB) bz)) ((show (0 : Int) <= 11 by omega)) rfl)) (aq (xj (aq aB) (aq aB) ⟨by decide, by decide, by decide⟩)) (by decide))) (au (aq aB) (au (bD E.f6) bz))) (by dsimp only [iE]; exact (⟨hm0, hm5, by decide⟩)) (cT _)) rfl)) ?_
 obtain ⟨ho1, ho2⟩ := AA (gI a 11 % 10 ^ (40 : Int).toNat) (most := 12) hm0
 have Uw : ∀ x ∈ Xo (gI a 11 % 10 ^ (40 : Int).toNat) 12 m, 0 <= x /\ x < (pt.length : Int) := by rw [hpl]; exact ho2
 generalize Xo (gI a 11 % 10 ^ (40 : Int).toNat) 12 m = op at ho1 ho2 Uw ⊢
 refine KP (p := fun _ => true) (gg := fun d => T.sh (Ht (sN d.QF, Au (pt.getD d.QF.toNat vp)))) E.g E.kB (cS (.cons E.gZ.1 (.inl E.X8) .nil) (by decide +kernel)) (vG E.sM (bD E.f6) (by omega) E.sL) (.inr rfl) (fun C s0 H0 f0 b' d hd => ?Xw) (alj (cI (by simp [iH]; omega))) ?rest (by exact akz rfl) (zW ⟨_, rfl⟩)
 case Xw =>
   obtain ⟨i, hi, rfl⟩ := ak2.mp hd
   have hi2 : i < m := by simpa using hi
   have ei : (0 + (i : Int)) = (i : Int) := Int.zero_add _
   obtain ⟨⟨_, _⟩, sl, sg⟩ := ab5 i (by omega)
   have hP : iD 5 (pt.getD (0 + (i : Int)).toNat vp) := by
     have := TN hpt (0 + (i : Int)).toNat
     exact ⟨this.l1, this.l2, fun x hx => by have := this.b1 x hx; omega, fun x hx => by have := this.b2 x hx; omega⟩
   exact ⟨rfl, fun _ => bU (aJ aB (aJ (qQ (aq bf) (aq (mJ E.t7 (o9 (by decide +kernel)) (aq (v_ (jG (i := 0) rfl (by decide +kernel)))) ((by rw [ei]; exact sg)))) ((show (1 : Nat) + (toString (0 + (i : Int)) : Str).length <= sizeLine by rw [ei, sl, alb]; omega))) (aJ (bU (ds := []) cN (aA rfl)) (aJ (aV (c_ (pt.getD (0 + (i : Int)).toNat vp) (Nu E.Yd) (o9 (by decide +kernel)) (au (fh (aq (v_ (uy (i := 1) rfl (by decide +kernel)))) (aq (v_ (jG (i := 0) rfl (by decide +kernel)))) (qT (f := qz) (l := pt) (k := 0 + (i : Int)) vp (by omega) (by omega))) bz) hP (show T.clean (.sh (.tup _)) = true from ow _)) (t2 := .sh (.tup ((Au (pt.getD (0 + (i : Int)).toNat vp)).map bC.d))) rfl) (aJ (qR (aq aB)) (aJ bf cN)))))) (aA rfl)⟩
 case rest =>
 have em : ((iH 0 ((m : Nat) : Int).toNat).filter fun _ => true).map (fun d => T.sh (Ht (sN d.QF, Au (pt.getD d.QF.toNat vp)))) = ((uE pt).map Ht).map T.sh := by
   rw [iJ]
   unfold iH uE
   rw [alc, alc, alc, al6, hpl]
   refine amf fun k _ => ?_
   show T.sh (Ht (sN (0 + (k : Int)), Au (pt.getD (0 + (k : Int)).toNat vp))) = _
   rw [Int.zero_add, al6]
   rfl
 rw [em]
 refine aU E.g E.iX (xq (ds := op.map fZ) E.vR (bT (aV (mK (p := fun _ => true) (g := fun d => T.sh (fZ d.QF)) (cS .nil (by decide +kernel)) E.g.calm (dh (v_ E.xS.1)) (.inr rfl) (fun C s0 H0 f0 b' d hd => ?acg) (alj (cI (by simp; omega)))) ?ahq)) (lq _) E.vQ) ?_
 case acg =>
   obtain ⟨i, hi, rfl⟩ := ak2.mp hd
   obtain ⟨_, sl, sg⟩ := Fd hm5 (ho2 i hi)
   exact ⟨rfl, fun _ => bU (aJ bf (aJ (qQ (aq bf) (aq (mJ E.t7 (o9 (by decide +kernel)) (aq (v_ (jG (i := 0) rfl (by decide +kernel)))) (sg))) ((show (1 : Nat) + (toString i : Str).length <= sizeLine by rw [sl, alb]; omega))) cN)) (aA rfl)⟩
 case ahq =>
   rw [iJ, alc, alc]
   rfl
 refine aU E.g E.aS (aV (ux (aq (oX (aq (y9 (aq (c_ ((a, 6)) E.oR E.gw (au (bD E.cz) (au (aq aB) bz)) ((show (0 : Int) <= 6 by omega)) rfl)) (aq aB) ⟨by decide, by decide⟩)) (aq (ux (aq (Rz (aq aB) (aq (xj (aq aB) (aq aB) ⟨by decide, by decide, by decide⟩)) (.inl ⟨by decide, by decide⟩))) (aq aB))) (by decide))) (aq (ux (aq (xj (aq aB) (aq aB) ⟨by decide, by decide, by decide⟩)) (aq aB)))) (t2 := .sh (.int (aal a))) rfl) ?_
 generalize aal a = n0
 have hpo := TQ hl5 Jz
 obtain ⟨q1, q2, q3⟩ := Qc op n0
 obtain ⟨r1, r2⟩ := K9 hl5 Jz Uw n0
 have ib : D.bS ([(("box1" : Str), n0)].map m9) = true := rfl
 have iw : D.bS ((uE pt).map Ht) = true := iR X7 _
 have ecr : (cD op).map bC.d = op.map fZ := Ay op
 have ii : (D.m5 (.tup ((cD op).map bC.d)) && true) = true := by rw [Bool.and_true]; exact ow _
 refine aU E.g E.Jy (aV (mkF ([(("box1" : Str), n0)], .str "house", cD op, uE pt) E.Qe E.Qd (aQ (zc (d := bX ([(("box1" : Str), n0)].map m9) [.str "house"] (cD op) (uE pt)) (mkP (f := "tree") (Iq := Ah ([(("box1" : Str), n0)].map m9) [.str "house"]) (QG := Ai [.tup ((cD op).map bC.d)] [.tup []] ((uE pt).map Ht)) (fun v => ([(("box1" : Str), n0)].map m9, [.str "house"], v, [L3.D.tup ((cD op).map bC.d)], [L3.D.tup []], (uE pt).map Ht)) E.Yb E.X9
     (Ir (bT (ds := [m9 (("box1" : Str), n0)]) (bW (aQ (bU (aJ bf (aJ (v_ E.aS.1) cN)) (aA rfl)) aZ) (aA rfl))) (Ir (bT (ds := [.str "house"]) (bW (aQ bf aZ) (aA rfl)))
       (Se (aV (mk_ (Xi, Hu, Hu) E.acE E.acD (au (bT (ds := [.str "leaf"]) (bW (aQ bf aZ) (aA rfl))) (au (bT (ds := [.int (-1)]) (EG (aJ (qR (aq aB)) cN) (aA rfl))) (au (bT (ds := [.int (-1)]) (EG (aJ (qR (aq aB)) cN) (aA rfl))) bz))) trivial (IJ Xi Hu Hu)) (t2 := .ins "Tree" (Ag Xi Hu Hu)) rfl)
         (au (bT (ds := [.tup ((cD op).map bC.d)]) (bW (aQ (aV (v_ E.iX.1) (by rw [ecr])) aZ) (aA rfl))) (au (bT (ds := [.tup []]) (bW (aQ (bU (ds := []) cN (aA rfl)) aZ) (aA rfl))) (au (vL E.kB.1) bz))))))
     (fun v => rfl) (fun v => ⟨ib, rfl, ii, rfl, iw⟩) (fun v => rfl) (E1 ib rfl) (E2 ii rfl iw)) (by
     show T.fc (.ins "Chart" (Aj _ _ _ _ _ _)) = _
     rw [K3, PF]
     rfl)) aZ) (by dsimp only [jJ]; exact ⟨hpo, by unfold cD; simp; omega, Nat.le_of_ble_eq_true rfl, fun bs hb q hq => by
       obtain ⟨i, _, rfl⟩ := ak2.mp hq
       trivial⟩)) (t2 := .ins "NestRun" (cZ (bX ([(("box1" : Str), n0)].map m9) [.str "house"] (cD op) (uE pt)) oU [] [Fb pt op n0] (yU (some (wJ op ++ Aw pt op n0))))) (by
     show T.ins "NestRun" (cZ _ _ _ (K6 (uE pt) (bP (iV (cD op))) ((iV (cD op)).foldl It.af [n0])) (yU (some ((sI (iV (cD op)) [n0]).map J.d ++ B6 (uE pt) (bP (iV (cD op))) ((iV (cD op)).foldl It.af [n0]))))) = _
     rw [q1, q2, q3, r1, r2]
     rfl)) ?_
 have hd0 : ∀ d ∈ wJ op, qH 59 d := fun d hd => by
   rcases akB.mp hd with rfl | hd
   . refine .tup fun d hd => ?_
     simp only [akB, akR, alD] at hd
     rcases hd with rfl | rfl
     . exact .str _ _ (by decide +kernel)
     . exact .int _ _
   . obtain ⟨i, hi, rfl⟩ := ak2.mp hd
     exact Ax hm5 (ho2 i hi)
 have i0 : D.bS (wJ op) = true := by
   unfold wJ
   rw [D.bS, lq]
   rfl
 have hlR : ∀ {w : List Int} (n : Int), (∀ x ∈ w, 0 <= x /\ x < (pt.length : Int)) -> (Aw pt w n).length <= 200 /\ D.bS (Aw pt w n) = true := fun {w} n hw => by
   have := TL hpo (cs := w.map sN) (bs := [n]) rfl
   rwa [(K9 hl5 Jz hw n).1] at this
 refine aU E.g E.Uv (aV (mH (ds := [.tup [.str "in", .int 0]]) (zZ := op.map fZ) (bT (ds := [.tup [.str "in", .int 0]]) (bW (aQ (bU (aJ bf (aJ aB cN)) (aA rfl)) aZ) (aA rfl))) (bT (O1 E.cG (v_ E.iX.1) E.cF bQ)) rfl (lq _) (alj (cI (by simp; omega)))) (t2 := .lst ((wJ op).map T.sh)) rfl) ?_
 refine ER E.g E.aS (cM1 (fun z => (z, wJ op, op, pt, n0)) (.lst ((wJ op ++ Aw pt op n0).map T.sh)) E.Od E.wK (aac E.Uv.1 rfl rfl (vK (v_ E.xS.1) (vK (v_ E.gZ.1) (vK (v_ E.aS.1) KQ)))) (fun z _ => by dsimp only [lz]; exact ⟨hl5, Jz, Uw, by omega, by unfold wJ; simp; omega⟩) (t := .sh (.int (Fb pt op n0))) (fun z _ => rfl) (fun z _ => ⟨rfl, .inl rfl, trivial⟩)) ?_
 have W3 : ∀ {m : Str}, (m == ("chart" : Str)) = false -> (m == ("place" : Str)) = false -> (m == ("past" : Str)) = false -> (m == ("boxes" : Str)) = false -> (m == ("first_rows" : Str)) = false -> ∀ (pa : List L3.D) (bs : List Int), List.lookup m (oz (bX ([(("box1" : Str), n0)].map m9) [.str "house"] (cD op) (uE pt)) oU pa bs (N1 (some (wJ op ++ Aw pt op n0)))) = none := fun h1 h2 h3 h4 h5 pa bs => TF h1 h2 h3 h4 h5
 obtain ⟨hR1, hR2⟩ := hlR n0 Uw
 have hir : D.bS (wJ op ++ Aw pt op n0) = true := kI fun d hd => (akC.mp hd).elim (gO i0 d) (gO hR2 d)
 have hdr : qH 60 (.lst (wJ op ++ Aw pt op n0)) := .lst fun d hd => (akC.mp hd).elim (hd0 d) (Ob hl5 Jz Uw n0 d)
 have hrl : (wJ op ++ Aw pt op n0).length <= 1000 := by unfold wJ; simp; omega
 generalize hr0 : wJ op ++ Aw pt op n0 = r0 at hir hdr hrl W3 ⊢
 generalize hC : bX ([(("box1" : Str), n0)].map m9) [.str "house"] (cD op) (uE pt) = C at W3 ⊢
 have aeV : ∀ k : Int, Vy (.lst [.int k]) (.lst [.int k]) = true := fun k => vH (gR [k])
 refine m8 (RG (ad1 (zY E.u (bT (ds := r0) (aV (q0_ (C, oU, [], [Fb pt op n0], r0) E.A7 (vE E.Jy.1 rfl zl) (W3 (by decide +kernel) (by decide +kernel) (by decide +kernel) (by decide +kernel) (by decide +kernel) _ _) rfl (by dsimp only [e7]; exact ⟨hir, hrl, by decide, fun q hq => by cases hq⟩) (dQ (by unfold qh; rw [List.flatMap_nil, List.append_nil]; exact hir))) (t2 := .lst (r0.map T.sh)) (by show T.lst ((qh r0 []).map T.sh) = _; unfold qh; rw [List.flatMap_nil, List.append_nil]))) (vL E.Uv.1) hdr hdr).1 (fun _ => RH (zY E.u (bT (ds := [.int (Fb pt op n0)]) (aV (q0_ (C, oU, [], [Fb pt op n0], N1 (some r0)) E.oS (vE E.Jy.1 rfl zl) (W3 (by decide +kernel) (by decide +kernel) (by decide +kernel) (by decide +kernel) (by decide +kernel) _ _) rfl trivial rfl) (t2 := .lst [.sh (.int (Fb pt op n0))]) rfl)) (bT (ds := [.int (Fb pt op n0)]) (bW (aQ (v_ E.aS.1) aZ) (aA rfl))) (gR [_]) (gR [_])).1))) (fun hp => absurd hp (by rw [vH hdr, aeV]; decide)) (fun _ => aO ?_)
 have htl := Xr a 12 40
 refine iI E.g E.lJ (fun j δ => ∃ (o3 o4 o5 o12 : Option T) (pa : List L3.D) (n : Int), pa.length <= j /\ δ = [some (.sh (.lst (a.map .int))), some (.sh (.int (m : Int))), some (.sh (.lst (pt.map qz))), o3, o4, o5, some (.sh (.lst (op.map .int))), some (.lst (((uE pt).map Ht).map T.sh)), some (.sh (.tup (op.map fZ))), some (.sh (.int n)), some (.ins "NestRun" (cZ C oU pa [n] (yU (some r0)))), some (.lst (r0.map T.sh)), o12])
   (dh (fS (ds := (tuS a 12 40).map .int) (aV (c_ ((a, 12, 40)) E.Yc E.FZ (au (bD E.cz) (au (aq aB) (au (aq aB) bz))) (by dsimp only [oE]; exact (⟨by omega, by decide, by decide, by decide⟩)) (cT _)) rfl))) ⟨_, _, _, _, [], Fb pt op n0, Nat.le_refl _, rfl⟩ (fun j δ ⟨_, _, _, _, _, _, _, e⟩ => by subst e; exact Nat.le_of_ble_eq_true rfl) ?aeW ?ahu
 case aeW =>
   rintro j d δ hj ⟨o3, o4, o5, o12, pa, n, hpa, rfl⟩
   obtain ⟨c, rfl, _, hcm, NS, _, _⟩ := pC hj
   have k0 := amh c (b := (m : Int)) (by omega)
   have k1 := al2 c (b := (m : Int)) (by omega)
   generalize hk : c % (m : Int) = k at k0 k1
   have hw : ∀ x ∈ [k], 0 <= x /\ x < (pt.length : Int) := fun x hx => by rw [alg.mp hx, hpl]; exact ⟨k0, k1⟩
   obtain ⟨g1, g2⟩ := K9 hl5 Jz hw n
   obtain ⟨gR1, gR2⟩ := hlR n hw
   obtain ⟨_, sl, sg⟩ := Fd hm5 ⟨k0, k1⟩
   have hdl : qH 60 (.lst (Aw pt [k] n)) := .lst fun d hd => Ob hl5 Jz hw n d hd
   refine aU E.g E.bq (bW (tl := []) aZ (aA rfl)) ?_
   refine ER E.g E.aS (cM1 (fun z => (z, [], [k], pt, n)) (.lst ((Aw pt [k] n).map T.sh)) E.Od E.wK (aac E.bq.1 rfl rfl (vK (fS (ds := [.int k]) (bW (aQ (aV (oX (bD E.lJ) (bD E.f6) (by omega)) (t2 := .sh (.int k)) (by rw [← hk])) aZ) (aA rfl))) (vK (v_ E.gZ.1) (vK (v_ E.aS.1) KQ)))) (fun z _ => by dsimp only [lz]; exact ⟨hl5, Jz, hw, Nat.le_of_ble_eq_true rfl, by decide⟩) (t := .sh (.int (Fb pt [k] n))) (fun z _ => rfl) (fun z _ => ⟨rfl, .inl rfl, trivial⟩)) ?_
   subst hC
   refine aeF (p := false) (aeE (abZ (p := false) (q := false) (aeD (Xa E.u (qM (dl := [.str (sN k)]) (t := .lst ((Aw pt [k] n).map T.sh)) (fun z => (z, [(("box1" : Str), n0)].map m9, .str "house", cD op, uE pt, pa, [n], some r0, sN k)) (.ins "NestRun" (cZ (bX ([(("box1" : Str), n0)].map m9) [.str "house"] (cD op) (uE pt)) oU (pa ++ [.tup [oU, .lst [.int n], .lst (Aw pt [k] n)]]) [Fb pt [k] n] (yU (some r0)))) E.CK E.Jy.1 (.own rfl) (aQ (aV (qQ (aq bf) (aq (mJ E.t7 E.Jb (aq (oX (bD E.lJ) (bD E.f6) (by omega))) ((by rw [hk]; exact sg)))) ((show (1 : Nat) + (toString (c % (m : Int)) : Str).length <= sizeLine by rw [hk, sl, sizeLine_eq]; omega))) (t2 := .sh (.str (sN k))) (by rw [← hk]; rfl)) aZ) (fun z _ => by dsimp only [fL]; exact ⟨hpo, by unfold cD; simp; omega, by omega⟩) (fun z _ => by show T.lst ((B6 (uE pt) ([k].map sN) [n]).map T.sh) = _; rw [g1]) (fun z _ => ⟨rfl, .inl (by show T.ins "NestRun" _ = T.ins "NestRun" (cZ _ _ (pa ++ [.tup [oU, .lst ([n].map .int), .lst (B6 (uE pt) ([k].map sN) [n])]]) (K6 (uE pt) ([k].map sN) [n]) _); rw [g1, g2]; rfl), trivial⟩) (E7 (by decide +kernel) (by decide +kernel) (by decide +kernel) (by decide +kernel) (by decide +kernel)) (fun z _ => rfl)) (di _) (vL (ds := Aw pt [k] n) E.bq.1) hdl hdl) (by rw [vH hdl]; rfl)) (fun _ => (RH (ag9 (zY E.u (bT (ds := [.int (Fb pt [k] n)]) (aV (q0_ (bX ([(("box1" : Str), n0)].map m9) [.str "house"] (cD op) (uE pt), oU, pa ++ [.tup [oU, .lst [.int n], .lst (Aw pt [k] n)]], [Fb pt [k] n], N1 (some r0)) E.oS (vE E.Jy.1 rfl zl) (W3 (by decide +kernel) (by decide +kernel) (by decide +kernel) (by decide +kernel) (by decide +kernel) _ _) rfl trivial rfl) (t2 := .lst [.sh (.int (Fb pt [k] n))]) rfl)) (bT (ds := [.int (Fb pt [k] n)]) (bW (aQ (v_ E.aS.1) aZ) (aA rfl))) (gR [_]) (gR [_])).1 (by rw [aeV]; rfl))).m))) (fun hp => by cases hp) (fun _ => aO (aO ⟨o3, some (.sh (.int c)), o5, some (.lst ((Aw pt [k] n).map T.sh)), pa ++ [.tup [oU, .lst [.int n], .lst (Aw pt [k] n)]], Fb pt [k] n, by rw [List.length_append, List.length_singleton]; omega, rfl⟩))
 case ahu =>
   rintro δ ⟨o3, o4, o5, o12, pa, n, hpa, rfl⟩
   exact cu Nn rfl
theorem c6 : lG (ao Oc) ([("script", av), ("many", av), ("parts", .cell), ("k", av), ("cell", av), ("more", av), ("opening", av), ("ways", av), ("start", av), ("number", av), ("run", av), ("due", av), ("rows", av), ("_law_cell_at", aH), ("range", aH), ("_law_called", aH), ("tuple", aH), ("NestRun", aH), ("Chart", aH), ("Tree", aH), ("list", aH), ("_law_dealt", aH), ("_law_turns", aH), ("str", aH)]) = true := by decide +kernel
theorem Ux : aM ["script", "many", "parts", "k", "cell", "more", "opening", "ways", "start", "number", "run", "due", "rows"] ["script"] (ao Oc) := aW
noncomputable def cl (aj ak ai ah aC ay : Addr) : Str -> Addr := fun c => if c = "Chart" then aj else if c = "Tree" then ak else if c = "Runner" then ai else if c = "NestRun" then ah else if c = "#kept.<locals>.<lambda>" then aC else if c = "#goable.<locals>.<lambda>" then ay else 0
theorem D7 {aj ak ai ah aC ay : Addr} : cl aj ak ai ah aC ay "#kept.<locals>.<lambda>" = aC := by unfold cl; rw [akH (by decide +kernel)]; rw [akH (by decide +kernel)]; rw [akH (by decide +kernel)]; rw [akH (by decide +kernel)]; rw [akJ rfl]
theorem yM {aj ak ai ah aC ay : Addr} : cl aj ak ai ah aC ay "#goable.<locals>.<lambda>" = ay := by unfold cl; rw [akH (by decide +kernel)]; rw [akH (by decide +kernel)]; rw [akH (by decide +kernel)]; rw [akH (by decide +kernel)]; rw [akH (by decide +kernel)]; rw [akJ rfl]
theorem jn {aj ak ai ah aC ay : Addr} : cl aj ak ai ah aC ay "Chart" = aj := by unfold cl; rw [akJ rfl]
theorem tS {aj ak ai ah aC ay : Addr} : cl aj ak ai ah aC ay "Tree" = ak := by unfold cl; rw [akH (by decide +kernel)]; rw [akJ rfl]
theorem jL {aj ak ai ah aC ay : Addr} : cl aj ak ai ah aC ay "Runner" = ai := by unfold cl; rw [akH (by decide +kernel)]; rw [akH (by decide +kernel)]; rw [akJ rfl]
theorem bL {aj ak ai ah aC ay : Addr} : cl aj ak ai ah aC ay "NestRun" = ah := by unfold cl; rw [akH (by decide +kernel)]; rw [akH (by decide +kernel)]; rw [akH (by decide +kernel)]; rw [akJ rfl]
theorem Ye {aj ak ai ah aC ay : Addr} {x : Str} (h : HS x = true) (h0 : cl aj ak ai ah aC ay x ≠ 0) : (cl aj ak ai ah aC ay x, Kw x) ∈ ([(aC, "kept.<locals>.<lambda>"), (ay, "goable.<locals>.<lambda>")] : List (Addr × Str)) := by
 unfold cl at h0 ⊢
 rw [akH (fun e => by rw [e] at h; exact absurd h (by decide +kernel))] at h0 ⊢
 rw [akH (fun e => by rw [e] at h; exact absurd h (by decide +kernel))] at h0 ⊢
 rw [akH (fun e => by rw [e] at h; exact absurd h (by decide +kernel))] at h0 ⊢
 rw [akH (fun e => by rw [e] at h; exact absurd h (by decide +kernel))] at h0 ⊢
 by_cases LV : x = "#kept.<locals>.<lambda>"
 . rw [akJ LV, LV, show Kw ("#kept.<locals>.<lambda>" : Str) = "kept.<locals>.<lambda>" by decide +kernel]; simp
 rw [akH LV] at h0 ⊢
 by_cases A8 : x = "#goable.<locals>.<lambda>"
 . rw [akJ A8, A8, show Kw ("#goable.<locals>.<lambda>" : Str) = "goable.<locals>.<lambda>" by decide +kernel]; simp
 rw [akH A8] at h0 ⊢
 exact absurd rfl h0
noncomputable def aeX {α : Type} : Nat -> (List α -> Prop) -> Prop
 | 0, P => P []
 | n + 1, P => ∀ a, aeX n fun r => P (a :: r)
theorem bG {α : Type} {n : Nat} {P : List α -> Prop} (h : aeX n P) : ∀ us : List α, us.length = n -> P us := by
 intro us hl
 induction us generalizing n P with
 | nil => subst hl; exact h
 | cons a r ih => subst hl; exact ih (P := fun r => P (a :: r)) (h a) rfl
theorem all_mk {l : PySem.W.OpenLaw} {w : World} {K : PySem.W.Frag} {h : Heap} {mg : Str -> Option Value} {T0 : List Addr} {fa xT A9 F0 F2 F3 rT Ba xU F4 Bb F5 nI Bc LX uQ rV qi F6 F7 LY nJ LZ Bd uR nK F8 uS qj nL uT uU F9 fW jo gX jq k8 mZ jr gG j3 aan aj ak ai ah aC ay : Addr} (XX : K.In h) (G : h.Ns mainGlobals mg) (hfa : mg "law" = some (.ref fa))
   {Qf Uy Yg Yh Yi rg AK oF FU A2 zA ni AU Le uH kg pW v9 Yj FL ny Lp wB uJ nA FN uN qf nE uO uP FP wL Be CM Bf Ga JA Bg xV CN aao : FuncData}
   (Gb : PySem.W.nsIn K mainGlobals "Chart" = some (some (.ref aj))) (Bh : PySem.W.plainGet K aj Str.empty = true) (Bj : PySem.W.hasDictIn K aj = true) (Bk : PySem.W.plainOver K aj = true) (Bl : PySem.W.findIn K (.ref aj) "__setattr__" = some (some (.builtin "object.__setattr__"))) (Bm : PySem.W.makesIn K aj = true) (Bo : PySem.W.keepIn K (.ref aj) = true)
   (nM : PySem.W.findIn K (.ref aj) "boxes" = some none)
   (nO : PySem.W.findIn K (.ref aj) "names" = some none)
   (qk : PySem.W.findIn K (.ref aj) "tree" = some none)
   (rW : PySem.W.findIn K (.ref aj) "ins" = some none)
   (ql : PySem.W.findIn K (.ref aj) "outs" = some none)
   (qm : PySem.W.findIn K (.ref aj) "ways" = some none)
   (L0 : PySem.W.nsIn K mainGlobals "Tree" = some (some (.ref ak))) (Gd : PySem.W.plainGet K ak Str.empty = true) (Ge : PySem.W.hasDictIn K ak = true) (Gf : PySem.W.plainOver K ak = true) (Gg : PySem.W.findIn K (.ref ak) "__setattr__" = some (some (.builtin "object.__setattr__"))) (Gh : PySem.W.makesIn K ak = true) (Gi : PySem.W.keepIn K (.ref ak) = true)
   (qo : PySem.W.findIn K (.ref ak) "kinds" = some none)
   (nP : PySem.W.findIn K (.ref ak) "elders" = some none)
   (nQ : PySem.W.findIn K (.ref ak) "starts" = some none)
   (Bp : PySem.W.nsIn K mainGlobals "Runner" = some (some (.ref ai))) (xW : PySem.W.plainGet K ai Str.empty = true) (xX : PySem.W.hasDictIn K ai = true) (xY : PySem.W.plainOver K ai = true) (xZ : PySem.W.findIn K (.ref ai) "__setattr__" = some (some (.builtin "object.__setattr__"))) (D8 : PySem.W.makesIn K ai = true) (D9 : PySem.W.keepIn K (.ref ai) = true)
   (lS : PySem.W.findIn K (.ref ai) "place" = some none)
   (nR : PySem.W.findIn K (.ref ai) "past" = some none)
   (lT : PySem.W.findIn K (.ref ai) "boxes" = some none)
   (gM : PySem.W.findIn K (.ref ai) "first_rows" = some none)
   (x6 : PySem.W.nsIn K mainGlobals "NestRun" = some (some (.ref ah))) (uV : PySem.W.plainGet K ah Str.empty = true) (uW : PySem.W.hasDictIn K ah = true) (uX : PySem.W.plainOver K ah = true) (uY : PySem.W.findIn K (.ref ah) "__setattr__" = some (some (.builtin "object.__setattr__"))) (uZ : PySem.W.makesIn K ah = true) (u0 : PySem.W.keepIn K (.ref ah) = true)
   (kC : PySem.W.findIn K (.ref ah) "chart" = some none)
   (kD : PySem.W.findIn K (.ref ah) "place" = some none)
   (lU : PySem.W.findIn K (.ref ah) "past" = some none)
   (kE : PySem.W.findIn K (.ref ah) "boxes" = some none)
   (gy : PySem.W.findIn K (.ref ah) "first_rows" = some none)
   (x8 : PySem.W.nsIn K mainGlobals "_law_cell_at" = some (some (.ref xT))) (x9 : ki K "_law_cell_at" "_law_cell_at" sJ xT Qf)
   (Bq : PySem.W.nsIn K mainGlobals "_law_called" = some (some (.ref A9))) (Br : ki K "_law_called" "_law_called" vP A9 Uy)
   (Gj : PySem.W.nsIn K mainGlobals "_law_dealt" = some (some (.ref F0))) (Gk : ki K "_law_dealt" "_law_dealt" zm F0 Yg)
   (Gm : PySem.W.nsIn K mainGlobals "_law_turns" = some (some (.ref F2))) (Gn : ki K "_law_turns" "_law_turns" zq F2 Yh)
   (Gp : PySem.W.nsIn K mainGlobals "_law_deeds" = some (some (.ref F3))) (Gq : ki K "_law_deeds" "_law_deeds" zu F3 Yi)
   (rX : PySem.W.nsIn K mainGlobals "opened_in" = some (some (.ref rT))) (rY : ki K "opened_in" "opened_in" mQ rT rg)
   (Bs : PySem.W.nsIn K mainGlobals "opened" = some (some (.ref Ba))) (Bt : ki K "opened" "opened" vU Ba AK)
   (yb : PySem.W.nsIn K mainGlobals "in_rows" = some (some (.ref xU))) (yc : ki K "in_rows" "in_rows" sV xU oF)
   (Gr : PySem.W.nsIn K mainGlobals "begun" = some (some (.ref F4))) (Gs : ki K "begun" "begun" zx F4 FU)
   (Bu : PySem.W.nsIn K mainGlobals "firsts" = some (some (.ref Bb))) (Bv : ki K "firsts" "firsts" vV Bb A2)
   (Gu : PySem.W.nsIn K mainGlobals "value" = some (some (.ref F5))) (Gv : ki K "value" "value" zy F5 zA)
   (nS : PySem.W.nsIn K mainGlobals "with_number" = some (some (.ref nI))) (nT : ki K "with_number" "with_number" jS nI ni)
   (Bw : PySem.W.nsIn K mainGlobals "redone" = some (some (.ref Bc))) (By : ki K "redone" "redone" vX Bc AU)
   (L1 : PySem.W.nsIn K mainGlobals "done" = some (some (.ref LX))) (L4 : ki K "done" "done" Fl LX Le)
   (u5 : PySem.W.nsIn K mainGlobals "all_done" = some (some (.ref uQ))) (u6 : ki K "all_done" "all_done" pU uQ uH)
   (rZ : PySem.W.nsIn K mainGlobals "performed" = some (some (.ref rV))) (r6 : ki K "performed" "performed" mS rV kg)
   (qp : PySem.W.nsIn K mainGlobals "has_target" = some (some (.ref qi))) (qq : ki K "has_target" "has_target" kM qi pW)
   (Gw : PySem.W.nsIn K mainGlobals "above" = some (some (.ref F6))) (Gy : ki K "above" "above" zC F6 v9)
   (Gz : PySem.W.nsIn K mainGlobals "depth" = some (some (.ref F7))) (GA : ki K "depth" "depth" zE F7 Yj)
   (L5 : PySem.W.nsIn K mainGlobals "kept" = some (some (.ref LY))) (L6 : ki K "kept" "kept" Fx LY FL)
   {xP : Addr} {Yk : Option Addr} {Oe : Array Value} {Yl : Array (Option Value)} (GB : FL.code = .ref xP) (Og : K.lookup xP = some ⟨.type "code", Yk, .fields Oe, Yl⟩) (Oh : Oe[11]? = some (.ref aC)) (zI : PySem.W.codeHdIn K xP aC = true) (GC : aC ≠ 0) (GD : K.lookup aC = none) (GF : aC ∈ T0)
   (nU : PySem.W.nsIn K mainGlobals "open_leaves" = some (some (.ref nJ))) (nV : ki K "open_leaves" "open_leaves" jT nJ ny)
   (L7 : PySem.W.nsIn K mainGlobals "fits" = some (some (.ref LZ))) (L8 : ki K "fits" "fits" Fy LZ Lp)
   (BD : PySem.W.nsIn K mainGlobals "goable" = some (some (.ref Bd))) (BE : ki K "goable" "goable" wA Bd wB)
   {oM : Addr} {Qg : Option Addr} {Ea : Array Value} {Qh : Array (Option Value)} (yd : wB.code = .ref oM) (Eb : K.lookup oM = some ⟨.type "code", Qg, .fields Ea, Qh⟩) (Ec : Ea[11]? = some (.ref ay)) (tT : PySem.W.codeHdIn K oM ay = true) (ye : ay ≠ 0) (yf : K.lookup ay = none) (yg : ay ∈ T0)
   (u9 : PySem.W.nsIn K mainGlobals "all_hold" = some (some (.ref uR))) (vd : ki K "all_hold" "all_hold" p9 uR uJ)
   (nW : PySem.W.nsIn K mainGlobals "number_asks" = some (some (.ref nK))) (nX : ki K "number_asks" "number_asks" jU nK nA)
   (GH : PySem.W.nsIn K mainGlobals "picks" = some (some (.ref F8))) (GJ : ki K "picks" "picks" zF F8 FN)
   (ve : PySem.W.nsIn K mainGlobals "all_left" = some (some (.ref uS))) (vf : ki K "all_left" "all_left" qa uS uN)
   (qu : PySem.W.nsIn K mainGlobals "remembered" = some (some (.ref qj))) (qv : ki K "remembered" "remembered" kU qj qf)
   (nY : PySem.W.nsIn K mainGlobals "all_entered" = some (some (.ref nL))) (n5 : ki K "all_entered" "all_entered" jV nL nE)
   (vg : PySem.W.nsIn K mainGlobals "out_rows" = some (some (.ref uT))) (vh : ki K "out_rows" "out_rows" qd uT uO)
   (vm : PySem.W.nsIn K mainGlobals "way_rows" = some (some (.ref uU))) (vn : ki K "way_rows" "way_rows" qe uU uP)
   (GK : PySem.W.nsIn K mainGlobals "moved" = some (some (.ref F9))) (GL : ki K "moved" "moved" zH F9 FP)
   (jt : PySem.W.findIn K (.ref ah) "step_at" = some (some (.ref fW))) (ju : PySem.W.isFn K (.ref fW) = true) (jv : ki K "step_at" "NestRun.step_at" fV fW wL)
   (jw : PySem.W.findIn K (.ref ah) "dealt" = some (some (.ref jo))) (jx : PySem.W.isFn K (.ref jo) = true) (jy : ki K "dealt" "Runner.dealt" jh jo Be)
   (uh : PySem.W.findIn K (.ref ai) "__init__" = some (some (.ref gX))) (um : PySem.W.isFn K (.ref gX) = true) (n6 : ki K "__init__" "Runner.__init__" jW gX CM)
   (lV : PySem.W.specialIn K (.ref ai) "__getattribute__" = some (some (.builtin "type.__getattribute__"))) (lW : PySem.W.readsIn K ai (.type "type") = true) (lX : PySem.W.findCls K (.ref ai) (.type "type") "__init__" = some (.val (.ref gX)))
   (lY : PySem.W.findIn K (.ref ah) "__init__" = some (some (.ref jq))) (lZ : PySem.W.isFn K (.ref jq) = true) (r9 : ki K "__init__" "NestRun.__init__" jk jq Bf)
   (qw : PySem.W.findIn K (.ref aj) "__init__" = some (some (.ref k8))) (qx : PySem.W.isFn K (.ref k8) = true) (wM : ki K "__init__" "Chart.__init__" k7 k8 Ga)
   (sd : PySem.W.findIn K (.ref ak) "__init__" = some (some (.ref mZ))) (se : PySem.W.isFn K (.ref mZ) = true) (yN : ki K "__init__" "Tree.__init__" mW mZ JA)
   (mh : PySem.W.findIn K (.ref ah) "story" = some (some (.ref jr))) (mj : PySem.W.isFn K (.ref jr) = true) (mq : ki K "story" "Runner.story" jm jr Bg)
   (jM : PySem.W.findIn K (.ref ah) "numbers" = some (some (.ref gG))) (jN : PySem.W.isFn K (.ref gG) = true) (jO : ki K "numbers" "Runner.numbers" gF gG xV)
   (n8 : PySem.W.findIn K (.ref ah) "feed" = some (some (.ref j3))) (n9 : PySem.W.isFn K (.ref j3) = true) (oh : ki K "feed" "Runner.feed" jY j3 CN)
   (Oi : PySem.W.nsIn K mainGlobals "law" = some (some (.ref aan))) (Uz : ki K "law" "law" Oc aan aao)
   (UA : PySem.W.nsIn K mainGlobals "len" = some none)
   (GN : PySem.W.nsIn K mainGlobals "range" = some none)
   (UB : PySem.W.nsIn K mainGlobals "str" = some none)
   (UC : PySem.W.nsIn K mainGlobals "min" = some none)
   (UD : PySem.W.nsIn K mainGlobals "max" = some none)
   (UE : PySem.W.nsIn K mainGlobals "sum" = some none)
   (GO : PySem.W.nsIn K mainGlobals "tuple" = some none)
   (Ma : PySem.W.nsIn K mainGlobals "list" = some none)
   {UG : Tok} (GP : PySem.W.nsIn K mainGlobals "AFTER" = some (some (.int 3 UG)))
   {Oj : Addr} {UH : Option Addr} {zB : Nat} {UI : Array (Option Value)} {Mb Mf Mg Mh : Tok} (GQ : PySem.W.nsIn K mainGlobals "MARKS" = some (some (.ref Oj))) (BF : K.lookup Oj = some ⟨.type "tuple", UH, .seq #[.str "out" Mb, .str "keep" Mf, .str "way" Mg, .str "in" Mh] zB, UI⟩)
   {Qi : Tok} (BG : PySem.W.nsIn K mainGlobals "TARGET" = some (some (.int 4 Qi)))
   (BH : PySem.W.nsIn K mainGlobals "sorted" = some none)
   (UJ : PySem.W.nsIn K mainGlobals "any" = some none)
   {Qj : Tok} (BI : PySem.W.nsIn K mainGlobals "SOURCE" = some (some (.int 0 Qj)))
   (sf : PySem.W.nsIn K mainGlobals "enumerate" = some none)
   {Ym : Tok} (Mi : PySem.W.nsIn K mainGlobals "SIGN" = some (some (.int 1 Ym)))
   {Yn : Tok} (Mj : PySem.W.nsIn K mainGlobals "ASKS" = some (some (.int 2 Yn)))
   {Yo : Tok} (Ml : PySem.W.nsIn K mainGlobals "MODE" = some (some (.int 5 Yo)))
   {UK : Tok} (GR : PySem.W.nsIn K mainGlobals "DEEDS" = some (some (.int 3 UK)))
   {CP : Tok} (qy : PySem.W.nsIn K mainGlobals "MOST_SIGNS" = some (some (.int 8 CP)))
   (mw : ay ≠ aC)
   : ∃ (fd : FuncData) (ts : List (Addr × Str)), (∀ p ∈ ts, p.1 ∈ T0 /\ ts.lookup p.1 = some p.2 /\ K.lookup p.1 = none /\ ∃ c, PySem.W.CodeHd h c p.1) /\ (∀ (s : Shared) (v : Value), BindsTo s fd ⟨[v], []⟩ [("script", v)]) /\ ∀ base : Heap, K.In base -> base.Ns mainGlobals mg -> Ae mg base -> bN l.prog w K mg base fO 11 fa fd ["script"] (spT K ts 1 tP tQ tR) := by
 have e := hfa.symm.trans (akL XX G Oi)
 cases e
 have Qk := akL XX G x8
 have Ql := x9.binds (ps := ["script", "k"]) fun _ _ _ _ _ _ => by refine bG ?_; exact fun _ _ => rfl
 have UL := akL XX G Bq
 have UM := Br.binds (ps := ["cell", "most", "many"]) fun _ _ _ _ _ _ => by refine bG ?_; exact fun _ _ _ => rfl
 have Yp := akL XX G Gj
 have Yq := Gk.binds (ps := ["rows", "waiting", "parts", "number"]) fun _ _ _ _ _ _ => by refine bG ?_; exact fun _ _ _ _ => rfl
 have Yr := akL XX G Gm
 have Ys := Gn.binds (ps := ["script", "start", "most"]) fun _ _ _ _ _ _ => by refine bG ?_; exact fun _ _ _ => rfl
 have Yt := akL XX G Gp
 have Yu := Gq.binds (ps := ["part"]) fun _ _ _ _ _ _ => by refine bG ?_; exact fun _ => rfl
 have JB := akL XX G rX
 have JC := rY.binds (ps := ["tree", "memory", "mood", "mode"]) fun _ _ _ _ _ _ => by refine bG ?_; exact fun _ _ _ _ => rfl
 have UN := akL XX G Bs
 have UO := Bt.binds (ps := ["tree", "memory", "mood", "mode"]) fun _ _ _ _ _ _ => by refine bG ?_; exact fun _ _ _ _ => rfl
 have Qm := akL XX G yb
 have Qn := yc.binds (ps := ["chart", "come"]) fun _ _ _ _ _ _ => by refine bG ?_; exact fun _ _ => rfl
 have Yv := akL XX G Gr
 have Yw := Gs.binds (ps := ["chart"]) fun _ _ _ _ _ _ => by refine bG ?_; exact fun _ => rfl
 have UQ := akL XX G Bu
 have UR := Bv.binds (ps := ["chart"]) fun _ _ _ _ _ _ => by refine bG ?_; exact fun _ => rfl
 have Yx := akL XX G Gu
 have Yy := Gv.binds (ps := ["term", "boxes"]) fun _ _ _ _ _ _ => by refine bG ?_; exact fun _ _ => rfl
 have CQ := akL XX G nS
 have CT := nT.binds (ps := ["row", "place", "boxes"]) fun _ _ _ _ _ _ => by refine bG ?_; exact fun _ _ _ => rfl
 have UT := akL XX G Bw
 have UU := By.binds (ps := ["row", "boxes"]) fun _ _ _ _ _ _ => by refine bG ?_; exact fun _ _ => rfl
 have acF := akL XX G L1
 have acG := L4.binds (ps := ["deed", "boxes"]) fun _ _ _ _ _ _ => by refine bG ?_; exact fun _ _ => rfl
 have Mm := akL XX G u5
 have Mp := u6.binds (ps := ["deeds", "boxes"]) fun _ _ _ _ _ _ => by refine bG ?_; exact fun _ _ => rfl
 have JD := akL XX G rZ
 have JF := r6.binds (ps := ["script", "boxes"]) fun _ _ _ _ _ _ => by refine bG ?_; exact fun _ _ => rfl
 have GU := akL XX G qp
 have GV := qq.binds (ps := ["chart", "number"]) fun _ _ _ _ _ _ => by refine bG ?_; exact fun _ _ => rfl
 have Yz := akL XX G Gw
 have YB := Gy.binds (ps := ["tree", "mood"]) fun _ _ _ _ _ _ => by refine bG ?_; exact fun _ _ => rfl
 have YC := akL XX G Gz
 have YD := GA.binds (ps := ["tree", "mood"]) fun _ _ _ _ _ _ => by refine bG ?_; exact fun _ _ => rfl
 have acH := akL XX G L5
 have acI := L6.binds (ps := ["chart", "found"]) fun _ _ _ _ _ _ => by refine bG ?_; exact fun _ _ => rfl
 have CV := akL XX G nU
 have CW := nV.binds (ps := ["chart", "opens"]) fun _ _ _ _ _ _ => by refine bG ?_; exact fun _ _ => rfl
 have acJ := akL XX G L7
 have acK := L8.binds (ps := ["asks", "opens"]) fun _ _ _ _ _ _ => by refine bG ?_; exact fun _ _ => rfl
 have UW := akL XX G BD
 have UX := BE.binds (ps := ["chart", "opens", "leaf", "sign"]) fun _ _ _ _ _ _ => by refine bG ?_; exact fun _ _ _ _ => rfl
 have Mq := akL XX G u9
 have Mr := vd.binds (ps := ["asks", "boxes"]) fun _ _ _ _ _ _ => by refine bG ?_; exact fun _ _ => rfl
 have CY := akL XX G nW
 have CZ := nX.binds (ps := ["chart", "way"]) fun _ _ _ _ _ _ => by refine bG ?_; exact fun _ _ => rfl
 have YF := akL XX G GH
 have YG := GJ.binds (ps := ["chart", "opens", "boxes", "sign"]) fun _ _ _ _ _ _ => by refine bG ?_; exact fun _ _ _ _ => rfl
 have Ms := akL XX G ve
 have Mt := vf.binds (ps := ["chart", "opens", "going"]) fun _ _ _ _ _ _ => by refine bG ?_; exact fun _ _ _ => rfl
 have GX := akL XX G qu
 have GY := qv.binds (ps := ["tree", "memory", "opens", "moods"]) fun _ _ _ _ _ _ => by refine bG ?_; exact fun _ _ _ _ => rfl
 have C1 := akL XX G nY
 have C2 := n5.binds (ps := ["chart", "memory", "going"]) fun _ _ _ _ _ _ => by refine bG ?_; exact fun _ _ _ => rfl
 have Mu := akL XX G vg
 have Mv := vh.binds (ps := ["chart", "gone", "memory", "behind"]) fun _ _ _ _ _ _ => by refine bG ?_; exact fun _ _ _ _ => rfl
 have Mw := akL XX G vm
 have Mx := vn.binds (ps := ["chart", "ways"]) fun _ _ _ _ _ _ => by refine bG ?_; exact fun _ _ => rfl
 have YH := akL XX G GK
 have YJ := GL.binds (ps := ["chart", "opens", "memory", "ways"]) fun _ _ _ _ _ _ => by refine bG ?_; exact fun _ _ _ _ => rfl
 have wN := jv.binds (ps := ["self", "sign"]) fun _ _ _ _ _ _ => by refine bG ?_; exact fun _ _ => rfl
 have sr := jy.binds (ps := ["self", "called"]) fun _ _ _ _ _ _ => by refine bG ?_; exact fun _ _ => rfl
 have C3 := n6.binds (ps := ["self", "boxes", "place", "script"]) fun _ _ _ _ _ _ => by refine bG ?_; exact fun _ _ _ _ => rfl
 have BJ := r9.binds (ps := ["self", "chart"]) fun _ _ _ _ _ _ => by refine bG ?_; exact fun _ _ => rfl
 have GZ := wM.binds (ps := ["self", "boxes", "names", "tree", "ins", "outs", "ways"]) fun _ _ _ _ _ _ => by refine bG ?_; exact fun _ _ _ _ _ _ _ => rfl
 have JG := yN.binds (ps := ["self", "kinds", "elders", "starts"]) fun _ _ _ _ _ _ => by refine bG ?_; exact fun _ _ _ _ => rfl
 have BK := mq.binds (ps := ["self"]) fun _ _ _ _ _ _ => by refine bG ?_; exact fun _ => rfl
 have yh := jO.binds (ps := ["self"]) fun _ _ _ _ _ _ => by refine bG ?_; exact fun _ => rfl
 have C4 := oh.binds (ps := ["self", "sign"]) fun _ _ _ _ _ _ => by refine bG ?_; exact fun _ _ => rfl
 have aip := akL XX G Oi
 have aiq := Uz.binds (ps := ["script"]) fun _ _ _ _ _ _ => by refine bG ?_; exact fun _ => rfl
 have YK := akL XX G Gb
 have aY : iP K aj := ⟨Bh, Bj, Bk, Bl⟩
 have dm : iP K ((cl aj ak ai ah aC ay) "Chart") := by rw [jn]; exact aY
 have eK : aF K ((cl aj ak ai ah aC ay) "Chart") "boxes" := by rw [jn]; exact nM
 have uo : aF K ((cl aj ak ai ah aC ay) "Chart") "names" := by rw [jn]; exact nO
 have eu : aF K ((cl aj ak ai ah aC ay) "Chart") "tree" := by rw [jn]; exact qk
 have yO : aF K ((cl aj ak ai ah aC ay) "Chart") "ins" := by rw [jn]; exact rW
 have wO : aF K ((cl aj ak ai ah aC ay) "Chart") "outs" := by rw [jn]; exact ql
 have fB : aF K ((cl aj ak ai ah aC ay) "Chart") "ways" := by rw [jn]; exact qm
 have acL := akL XX G L0
 have iY : iP K ak := ⟨Gd, Ge, Gf, Gg⟩
 have BL : iP K ((cl aj ak ai ah aC ay) "Tree") := by rw [tS]; exact iY
 have k9 : aF K ((cl aj ak ai ah aC ay) "Tree") "kinds" := by rw [tS]; exact qo
 have oi : aF K ((cl aj ak ai ah aC ay) "Tree") "elders" := by rw [tS]; exact nP
 have uq : aF K ((cl aj ak ai ah aC ay) "Tree") "starts" := by rw [tS]; exact nQ
 have UY := akL XX G Bp
 have UZ : iP K ai := ⟨xW, xX, xY, xZ⟩
 have aeY : iP K ((cl aj ak ai ah aC ay) "Runner") := by rw [jL]; exact UZ
 have U0 : aF K ((cl aj ak ai ah aC ay) "Runner") "place" := by rw [jL]; exact lS
 have VA : aF K ((cl aj ak ai ah aC ay) "Runner") "past" := by rw [jL]; exact nR
 have U1 : aF K ((cl aj ak ai ah aC ay) "Runner") "boxes" := by rw [jL]; exact lT
 have J5 : aF K ((cl aj ak ai ah aC ay) "Runner") "first_rows" := by rw [jL]; exact gM
 have Qo := akL XX G x6
 have aN : iP K ah := ⟨uV, uW, uX, uY⟩
 have gH : iP K ((cl aj ak ai ah aC ay) "NestRun") := by rw [bL]; exact aN
 have qD : aF K ((cl aj ak ai ah aC ay) "NestRun") "chart" := by rw [bL]; exact kC
 have iB : aF K ((cl aj ak ai ah aC ay) "NestRun") "place" := by rw [bL]; exact kD
 have mz : aF K ((cl aj ak ai ah aC ay) "NestRun") "past" := by rw [bL]; exact lU
 have c7 : aF K ((cl aj ak ai ah aC ay) "NestRun") "boxes" := by rw [bL]; exact kE
 have kh : aF K ((cl aj ak ai ah aC ay) "NestRun") "first_rows" := by rw [bL]; exact gy
 have Ed := alp XX G UA
 have G0 := alp XX G GN
 have U3 := alp XX G UB
 have aeZ := alp XX G UC
 have ae0 := alp XX G UD
 have ae1 := alp XX G UE
 have G3 := alp XX G GO
 have kF := alp XX G Ma
 have YL : ∃ u, mg "AFTER" = some (.int 3 u) := ⟨_, akL XX G GP⟩
 have YM := akL XX G GQ
 have JH : ∃ u, mg "TARGET" = some (.int 4 u) := ⟨_, akL XX G BG⟩
 have su := alp XX G BH
 have ae2 := alp XX G UJ
 have JK : ∃ u, mg "SOURCE" = some (.int 0 u) := ⟨_, akL XX G BI⟩
 have JL := alp XX G sf
 have acM : ∃ u, mg "SIGN" = some (.int 1 u) := ⟨_, akL XX G Mi⟩
 have U4 : ∃ u, mg "ASKS" = some (.int 2 u) := ⟨_, akL XX G Mj⟩
 have acN : ∃ u, mg "MODE" = some (.int 5 u) := ⟨_, akL XX G Ml⟩
 have YN : ∃ u, mg "DEEDS" = some (.int 3 u) := ⟨_, akL XX G GR⟩
 have G4 : ∃ u, mg "MOST_SIGNS" = some (.int 8 u) := ⟨_, akL XX G qy⟩
 refine ⟨aao, [(aC, "kept.<locals>.<lambda>"), (ay, "goable.<locals>.<lambda>")], ?tabs, ?bind, fun base kb _ bl => ?_⟩
 case tabs =>
   intro p hp
   simp only [akB, akR, alD] at hp
   rcases hp with rfl | rfl
   . exact ⟨GF, by simp only [akW, alN], GD, xP, PySem.W.codeHd_of_K XX zI⟩
   . exact ⟨yg, by simp only [akW, alN, beq_false_of_ne mw], yf, oM, PySem.W.codeHd_of_K XX tT⟩
 case bind =>
   obtain ⟨oc, od, kV, doc, pm, an, dF, ct, QC, rfl, lk, j4⟩ := Uz.ex
   exact fun s v => .of_eq rfl
 have Qp : bN l.prog w K mg base fO 1 xT _ ["script", "k"] (mE K (cl aj ak ai ah aC ay) 2 mL mO mP) := bH x9 Az fun dF Ar outer s H E b a hr hp => by
   obtain ⟨p0, p1⟩ := a; refine P6 ?_ p0 p1 hp
   exact ⟨⟨⟨Az.nd, rfl, .never⟩, hr.units⟩, bB uF 0, bB uF 1, eX uF 2, Ed⟩
 have Qq := dP Qp Qk x9.kp Ql
 have U5 : bN l.prog w K mg base fO 1 A9 _ ["cell", "most", "many"] (mE K (cl aj ak ai ah aC ay) 3 pG iE pH) := bH Br D0 fun dF Ar outer s H E b a hr hp => by
   obtain ⟨p0, p1, p2⟩ := a; refine TX ?_ p0 p1 p2 hp
   exact ⟨⟨⟨D0.nd, rfl, .never⟩, hr.units⟩, bB lu 0, bB lu 1, bB lu 2, bB lu 3, bB lu 4, eX lu 5, G0⟩
 have U6 := dP U5 UL Br.kp UM
 have YQ : bN l.prog w K mg base fO 1 F0 _ ["rows", "waiting", "parts", "number"] (Sn K (cl aj ak ai ah aC ay) 4 oA lz oB ly) := EL Gk Jd (fun a hp => by
   obtain ⟨p0, p1, p2, p3, p4⟩ := a; dsimp only [oA, ly]
   repeat (first | exact trivial | refine ⟨rfl, ?_⟩)) fun dF Ar outer s H E b a hr hp => by
   obtain ⟨p0, p1, p2, p3, p4⟩ := a; refine Xq ?_ p0 p1 p2 p3 p4 hp
   exact ⟨⟨⟨Jd.nd, rfl, .never⟩, hr.units⟩, bB iW 0, bB iW 1, bB iW 2, bB iW 3, bB iW 4, bB iW 5, bB iW 6, eX iW 7, eX iW 8, U3, Ed⟩
 have YR : bN l.prog w K mg base fO 1 F2 _ ["script", "start", "most"] (mE K (cl aj ak ai ah aC ay) 3 sP oE sQ) := bH Gn Je fun dF Ar outer s H E b a hr hp => by
   obtain ⟨p0, p1, p2⟩ := a; refine Xv ?_ p0 p1 p2 hp
   exact ⟨⟨⟨Je.nd, rfl, .never⟩, hr.units⟩, Sl f7 0, fQ f7 0 rfl, Sl f7 1, fQ f7 1 rfl, Sl f7 2, fQ f7 2 rfl, bB f7 3, eX f7 4, eX f7 5, eX f7 6, eX f7 7, aeZ, ae0, Ed, G0, ae1⟩
 have YS := dP YR Yr Gn.kp Ys
 have YT : bN l.prog w K mg base fO 1 F3 _ ["part"] (mE K (cl aj ak ai ah aC ay) 1 sR sS sU) := bH Gq Jf fun dF Ar outer s H E b a hr hp => by
   refine Xy ?_ a hp
   exact ⟨⟨⟨Jf.nd, rfl, .never⟩, hr.units⟩, bB AH 0, bB AH 1, eX AH 2, G3, U3⟩
 have YV := dP YT Yt Gq.kp Yu
 have JM : bN l.prog w K mg base fO 1 rT _ ["tree", "memory", "mood", "mode"] (mE K (cl aj ak ai ah aC ay) 4 jP jQ jR) := bH rY vS fun dF Ar outer s H E b a hr hp => by
   refine Jh ?_ a hp
   exact ⟨⟨⟨vS.nd, rfl, .never⟩, hr.units⟩, bB iZ 0, bB iZ 1, bB iZ 2, bB iZ 3, bB iZ 4, BL, k9, uq⟩
 have JN := dP JM JB rY.kp JC
 have U7 : bN l.prog w K mg base fO 2 Ba _ ["tree", "memory", "mood", "mode"] (mE K (cl aj ak ai ah aC ay) 4 pJ pL pM) := bH Bt D3 fun dF Ar outer s H E b a hr hp => by
   refine T7 ?_ a hp
   exact ⟨⟨⟨D3.nd, rfl, .never⟩, hr.units⟩, bB iL 0, bB iL 1, bB iL 2, bB iL 3, bB iL 4, bB iL 5, bB iL 6, eX iL 7, fY JN hr⟩
 have U8 := dP U7 UN Bt.kp UO
 have Qs : bN l.prog w K mg base fO 1 xU _ ["chart", "come"] (mE K (cl aj ak ai ah aC ay) 2 j7 gb j8) := bH yc AJ fun dF Ar outer s H E b a hr hp => by
   obtain ⟨p0, p1, p2, p3, p4⟩ := a; refine P9 ?_ p0 p1 p2 p3 p4 hp
   exact ⟨⟨⟨AJ.nd, rfl, .never⟩, hr.units⟩, bB pN 0, bB pN 1, bB pN 2, bB pN 3, dm, yO⟩
 have Ef := dP Qs Qm yc.kp Qn
 have YW : bN l.prog w K mg base fO 3 F4 _ ["chart"] (mE K (cl aj ak ai ah aC ay) 1 sW sX sY) := bH Gs Jj fun dF Ar outer s H E b a hr hp => by
   obtain ⟨p0, p1, p2, p3⟩ := a; refine XC ?_ p0 p1 p2 p3 hp
   exact ⟨⟨⟨Jj.nd, rfl, .never⟩, hr.units⟩, bB oG 0, bB oG 1, bB oG 2, eX oG 3, eX oG 4, eX oG 5, Ed, fY U8 hr, fY Ef hr, dm, eu, uo⟩
 have YX := dP YW Yv Gs.kp Yw
 have U9 : bN l.prog w K mg base fO 1 Bb _ ["chart"] (mE K (cl aj ak ai ah aC ay) 1 pO pP pQ) := bH Bv D4 fun dF Ar outer s H E b a hr hp => by
   obtain ⟨p0, p1, p2, p3, p4, p5⟩ := a; refine Ua ?_ p0 p1 p2 p3 p4 p5 hp
   exact ⟨⟨⟨D4.nd, rfl, .never⟩, hr.units⟩, bB Qa 0, dm, gH, eK, c7⟩
 have Va := dP U9 UQ Bv.kp UR
 have YY : bN l.prog w K mg base fO 1 F5 _ ["term", "boxes"] (mE K (cl aj ak ai ah aC ay) 2 sZ tu tD) := bH Gv Jk fun dF Ar outer s H E b a hr hp => by
   obtain ⟨p0, p1, p2⟩ := a; refine XE ?_ p0 p1 p2 hp
   exact ⟨⟨⟨Jk.nd, rfl, .never⟩, hr.units⟩, bB vW 0, bB vW 1, bB vW 2, bB vW 3⟩
 have YZ := dP YY Yx Gv.kp Yy
 have C5 : bN l.prog w K mg base fO 1 nI _ ["row", "place", "boxes"] (mE K (cl aj ak ai ah aC ay) 3 g6 g7 g8) := bH nT rC fun dF Ar outer s H E b a hr hp => by
   obtain ⟨p0, p1, p2⟩ := a; refine Cp ?_ p0 p1 p2 hp
   exact ⟨⟨⟨rC.nd, rfl, .never⟩, hr.units⟩, bB gf 0, bB gf 1, bB gf 2, bB gf 3, eX gf 4, kF⟩
 have C6 := dP C5 CQ nT.kp CT
 have Vb : bN l.prog w K mg base fO 2 Bc _ ["row", "boxes"] (mE K (cl aj ak ai ah aC ay) 2 pR pS pT) := bH By D5 fun dF Ar outer s H E b a hr hp => by
   obtain ⟨p0, p1⟩ := a; refine Ue ?_ p0 p1 hp
   exact ⟨⟨⟨D5.nd, rfl, .never⟩, hr.units⟩, bB tE 0, bB tE 1, eX tE 2, eX tE 3, fY C6 hr, YL⟩
 have Vc := dP Vb UT By.kp UU
 have acO : bN l.prog w K mg base fO 3 LX _ ["deed", "boxes"] (mE K (cl aj ak ai ah aC ay) 2 vY vZ v5) := bH L4 N5 fun dF Ar outer s H E b a hr hp => by
   obtain ⟨p0, p1⟩ := a; refine acj ?_ p0 p1 hp
   exact ⟨⟨⟨N5.nd, rfl, .never⟩, hr.units⟩, bB tF 0, bB tF 1, bB tF 2, bB tF 3, eX tF 4, eX tF 5, fY YZ hr, fY Vc hr⟩
 have acP := dP acO acF L4.kp acG
 have My : bN l.prog w K mg base fO 4 uQ _ ["deeds", "boxes"] (mE K (cl aj ak ai ah aC ay) 2 kL i6 i7) := bH u6 yH fun dF Ar outer s H E b a hr hp => by
   obtain ⟨p0, p1, p2⟩ := a; refine Lf ?_ p0 p1 p2 hp
   exact ⟨⟨⟨yH.nd, rfl, .never⟩, hr.units⟩, bB ef 0, bB ef 1, bB ef 2, bB ef 3, bB ef 4, bB ef 5, bB ef 6, eX ef 7, eX ef 8, kF, fY acP hr⟩
 have Mz := dP My Mm u6.kp Mp
 have JQ : bN l.prog w K mg base fO 5 rV _ ["script", "boxes"] (mE K (cl aj ak ai ah aC ay) 2 gS eG gT) := bH r6 v7 fun dF Ar outer s H E b a hr hp => by
   obtain ⟨p0, p1, p2⟩ := a; refine Jm ?_ p0 p1 p2 hp
   exact ⟨⟨⟨v7.nd, rfl, .never⟩, hr.units⟩, bB cW 0, bB cW 1, bB cW 2, bB cW 3, bB cW 4, bB cW 5, bB cW 6, eX cW 7, eX cW 8, eX cW 9, kF, aej YM BF (aA rfl) (.cons ⟨_, rfl⟩ (.cons ⟨_, rfl⟩ (.cons ⟨_, rfl⟩ (.cons ⟨_, rfl⟩ (.nil))))), fY Mz hr⟩
 have yP := dP JQ JD r6.kp JF
 have G5 : bN l.prog w K mg base fO 1 qi _ ["chart", "number"] (mE K (cl aj ak ai ah aC ay) 2 gj dR gk) := bH qq t9 fun dF Ar outer s H E b a hr hp => by
   obtain ⟨p0, p1, p2, p3, p4⟩ := a; refine Fp ?_ p0 p1 p2 p3 p4 hp
   exact ⟨⟨⟨t9.nd, rfl, .never⟩, hr.units⟩, bB nj 0, bB nj 1, eX nj 2, JH, dm, fB⟩
 have wQ := dP G5 GU qq.kp GV
 have Y0 : bN l.prog w K mg base fO 1 F6 _ ["tree", "mood"] (mE K (cl aj ak ai ah aC ay) 2 oH lA oJ) := bH Gy Jq fun dF Ar outer s H E b a hr hp => by
   obtain ⟨p0, p1, p2, p3⟩ := a; refine XI ?_ p0 p1 p2 p3 hp
   exact ⟨⟨⟨Jq.nd, rfl, .never⟩, hr.units⟩, bB v8 0, bB v8 1, bB v8 2, bB v8 3, BL, oi⟩
 have Ol := dP Y0 Yz Gy.kp YB
 have Y3 : bN l.prog w K mg base fO 2 F7 _ ["tree", "mood"] (mE K (cl aj ak ai ah aC ay) 2 tG oK tH) := bH GA Jr fun dF Ar outer s H E b a hr hp => by
   obtain ⟨p0, p1, p2, p3⟩ := a; refine XM ?_ p0 p1 p2 p3 hp
   exact ⟨⟨⟨Jr.nd, rfl, .never⟩, hr.units⟩, bB wc 0, bB wc 1, eX wc 2, eX wc 3, Ed, fY Ol hr⟩
 have Y4 := dP Y3 YC GA.kp YD
 have acQ : bN l.prog w K mg base fO 4 LY _ ["chart", "found"] (mE K (cl aj ak ai ah aC ay) 2 wg rG wj) := IG L6 N7 fun dF Ar outer s H E b a j4 hr hp => by
   obtain ⟨p0, p1, p2, p3, p4⟩ := a; refine aco ?_ p0 p1 p2 p3 p4 hp
   exact ⟨⟨⟨N7.nd, rfl, .never⟩, hr.units⟩, Sl i9 0, fQ i9 0 rfl, bB i9 1, bB i9 2, bB i9 3, bB i9 4, Sl i9 5, fQ i9 5 rfl, eX i9 6, eX i9 7, eX i9 8, su, fY wQ hr, ae2, fY Y4 hr, JK, dm, eu, fB, aey bl kb j4 GB (by rw [D7]; exact zI) (by rw [D7]; exact GC), NT hr, hr⟩
 have acR := dP acQ acH L6.kp acI
 have C7 : bN l.prog w K mg base fO 1 nJ _ ["chart", "opens"] (mE K (cl aj ak ai ah aC ay) 2 g9 fC ia) := bH nV rH fun dF Ar outer s H E b a hr hp => by
   obtain ⟨p0, p1, p2, p3, p4, p5, p6, p7, p8⟩ := a; refine Ct ?_ p0 p1 p2 p3 p4 p5 p6 p7 p8 hp
   exact ⟨⟨⟨rH.nd, rfl, .never⟩, hr.units⟩, Sl lK 0, fQ lK 0 rfl, bB lK 1, dm, BL, k9, eu⟩
 have C8 := dP C7 CV nV.kp CW
 have acS : bN l.prog w K mg base fO 1 LZ _ ["asks", "opens"] (mE K (cl aj ak ai ah aC ay) 2 wm wo wu) := bH L8 N8 fun dF Ar outer s H E b a hr hp => by
   refine acq ?_ a hp
   exact ⟨⟨⟨N8.nd, rfl, .never⟩, hr.units⟩, bB Fz 0, bB Fz 1, bB Fz 2⟩
 have acT := dP acS acJ L8.kp acK
 have Vd : bN l.prog w K mg base fO 2 Bd _ ["chart", "opens", "leaf", "sign"] (mE K (cl aj ak ai ah aC ay) 4 pY pZ lM) := IG BE D6 fun dF Ar outer s H E b a j4 hr hp => by
   obtain ⟨p0, p1, p2, p3, p4⟩ := a; refine Uk ?_ p0 p1 p2 p3 p4 hp
   exact ⟨⟨⟨D6.nd, rfl, .never⟩, hr.units⟩, Sl cA 0, fQ cA 0 rfl, bB cA 1, bB cA 2, bB cA 3, bB cA 4, bB cA 5, bB cA 6, Sl cA 7, fQ cA 7 rfl, eX cA 8, eX cA 9, eX cA 10, eX cA 11, eX cA 12, eX cA 13, eX cA 14, fY Ol hr, JL, acM, JK, fY acT hr, U4, su, dm, fB, eu, aey bl kb j4 yd (by rw [yM]; exact tT) (by rw [yM]; exact ye), NT hr, hr⟩
 have Ve := dP Vd UW BE.kp UX
 have MA : bN l.prog w K mg base fO 1 uR _ ["asks", "boxes"] (mE K (cl aj ak ai ah aC ay) 2 kN kO kP) := bH vd yI fun dF Ar outer s H E b a hr hp => by
   refine Lv ?_ a hp
   exact ⟨⟨⟨yI.nd, rfl, .never⟩, hr.units⟩, bB rJ 0, bB rJ 1, bB rJ 2⟩
 have MB := dP MA Mq vd.kp Mr
 have C9 : bN l.prog w K mg base fO 1 nK _ ["chart", "way"] (mE K (cl aj ak ai ah aC ay) 2 ic fD ig) := bH nX rK fun dF Ar outer s H E b a hr hp => by
   obtain ⟨p0, p1, p2, p3, p4⟩ := a; refine Cv ?_ p0 p1 p2 p3 p4 hp
   exact ⟨⟨⟨rK.nd, rfl, .never⟩, hr.units⟩, bB ja 0, bB ja 1, eX ja 2, eX ja 3, G3, U4, dm, fB⟩
 have Dc := dP C9 CY nX.kp CZ
 have Y5 : bN l.prog w K mg base fO 3 F8 _ ["chart", "opens", "boxes", "sign"] (mE K (cl aj ak ai ah aC ay) 4 tK tL tM) := bH GJ Ju fun dF Ar outer s H E b a hr hp => by
   obtain ⟨p0, p1, p2, p3, p4, p5⟩ := a; refine XR ?_ p0 p1 p2 p3 p4 p5 hp
   exact ⟨⟨⟨Ju.nd, rfl, .never⟩, hr.units⟩, bB fE 0, bB fE 1, bB fE 2, bB fE 3, bB fE 4, bB fE 5, bB fE 6, eX fE 7, eX fE 8, eX fE 9, eX fE 10, eX fE 11, fY C8 hr, fY Ve hr, fY MB hr, fY Dc hr, kF⟩
 have Y6 := dP Y5 YF GJ.kp YG
 have MC : bN l.prog w K mg base fO 1 uS _ ["chart", "opens", "going"] (mE K (cl aj ak ai ah aC ay) 3 kQ kR kT) := bH vf yJ fun dF Ar outer s H E b a hr hp => by
   obtain ⟨p0, p1⟩ := a; refine Ly ?_ p0 p1 hp
   exact ⟨⟨⟨yJ.nd, rfl, .never⟩, hr.units⟩, bB iM 0, bB iM 1, bB iM 2, bB iM 3, bB iM 4, eX iM 5, su, dm, eu⟩
 have MD := dP MC Ms vf.kp Mt
 have G6 : bN l.prog w K mg base fO 1 qj _ ["tree", "memory", "opens", "moods"] (mE K (cl aj ak ai ah aC ay) 4 jc jd je) := bH qv ua fun dF Ar outer s H E b a hr hp => by
   refine FG ?_ a hp
   exact ⟨⟨⟨ua.nd, rfl, .never⟩, hr.units⟩, bB dB 0, bB dB 1, bB dB 2, bB dB 3, bB dB 4, bB dB 5, bB dB 6, eX dB 7, kF, BL, oi, k9⟩
 have G7 := dP G6 GX qv.kp GY
 have Dd : bN l.prog w K mg base fO 1 nL _ ["chart", "memory", "going"] (mE K (cl aj ak ai ah aC ay) 3 iu iy iz) := bH n5 rL fun dF Ar outer s H E b a hr hp => by
   obtain ⟨p0, p1⟩ := a; refine CB ?_ p0 p1 hp
   exact ⟨⟨⟨rL.nd, rfl, .never⟩, hr.units⟩, bB cH 0, bB cH 1, bB cH 2, bB cH 3, bB cH 4, bB cH 5, eX cH 6, eX cH 7, eX cH 8, JH, acN, su, dm, fB, eu⟩
 have De := dP Dd C1 n5.kp C2
 have MF : bN l.prog w K mg base fO 1 uT _ ["chart", "gone", "memory", "behind"] (mE K (cl aj ak ai ah aC ay) 4 kW kX kY) := bH vh yK fun dF Ar outer s H E b a hr hp => by
   obtain ⟨p0, p1, p2⟩ := a; refine LC ?_ p0 p1 p2 hp
   exact ⟨⟨⟨yK.nd, rfl, .never⟩, hr.units⟩, bB iN 0, bB iN 1, bB iN 2, bB iN 3, bB iN 4, bB iN 5, dm, wO⟩
 have MG := dP MF Mu vh.kp Mv
 have MH : bN l.prog w K mg base fO 1 uU _ ["chart", "ways"] (mE K (cl aj ak ai ah aC ay) 2 kZ jf k6) := bH vn yL fun dF Ar outer s H E b a hr hp => by
   obtain ⟨p0, p1, p2, p3, p4⟩ := a; refine LK ?_ p0 p1 p2 p3 p4 hp
   exact ⟨⟨⟨yL.nd, rfl, .never⟩, hr.units⟩, bB j9 0, bB j9 1, bB j9 2, bB j9 3, eX j9 4, YN, dm, fB⟩
 have MJ := dP MH Mw vn.kp Mx
 have Y7 : bN l.prog w K mg base fO 2 F9 _ ["chart", "opens", "memory", "ways"] (mE K (cl aj ak ai ah aC ay) 4 tN oN tO) := bH GL Jv fun dF Ar outer s H E b a hr hp => by
   obtain ⟨p0, p1, p2, p3, p4⟩ := a; refine XY ?_ p0 p1 p2 p3 p4 hp
   exact ⟨⟨⟨Jv.nd, rfl, .never⟩, hr.units⟩, Sl cR 0, fQ cR 0 rfl, bB cR 1, bB cR 2, bB cR 3, bB cR 4, Sl cR 5, fQ cR 5 rfl, bB cR 6, bB cR 7, bB cR 8, eX cR 9, eX cR 10, eX cR 11, eX cR 12, eX cR 13, eX cR 14, eX cR 15, fY MD hr, fY G7 hr, fY De hr, fY MG hr, fY MJ hr, fY Ef hr, su, fY wQ hr, dm, eu⟩
 have Y8 := dP Y7 YH GL.kp YJ
 have wR : bN l.prog w K mg base fO 5 fW _ ["self", "sign"] (mE K (cl aj ak ai ah aC ay) 2 eS c9 eU) := bH jv lO fun dF Ar outer s H E b a hr hp => by
   obtain ⟨p0, p1, p2, p3, p4, p5, p6, p7⟩ := a; refine wG ?_ p0 p1 p2 p3 p4 p5 p6 p7 hp
   exact ⟨⟨⟨lO.nd, rfl, .never⟩, hr.units⟩, bB bZ 0, bB bZ 1, bB bZ 2, bB bZ 3, bB bZ 4, eX bZ 5, eX bZ 6, eX bZ 7, fY acR hr, fY Y6 hr, fY Y8 hr, dm, gH, iB, qD, eK, c7⟩
 have sy : bN l.prog w K mg base fO 6 jo _ ["self", "called"] (Sn K (cl aj ak ai ah aC ay) 2 dH cV dI cU) := EL jy qA (fun a hp => by
   obtain ⟨p0, p1, p2, p3, p4, p5, p6, p7, p8⟩ := a; dsimp only [dH, cU]
   repeat (first | exact trivial | refine ⟨rfl, ?_⟩)) fun dF Ar outer s H E b a hr hp => by
   obtain ⟨p0, p1, p2, p3, p4, p5, p6, p7, p8⟩ := a; refine A0 ?_ p0 p1 p2 p3 p4 p5 p6 p7 p8 hp
   exact ⟨⟨⟨qA.nd, rfl, .never⟩, hr.units⟩, bB bJ 0, bB bJ 1, bB bJ 2, bB bJ 3, bB bJ 4, bB bJ 5, bB bJ 6, bB bJ 7, eX bJ 8, eX bJ 9, eX bJ 10, eX bJ 11, kF, G4, fY yP hr, Ed, ⟨⟨_, _, _, by rw [bL]; exact ⟨jt, ju, jv.kp⟩, wR, wN⟩, hr.mono (by decide), by rw [bL]; exact aN⟩, dm, gH, iB, eK, c7⟩
 have Df : bN l.prog w K mg base fO 7 gX _ ["self", "boxes", "place", "script"] (Sn K (cl aj ak ai ah aC ay) 4 fG fH fJ dY) := EL n6 rN (fun a hp => by
   obtain ⟨p0, p1, p2, p3, p4, p5, p6⟩ := a; dsimp only [fG, dY]
   repeat (first | exact trivial | refine ⟨rfl, ?_⟩)) fun dF Ar outer s H E b a hr hp => by
   obtain ⟨p0, p1, p2, p3, p4, p5, p6⟩ := a; refine CG ?_ p0 p1 p2 p3 p4 p5 p6 hp
   exact ⟨⟨⟨rN.nd, rfl, .never⟩, hr.units⟩, bB eZ 0, bB eZ 1, bB eZ 2, bB eZ 3, bB eZ 4, eX eZ 5, fY yP hr, ⟨⟨_, _, _, by rw [bL]; exact ⟨jw, jx, jy.kp⟩, sy, sr⟩, hr.mono (by decide), by rw [bL]; exact aN⟩, dm, gH, iB, mz, eK, c7, kh⟩
 have BO : bN l.prog w K mg base fO 9 jq _ ["self", "chart"] (spI K (cl aj ak ai ah aC ay) "NestRun" 2 oO jJ oQ) := EE r9 qB fun dF Ar outer s H E b a y hr hp => by
   obtain ⟨p0, p1, p2, p3⟩ := a; refine A3 ?_ p0 p1 p2 p3 y hp
   exact ⟨⟨⟨qB.nd, rfl, .never⟩, hr.units⟩, bB dZ 0, bB dZ 1, bB dZ 2, eX dZ 3, eX dZ 4, eX dZ 5, fY YX hr, fY Va hr, ⟨⟨_, _, _, by rw [jL]; exact ⟨lV, lW, lX, n6.kp⟩, Df, by rw [jL]; exact UY, C3⟩, hr.mono (by decide)⟩, gH, qD⟩
 have G8 : bN l.prog w K mg base fO 1 k8 _ ["self", "boxes", "names", "tree", "ins", "outs", "ways"] (spI K (cl aj ak ai ah aC ay) "Chart" 7 rO rP rQ) := EE wM uc fun dF Ar outer s H E b a y hr hp => by
   obtain ⟨p0, p1, p2, p3, p4, p5⟩ := a; refine FY ?_ p0 p1 p2 p3 p4 p5 y hp
   exact ⟨⟨⟨uc.nd, rfl, .never⟩, hr.units⟩, bB dD 0, bB dD 1, bB dD 2, bB dD 3, bB dD 4, bB dD 5, bB dD 6, eX dD 7, kF, dm, gH, eK, c7, uo, eu, yO, wO, fB⟩
 have JR : bN l.prog w K mg base fO 1 mZ _ ["self", "kinds", "elders", "starts"] (spI K (cl aj ak ai ah aC ay) "Tree" 4 ud uf ug) := EE yN wI fun dF Ar outer s H E b a y hr hp => by
   obtain ⟨p0, p1, p2⟩ := a; refine Jx ?_ p0 p1 p2 y hp
   exact ⟨⟨⟨wI.nd, rfl, .never⟩, hr.units⟩, bB jl 0, bB jl 1, bB jl 2, bB jl 3, eX jl 4, kF, BL, k9, oi, uq⟩
 have BP : bN l.prog w K mg base fO 1 jr _ ["self"] (mE K (cl aj ak ai ah aC ay) 1 gD e7 gE) := bH mq qC fun dF Ar outer s H E b a hr hp => by
   obtain ⟨p0, p1, p2, p3, p4⟩ := a; refine A5 ?_ p0 p1 p2 p3 p4 hp
   exact ⟨⟨⟨qC.nd, rfl, .never⟩, hr.units⟩, bB iA 0, bB iA 1, bB iA 2, eX iA 3, kF, gH, mz, kh⟩
 have yi : bN l.prog w K mg base fO 1 gG _ ["self"] (mE K (cl aj ak ai ah aC ay) 1 fq fu fz) := bH jO mY fun dF Ar outer s H E b a hr hp => by
   obtain ⟨p0, p1, p2, p3, p4⟩ := a; refine xR ?_ p0 p1 p2 p3 p4 hp
   exact ⟨⟨⟨mY.nd, rfl, .never⟩, hr.units⟩, bB mX 0, eX mX 1, kF, dm, gH, eK, c7⟩
 have Dg : bN l.prog w K mg base fO 7 j3 _ ["self", "sign"] (Sn K (cl aj ak ai ah aC ay) 2 fK fL fM d7) := EL oh rS (fun a hp => by
   obtain ⟨p0, p1, p2, p3, p4, p5, p6, p7, p8⟩ := a; dsimp only [fK, d7]
   repeat (first | exact trivial | refine ⟨rfl, ?_⟩)) fun dF Ar outer s H E b a hr hp => by
   obtain ⟨p0, p1, p2, p3, p4, p5, p6, p7, p8⟩ := a; refine CJ ?_ p0 p1 p2 p3 p4 p5 p6 p7 p8 hp
   exact ⟨⟨⟨rS.nd, rfl, .never⟩, hr.units⟩, bB e9 0, bB e9 1, bB e9 2, bB e9 3, bB e9 4, eX e9 5, kF, ⟨⟨_, _, _, by rw [bL]; exact ⟨jw, jx, jy.kp⟩, sy, sr⟩, hr.mono (by decide), by rw [bL]; exact aN⟩, dm, gH, iB, eK, c7, mz⟩
 have ae3 : bN l.prog w K mg base fO 11 _ _ ["script"] (mE K (cl aj ak ai ah aC ay) 1 tP tQ tR) := bH Uz Ux fun dF Ar outer s H E b a hr hp => by
   refine aeU ?_ a hp
   exact ⟨⟨⟨Ux.nd, rfl, .never⟩, hr.units⟩, bB c6 0, bB c6 1, Sl c6 2, fQ c6 2 rfl, bB c6 3, bB c6 4, bB c6 5, bB c6 6, bB c6 7, bB c6 8, bB c6 9, bB c6 10, bB c6 11, bB c6 12, eX c6 13, eX c6 14, eX c6 15, eX c6 16, eX c6 17, eX c6 18, eX c6 19, eX c6 20, eX c6 21, eX c6 22, eX c6 23, fY Qq hr, G0, fY U6 hr, G3, ⟨⟨_, _, _, by rw [bL]; exact ⟨uZ, lY, lZ, u0⟩, BO, by rw [bL]; exact Qo, BJ⟩, hr.mono (by decide)⟩, ⟨⟨_, _, _, by rw [jn]; exact ⟨Bm, qw, qx, Bo⟩, G8, by rw [jn]; exact YK, GZ⟩, hr.mono (by decide)⟩, ⟨⟨_, _, _, by rw [tS]; exact ⟨Gh, sd, se, Gi⟩, JR, by rw [tS]; exact acL, JG⟩, hr.mono (by decide)⟩, kF, ⟨⟨_, _, _, YQ, Yp, Gk.kp, Yq⟩, hr.mono (by decide)⟩, fY YS hr, U3, fY YV hr, ⟨⟨_, _, _, by rw [bL]; exact ⟨mh, mj, mq.kp⟩, BP, BK⟩, hr.mono (by decide), by rw [bL]; exact aN⟩, ⟨⟨_, _, _, by rw [bL]; exact ⟨jM, jN, jO.kp⟩, yi, yh⟩, hr.mono (by decide), by rw [bL]; exact aN⟩, ⟨⟨_, _, _, by rw [bL]; exact ⟨n8, n9, oh.kp⟩, Dg, C4⟩, hr.mono (by decide), by rw [bL]; exact aN⟩⟩
 exact ae3.imp (W0 (fun _ => rfl) (fun _ => rfl) fun x hx h0 => Ye hx h0)
theorem walk {l : PySem.W.OpenLaw} {q : Program} {loose : List Str} {XP : (Str -> Option Value) -> Heap -> Prop} {YP : World -> Heap -> Prop} {d : DefRec} {K : Params -> PySem.W.Frag} {T0 : List Addr} (hn : l.most = some 63) (hdf : d.params.defaults = [])
   (hY : ∀ (w : World) (h : Heap), YP w h -> (K w.params).In h) (hT : ∀ (w : World) (h : Heap), YP w h -> ∀ P ∈ T0, h.get? P = some (PySem.W.tabObj #[]))
   (F : ∀ (w : World) (mg : Str -> Option Value) (fa : Addr) (h : Heap), (K w.params).In h -> h.Ns mainGlobals mg -> mg d.name = some (.ref fa) →
     ∃ (fd : FuncData) (ts : List (Addr × Str)), (∀ p ∈ ts, p.1 ∈ T0 /\ ts.lookup p.1 = some p.2 /\ (K w.params).lookup p.1 = none /\ ∃ c, PySem.W.CodeHd h c p.1) /\ (∀ (s : Shared) (u : Value), BindsTo s fd ⟨[u], []⟩ [("script", u)]) /\ ∀ base : Heap, (K w.params).In base -> base.Ns mainGlobals mg -> Ae mg base -> bN l.prog w (K w.params) mg base fO 11 fa fd ["script"] (spT (K w.params) ts 1 tP tQ tR)) :
   PySem.W.WalkO q loose XP YP l.row.toRowW d [] (fun f vs => PySem.call f vs) :=
 SN (n := 63) (k := 11) (x := "script") (sp := fun w ts => spT (K w.params) ts 1 tP tQ tR) hn (by decide) hdf ⟨rfl, by decide, by decide⟩ hY hT F (fun _ _ _ a ns hl hS ht => W2 rfl hl rfl hS ht)
end Law
namespace PySem.W.Fast
 def tw3404674287690677060 := 0
 def tw13157940612741053062 := 0
 def tw5971785088052306424 := 0
 def tw9202337834885352527 := 0
 def tw688634985455620904 := 0
 def tw2018377676687894524 := 0
 def tw12866900625841449419 := 0
 def tw1902424171285627659 := 0
 def tw1935573887059265283 := 0
 def tw16304673275691358094 := 0
 def tw10945784031638620648 := 0
 def tw11788995042347102418 := 0
 def tw7706373834949075053 := 0
 def tw9153341463782986225 := 0
 def tw13105884814586076845 := 0
 def tw15342270552361277776 := 0
 def tw11905182361433711945 := 0
 def tw11680699999217248886 := 0
 def tw7978020526514161798 := 0
 def tw6280170172702982070 := 0
 def tw3866856059706725432 := 0
 def tw5177405722570252307 := 0
 def tw3984452172362707507 := 0
 def tw13891790496906945299 := 0
 def tw484269801523623270 := 0
 def tw14932757134223775421 := 0
 def tw9228907120482633002 := 0
 def tw3517189855570269427 := 0
 def tw1199540100765748901 := 0
 def tw10494751034543251750 := 0
 def tw18324117549570953561 := 0
 def tw7463999970931462023 := 0
 def tw11786505679990871255 := 0
 def tw4825913628085386113 := 0
 def tw1112836673919813406 := 0
 def tw6749170427243527879 := 0
 def tw5260720838194354097 := 0
 def tw480294410978078284 := 0
 def tw13452924152456444324 := 0
 def tw3999051444312375022 := 0
 def tw8825648684879252254 := 0
 def tw1877372396413668923 := 0
 def tw16662894276795128834 := 0
 def tw11394818673624652997 := 0
 def tw8124524036773245200 := 0
 def tw4080766914962552935 := 0
 def tw6801907815934123617 := 0
 def tw12813954582989546785 := 0
 def tw7695169683328113830 := 0
 def tw5815570091014917164 := 0
 def tw2641544218175693398 := 0
 def tw7540291821124096837 := 0
 def tw9166512357749646946 := 0
 def tw7195248986404855341 := 0
 def tw11139620814042168352 := 0
 def tw1174332786876787862 := 0
 def tw10367565579511377117 := 0
 def tw2444890614621475466 := 0
 def tw67283052206740193 := 0
 def tw6192592766301363963 := 0
 def tw4524387501829192877 := 0
 def tw7969899464594035161 := 0
 def tw18245879406334499714 := 0
 def tw11566173426645610349 := 0
 def tw6744887359845844679 := 0
 def tw8733462772717194113 := 0
 def tw3255460375867799576 := 0
 def tw16921761330102676158 := 0
 def tw9600506154734125780 := 0
 def tw1164449244479361364 := 0
 def tw17629940804666277476 := 0
 def tw3137210490120163853 := 0
end PySem.W.Fast
open PySem PySem.W PyProof.Rows
set_option maxRecDepth 100000 in
set_option maxHeartbeats 0 in
theorem PySem.Challenge.cw_moodtree_k44_calls_in_a_line_holds : PySem.Challenge.rw_moodtree_k44_calls_in_a_line.Holds := by
 w_on; o_law; k_head; (case hw => w_witness2)
 k_fill
 refine Law.walk (l := PySem.Challenge.rw_moodtree_k44_calls_in_a_line) rfl rfl (fun w h Y => PySem.W.km_in_of Y) (fun w h Y => PySem.W.km_tabs_of Y) ?F
 case F =>
   intro w mg fa h KX G hmg
   refine' Law.all_mk KX G hmg ?Gb ?Bh ?Bj ?Bk ?Bl ?Bm ?Bo ?nM ?nO ?qk ?rW ?ql ?qm ?L0 ?Gd ?Ge ?Gf ?Gg ?Gh ?Gi ?qo ?nP ?nQ ?Bp ?xW ?xX ?xY ?xZ ?D8 ?D9 ?lS ?nR ?lT ?gM ?x6 ?uV ?uW ?uX ?uY ?uZ ?u0 ?kC ?kD ?lU ?kE ?gy ?x8 (L2.bF ?Qt ?Qu ?Qv) ?Bq (L2.bF ?gi ?Vf ?Vg) ?Gj (L2.bF ?Y9 ?Za ?Zb) ?Gm (L2.bF ?sO ?Zc ?Zd) ?Gp (L2.bF ?kK ?Ze ?Zf) ?rX (L2.bF ?JS ?JT ?JV) ?Bs (L2.bF ?Vh ?Vi ?Vj) ?yb (L2.bF ?Qw ?Qx ?Qy) ?Gr (L2.bF ?Zg ?Zh ?Zi) ?Bu (L2.bF ?Vk ?Vl ?Vm) ?Gu (L2.bF ?Zj ?Zk ?Zm) ?nS (L2.bF ?Dh ?Di ?Dj) ?Bw (L2.bF ?Vo ?Vp ?Vq) ?L1 (L2.bF ?acU ?acV ?acW) ?u5 (L2.bF ?MK ?ML ?MN) ?rZ (L2.bF ?JW ?JX ?JY) ?qp (L2.bF ?G9 ?Hf ?Hg) ?Gw (L2.bF ?Zn ?Zo ?Zq) ?Gz (L2.bF ?Zr ?Zt ?Zu) ?L5 (L2.bF ?acX ?acY ?acZ) ?GB ?Og ?Oh ?zI ?GC ?GD ?GF ?nU (L2.bF ?Dk ?Dl ?Dm) ?L7 (L2.bF ?ac0 ?ac1 ?ac2) ?BD (L2.bF ?Vr ?Vs ?Vt) ?yd ?Eb ?Ec ?tT ?ye ?yf ?yg ?u9 (L2.bF ?MP ?MQ ?MR) ?nW (L2.bF ?Dn ?Dp ?Dq) ?GH (L2.bF ?Zv ?Zw ?Zx) ?ve (L2.bF ?MS ?MT ?MV) ?qu (L2.bF ?Hh ?Hi ?Hj) ?nY (L2.bF ?Dr ?Ds ?Dt) ?vg (L2.bF ?MX ?MY ?MZ) ?vm (L2.bF ?M0 ?M3 ?M4) ?GK (L2.bF ?Zy ?Zz ?ZC) ?jt ?ju (L2.bF ?wU ?wV ?wW) ?jw ?jx (L2.bF ?BQ ?BR ?BU) ?uh ?um (L2.bF ?Du ?Dv ?nF) ?lV ?lW ?lX ?lY ?lZ (L2.bF ?BV ?BW ?BX) ?qw ?qx (L2.bF ?Hl ?Ho ?Hq) ?sd ?se (L2.bF ?JZ ?J1 ?J2) ?mh ?mj (L2.bF ?BZ ?B3 ?B4) ?jM ?jN (L2.bF ?yj ?yk ?ym) ?n8 ?n9 (L2.bF ?Dw ?Dy ?Dz) ?Oi (L2.bF ?ae4 ?ae5 ?ae6) ?UA ?GN ?UB ?UC ?UD ?UE ?GO ?Ma ?GP ?GQ ?BF ?BG ?BH ?UJ ?BI ?sf ?Mi ?Mj ?Ml ?GR ?qy ?mw
   case Gb | Bh | Bj | Bk | Bl | Bm | Bo | nM | nO | qk | rW | ql | qm | L0 | Gd | Ge | Gf | Gg | Gh | Gi | qo | nP | nQ | Bp | xW | xX | xY | xZ | D8 | D9 | lS | nR | lT | gM | x6 | uV | uW | uX | uY | uZ | u0 | kC | kD | lU | kE | gy | x8 | Qt | Qu | Qv | Bq | gi | Vf | Vg | Gj | Y9 | Za | Zb | Gm | sO | Zc | Zd | Gp | kK | Ze | Zf | rX | JS | JT | JV | Bs | Vh | Vi | Vj | yb | Qw | Qx | Qy | Gr | Zg | Zh | Zi | Bu | Vk | Vl | Vm | Gu | Zj | Zk | Zm | nS | Dh | Di | Dj | Bw | Vo | Vp | Vq | L1 | acU | acV | acW | u5 | MK | ML | MN | rZ | JW | JX | JY | qp | G9 | Hf | Hg | Gw | Zn | Zo | Zq | Gz | Zr | Zt | Zu | L5 | acX | acY | acZ => k_is
   case GB => exact rfl
   case Og => k_is
   case Oh => exact rfl
   case zI => kernel_rfl
   case GC => decide
   case GD => kernel_rfl
   case GF => decide
   case nU | Dk | Dl | Dm | L7 | ac0 | ac1 | ac2 | BD | Vr | Vs | Vt => k_is
   case yd => exact rfl
   case Eb => k_is
   case Ec => exact rfl
   case tT => kernel_rfl
   case ye => decide
   case yf => kernel_rfl
   case yg => decide
   case u9 | MP | MQ | MR | nW | Dn | Dp | Dq | GH | Zv | Zw | Zx | ve | MS | MT | MV | qu | Hh | Hi | Hj | nY | Dr | Ds | Dt | vg | MX | MY | MZ | vm | M0 | M3 | M4 | GK | Zy | Zz | ZC | jt | ju | wU | wV | wW | jw | jx | BQ | BR | BU | uh | um | Du | Dv | nF | lV | lW | lX | lY | lZ | BV | BW | BX | qw | qx | Hl | Ho | Hq | sd | se | JZ | J1 | J2 | mh | mj | BZ | B3 | B4 | jM | jN | yj | yk | ym | n8 | n9 | Dw | Dy | Dz | Oi | ae4 | ae5 | ae6 | UA | GN | UB | UC | UD | UE | GO | Ma | GP | GQ | BF | BG | BH | UJ | BI | sf | Mi | Mj | Ml | GR | qy => k_is
   case mw => decide
