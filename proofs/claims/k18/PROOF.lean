import PyProof.Rows.All
import Wide.All
import OpenK.AllK
import Wide.FinOn
import Lean
import PyProof.EqAt
import PyProof.EqKinds
import PyProof.TupleCall
import PySem.Challenge.RW_moodtree_k18_whole_look_by_a_judge
set_option Elab.async false
set_option linter.all false
set_option maxRecDepth 100000
set_option maxHeartbeats 4000000
namespace L2
open PySem PySem.Spec PyProof.Rows
noncomputable abbrev alR := @List.length_map
noncomputable abbrev alS := @decide_eq_false
noncomputable abbrev alT := @if_neg
noncomputable abbrev alU := @List.mem_append_right
noncomputable abbrev alV := @decide_eq_true
noncomputable abbrev alW := @if_pos
noncomputable abbrev alX := @PySem.W.mg_of
noncomputable abbrev alY := @Nat.le_of_ble_eq_true
noncomputable abbrev alZ := @List.append_assoc
noncomputable abbrev al0 := @List.mem_cons_self
noncomputable abbrev al1 := @Int.emod_lt_of_pos
noncomputable abbrev al2 := @of_decide_eq_true
noncomputable abbrev al3 := @List.mem_cons_of_mem
noncomputable abbrev al4 := @List.mem_append_left
noncomputable abbrev al5 := @List.map_map
noncomputable abbrev al6 := @List.mem_cons
noncomputable abbrev al7 := @List.mem_append
noncomputable abbrev al8 := @Heap.get?_push_of_some
noncomputable abbrev al9 := @Nat.le_refl
noncomputable abbrev ama := @Int.emod_nonneg
noncomputable abbrev amb := @Heap.lt_size
noncomputable abbrev amc := @Bool.false_ne_true
noncomputable abbrev amd := @of_decide_eq_false
noncomputable abbrev ame := @Bool.and_eq_true
noncomputable abbrev amf := @Bool.and_false
noncomputable abbrev amg := @List.size_toArray
noncomputable abbrev amh := @List.map_cons
noncomputable abbrev ami := @List.cons_append
noncomputable abbrev amj := @List.getElem?_eq_some_iff
noncomputable abbrev amk := @List.map_append
noncomputable abbrev aml := @List.getElem?_map
noncomputable abbrev amm := @List.getElem?_eq_getElem
noncomputable abbrev amn := @List.mem_map
noncomputable abbrev amo := @Nat.le_of_lt
noncomputable abbrev amq := @wpAny_bind
noncomputable abbrev amr := @List.mem_of_getElem?
noncomputable abbrev ams := @Bool.or_eq_false_iff
noncomputable abbrev amt := @List.Perm.append_left
noncomputable abbrev amu := @Nat.zero_le
noncomputable abbrev amv := @Option.map_eq_some_iff
noncomputable abbrev amw := @Option.some.inj
noncomputable abbrev amx := @Heap.get?_push_size
noncomputable abbrev amy := @Bool.false_and
noncomputable abbrev amA := @Nat.ne_of_lt
noncomputable abbrev amB := @List.perm_append_comm
noncomputable abbrev amC := @List.not_mem_nil
noncomputable abbrev amD := @List.Sublist.refl
noncomputable abbrev amE := @Nat.lt_of_lt_of_le
noncomputable abbrev amF := @List.Sublist.append
noncomputable abbrev amG := @List.lookup_cons
noncomputable abbrev amH := @List.append_nil
noncomputable abbrev amI := @List.mem_range
noncomputable abbrev amJ := @List.getD_eq_getElem?_getD
noncomputable abbrev amK := @List.nodup_append
noncomputable abbrev amL := @wpAny_pure
noncomputable abbrev amM := @List.length_append
noncomputable abbrev amN := @PySem.W.mg_none_of
noncomputable abbrev amO := @List.nodup_cons
noncomputable abbrev amP := @List.map_congr_left
noncomputable abbrev amQ := @decide_eq_true_eq
noncomputable abbrev amR := @Int.toNat_natCast
noncomputable abbrev amS := @Nat.le_trans
noncomputable abbrev amT := @List.length_cons
noncomputable abbrev amU := @List.perm_middle
noncomputable abbrev amV := @wpAny_mono
noncomputable abbrev amW := @List.reverse_cons
noncomputable abbrev amX := @List.all_cons
noncomputable abbrev amY := @decide_eq_decide
noncomputable abbrev amZ := @Int.zero_add
noncomputable abbrev am0 := @wpAny_truthy_bool
noncomputable abbrev am1 := @List.filterMap_cons
noncomputable abbrev am2 := @List.sublist_append_right
noncomputable abbrev am3 := @List.any_cons
noncomputable abbrev am4 := @decide_eq_false_iff_not
noncomputable abbrev am5 := @PySem.mem_of_lookup
noncomputable abbrev am6 := @List.length_replicate
noncomputable abbrev am7 := @List.nodup_nil
noncomputable abbrev am8 := @List.length_range
noncomputable abbrev am9 := @Bool.true_and
noncomputable abbrev ana := @List.getElem?_range
noncomputable abbrev anb := @sizeLine_eq
noncomputable abbrev anc := @PyProof.Rows.callWith_type1
noncomputable abbrev ane := @wpAny_Call_Name_kw
noncomputable abbrev anf := @wpAny_passesOwn
noncomputable abbrev ang := @Bool.eq_iff_iff
noncomputable abbrev anh := @List.find?_cons
noncomputable abbrev ani := @Ne.symm
noncomputable abbrev anj := @F.called_set
noncomputable abbrev ank := @beq_eq_false_iff_ne
noncomputable abbrev anl := @PySem.F.plainAttrs_list
noncomputable abbrev anm := @wpAny_getItem_str_slice
noncomputable abbrev ano := @Nat.lt_irrefl
noncomputable abbrev anp := @List.nil_append
noncomputable abbrev anq := @List.pairwise_cons
noncomputable abbrev anr := @List.mem_singleton
noncomputable abbrev ans := @Bool.or_eq_true
noncomputable abbrev ant := @List.range_succ
noncomputable abbrev anu := @List.take_add_one
noncomputable abbrev anv := @codeAny_mono
noncomputable abbrev anw := @List.map_nil
noncomputable abbrev anx := @PySem.W.hideAll_get
noncomputable abbrev anz := @List.drop_eq_getElem_cons
noncomputable abbrev anA := @PySem.W.of_hideAll
noncomputable abbrev anB := @Nat.lt_of_le_of_lt
noncomputable abbrev anC := @List.all_map
noncomputable abbrev anD := @List.map_set
noncomputable abbrev anE := @Bool.not_eq_false'
noncomputable abbrev anF := @List.Perm.refl
noncomputable abbrev anG := @F.plain_set_update_loop
noncomputable abbrev anH := @PySem.StrLaws.found_one
noncomputable abbrev anI := @Bool.not_eq_true'
noncomputable abbrev anJ := @wpAny_holding
noncomputable abbrev Key := Sum Int Str
noncomputable def E9 : Key -> Value -> Bool
 | .inl k, v => Value.isInt k v
 | .inr x, v => Value.isStrOf x v
noncomputable def ahf (w : World) : Key -> Int
 | .inl k => hashInt k
 | .inr x => hashStr w x
theorem fj : ∀ {k : Key} {v : Value}, E9 k v = true -> (∃ i t, k = Sum.inl i /\ v = Value.int i t) \/ (∃ x t, k = Sum.inr x /\ v = Value.str x t)
 | .inl i, v, h => by
   obtain ⟨t, e⟩ := Value.isInt_shape (k := i) (v := v) h
   exact .inl ⟨i, t, rfl, e⟩
 | .inr x, v, h => by
   obtain ⟨t, e⟩ := Value.isStrOf_shape (x := x) (v := v) h
   exact .inr ⟨x, t, rfl, e⟩
theorem Rn (i : Int) (t : Tok) : E9 (.inl i) (.int i t) = true := by simp [E9, Value.isInt]
theorem Ro (x : Str) (t : Tok) : E9 (.inr x) (.str x t) = true := by simp [E9, Value.isStrOf]
theorem aa1 (a b : Int) : decide ((Sum.inl a : Key) = Sum.inl b) = (a == b) := by
 by_cases e : a = b
 . subst e; simp
 . have h : ¬ (Sum.inl a : Key) = Sum.inl b := fun q => e (Sum.inl.inj q)
   rw [alS h]
   exact (ank.mpr e).symm
theorem aa2 (a b : Str) : decide ((Sum.inr a : Key) = Sum.inr b) = decide (a = b) := by
 by_cases e : a = b
 . subst e; simp
 . have h : ¬ (Sum.inr a : Key) = Sum.inr b := fun q => e (Sum.inr.inj q)
   rw [alS h, alS e]
theorem aa3 (a : Int) (b : Str) : decide ((Sum.inl a : Key) = Sum.inr b) = false := alS (fun q => nomatch q)
theorem aa4 (a : Str) (b : Int) : decide ((Sum.inr a : Key) = Sum.inl b) = false := alS (fun q => nomatch q)
noncomputable def iX (prog : Program) (w : World) : PySem.KeyKind prog w Key where
 is := E9
 hash := ahf w
 inj := fun v a b ha hb => by
   rcases fj ha with ⟨i, t, rfl, rfl⟩ | ⟨x, t, rfl, rfl⟩
   . rcases fj hb with ⟨j, u, rfl, e⟩ | ⟨y, u, rfl, e⟩
     . injection e with e1 _; rw [e1]
     . exact nomatch e
   . rcases fj hb with ⟨j, u, rfl, e⟩ | ⟨y, u, rfl, e⟩
     . exact nomatch e
     . injection e with e1 _; rw [e1]
 byValue := fun k v h => by
   rcases fj h with ⟨i, t, rfl, rfl⟩ | ⟨x, t, rfl, rfl⟩ <;> rfl
 pyHash := fun hv h => by
   rcases fj hv with ⟨i, t, rfl, rfl⟩ | ⟨x, t, rfl, rfl⟩
   . exact wpAny_pyHash_int h
   . exact wpAny_pyHash_str h
 eqBool := fun hu hv h => by
   rcases fj hu with ⟨i, t, rfl, rfl⟩ | ⟨x, t, rfl, rfl⟩
   . rcases fj hv with ⟨j, u, rfl, rfl⟩ | ⟨y, u, rfl, rfl⟩
     . rw [aa1] at h; exact wpAny_eqBool_int h
     . rw [aa3] at h; exact SeqAt.EqAt.int_str i t y u _ _ _ _ h
   . rcases fj hv with ⟨j, u, rfl, rfl⟩ | ⟨y, u, rfl, rfl⟩
     . rw [aa4] at h; exact SeqAt.EqAt.str_int x t j u _ _ _ _ h
     . rw [aa2] at h; exact wpAny_eqBool_str h
 «strs» := fun k x t v h => by
   rcases fj h with ⟨i, u, rfl, e⟩ | ⟨y, u, rfl, e⟩
   . exact nomatch e
   . injection e with e1 _
     subst e1
     cases v <;> rfl
theorem Im (prog : Program) (w : World) (i : Int) (t : Tok) : (iX prog w).is (.inl i) (.int i t) = true := Rn i t
theorem Io (prog : Program) (w : World) (x : Str) (t : Tok) : (iX prog w).is (.inr x) (.str x t) = true := Ro x t
inductive V where
 | non | bl (b : Bool) | int (i : Int) | str (x : Str) | Rp (b : Array UInt8) | flt (b : UInt64) | ref (a : Addr) | ty (n : String)
 deriving DecidableEq
noncomputable def RelV : V -> Value -> Prop
 | .non, u => u = Value.none
 | .bl b, u => u = Value.bool b
 | .int i, u => ∃ t, u = Value.int i t
 | .str x, u => ∃ t, u = Value.str x t
 | .Rp b, u => ∃ t, u = Value.bytes b t
 | .flt b, u => ∃ t, u = Value.float b t
 | .ref a, u => u = Value.ref a
 | .ty n, u => u = Value.type n
noncomputable abbrev Vals : List V -> List Value -> Prop := Paired RelV
theorem Vals.length {xs : List V} {us : List Value} (r : Vals xs us) : xs.length = us.length := Paired.length r
theorem Vals.get : ∀ {xs : List V} {us : List Value} {i : Nat} {x : V}, Vals xs us -> xs[i]? = some x -> ∃ u, us[i]? = some u /\ RelV x u
 | _, _, _, _, .nil, e => by simp at e
 | _, _, 0, _, .cons r _, e => by simp at e; subst e; exact ⟨_, rfl, r⟩
 | _, _, i + 1, x, .cons _ t, e => by
   obtain ⟨u, h1, h2⟩ := Vals.get (i := i) (x := x) t (by simpa using e)
   exact ⟨u, by simpa using h1, h2⟩
theorem Vals.set {x : V} {u : Value} (r : RelV x u) : ∀ {xs : List V} {us : List Value} (i : Nat), Vals xs us -> Vals (xs.set i x) (us.set i u)
 | _, _, _, .nil => .nil
 | _, _, 0, .cons _ t => .cons r t
 | _, _, i + 1, .cons q t => .cons q (Vals.set r i t)
theorem Vals.append : ∀ {xs ys : List V} {us ws : List Value}, Vals xs us -> Vals ys ws -> Vals (xs ++ ys) (us ++ ws)
 | _, _, _, _, .nil, s => s
 | _, _, _, _, .cons r t, s => .cons r (Vals.append t s)
theorem Vals.take : ∀ {xs : List V} {us : List Value} (n : Nat), Vals xs us -> Vals (xs.take n) (us.take n)
 | _, _, 0, _ => .nil
 | _, _, _ + 1, .nil => .nil
 | _, _, n + 1, .cons r t => .cons r (Vals.take n t)
theorem Vals.drop : ∀ {xs : List V} {us : List Value} (n : Nat), Vals xs us -> Vals (xs.drop n) (us.drop n)
 | _, _, 0, r => r
 | _, _, _ + 1, .nil => .nil
 | _, _, n + 1, .cons _ t => Vals.drop n t
noncomputable def CV : Option V -> Option Value -> Prop
 | some v, some u => RelV v u
 | none, none => True
 | _, _ => False
noncomputable def KV {κ : Type} : List (κ × V) -> List (κ × Value) -> Prop := Paired fun (p : κ × V) (q : κ × Value) => p.1 = q.1 /\ RelV p.2 q.2
noncomputable def kV : Key -> V
 | .inl i => .int i
 | .inr x => .str x
inductive HO where
 | lst (xs : List V)
 | tup (xs : List V)
 | dK (bH : List (Key × V)) | dT (bH : List (List Key × V))
 | set (S : Int -> Bool) (n : Nat)
 | ins (C dx : Addr) (fs : List (Str × V))
 | own (x : Addr)
 | xd (fs : List (Str × V))
 | met (f x : Addr)
 | rng (lo hi : Int)
 | iY (o : Obj) (u : HO)
 | tbl (ps : Array Value)
 | tabs (q : Str)
 | cod (q : Str)
 | ext (φ : Heap -> Prop)
noncomputable abbrev Hp := Addr -> Option HO
noncomputable def upd (H : Hp) (a : Addr) (o : HO) : Hp := fun b => if b = a then some o else H b
theorem bu {H : Hp} {a : Addr} {o : HO} : upd H a o a = some o := by unfold upd; rw [alW rfl]
theorem aK {H : Hp} {a b : Addr} {o : HO} (h : b ≠ a) : upd H a o b = H b := by unfold upd; rw [alT h]
theorem aee {H : Hp} {a b : Addr} {o u : HO} (h : H a = some o) (h' : H b = some u) (d : o ≠ u) : a ≠ b := by
 intro e; subst e; rw [h] at h'; exact d (amw h')
theorem bX {H : Hp} {a b : Addr} {o : HO} (h : H a = some o) (h' : H b = none) : a ≠ b := by
 intro e; subst e; rw [h] at h'; cases h'
section
variable (P : Program) (w : World)
noncomputable def iL (H : Hp) (h : Heap) (a : Addr) : HO -> Prop
 | .lst xs => xs.length <= sizeLine /\ ∃ (its : List Value) (n : Nat), Vals xs its /\ h.get? a = some { cls := .type "list", data := .seq its.toArray n }
 | .tup xs => xs.length <= sizeLine /\ ∃ its : List Value, Vals xs its /\ IsTup h a its.toArray
 | .dK bH => bH.length <= sizeLine /\ (a == sysModules) = false /\ ∃ vs, KV bH vs /\ h.DictOf (iX P w) a vs
 | .dT bH => bH.length <= sizeLine /\ (a == sysModules) = false /\ ∃ xs : List (List Key × Addr × Value),
     Paired (fun (p : List Key × V) (q : List Key × Addr × Value) => p.1 = q.1 /\ H q.2.1 = some (.tup (p.1.map kV)) /\ RelV p.2 q.2.2) bH xs ∧
     ∃ o es ep, h.get? a = some o /\ o.ExactDict /\ o.data = .dict es ep /\ es.toList = xs.map (entryOfKey (tupleKind (iX P w))) /\ (xs.map (·.1)).Nodup
 | .set S n => h.SetOf (intKind P w) a S n
 | .ins C dx fs => H dx = some (.own a) /\ fs.length <= 1000 /\ dx ≠ a /\ h.get? a = some (PySem.W.instObj C dx) ∧
     ∃ mA, h.Ns1 dx mA /\ (∀ f, CV (fs.lookup f) (mA f)) /\ PySem.Within mA (fs.map (·.1))
 | .own _ => ∃ o, h.get? a = some o
 | .xd fs => ∃ mA, h.Ns1 a mA /\ ∀ f, CV (fs.lookup f) (mA f)
 | .rng lo hi => ∃ t u v, h.get? a = some { cls := .type "range", data := .fields #[.int lo t, .int hi u, .int 1 v] }
 | .iY o u => h.get? a = some o /\ iL H h a u
 | .tbl ps => h.get? a = some { cls := .none, data := .fields ps }
 | .tabs q => ∃ ps : Array Value, h.get? a = some { cls := .none, data := .fields ps } /\ TriplesOk ps.toList /\ ∀ pos cv, codeAmong pos ps.toList = some cv -> ∃ c, cv = .ref c /\ H c = some (.cod q)
 | .cod q => ∃ o vs t, h.get? a = some o /\ o.data = .fields vs /\ vs[1]? = some (.str q t)
 | .met f x => h.get? a = some (PySem.W.methodObj (.ref f) (.ref x))
 | .ext φ => φ h /\ (∃ o, h.get? a = some o) /\ ∀ h1 h2 : Heap, φ h1 -> (∀ o, h1.get? a = some o -> h2.get? a = some o) -> φ h2
noncomputable def uz (H : Hp) (h : Heap) : Prop := ∀ a o, H a = some o -> iL P w H h a o
end
section
variable {P : Program} {w : World} {H H' : Hp} {h h' : Heap} {a : Addr} {o : HO}
theorem iL.lt (x : iL P w H h a o) : a < h.objs.size := by
 cases o with
 | lst xs => obtain ⟨_, _, _, _, e⟩ := x; exact amb e
 | tup xs => obtain ⟨_, _, _, p⟩ := x; exact p.lt
 | dK bH => obtain ⟨_, _, _, _, o, _, _, e, _⟩ := x; exact amb e
 | dT bH => obtain ⟨_, _, _, _, o, _, _, e, _⟩ := x; exact amb e
 | set S n => obtain ⟨o, _, _, _, e, _⟩ := x; exact amb e
 | ins C dx fs => obtain ⟨_, _, _, e, _⟩ := x; exact amb e
 | own y => obtain ⟨_, e⟩ := x; exact amb e
 | xd fs => obtain ⟨_, ⟨_, _, _, e, _⟩, _⟩ := x; exact amb e
 | rng lo hi => obtain ⟨_, _, _, e⟩ := x; exact amb e
 | iY ob u => obtain ⟨e, _⟩ := x; exact amb e
 | tbl ps => exact amb (show h.get? a = some _ from x)
 | tabs q => obtain ⟨_, e, _⟩ := x; exact amb e
 | cod q => obtain ⟨_, _, _, e, _⟩ := x; exact amb e
 | met f y => exact amb (show h.get? a = some _ from x)
 | ext φ => obtain ⟨_, ⟨_, e⟩, _⟩ := x; exact amb e
theorem Paired.aa7 {α β : Type} {F G : α -> β -> Prop} : ∀ {l₁ : List α} {l₂ : List β}, Paired F l₁ l₂ -> (∀ a b, F a b -> G a b) -> Paired G l₁ l₂
 | _, _, .nil, _ => .nil
 | _, _, .cons r t, f => .cons (f _ _ r) (Paired.aa7 t f)
theorem iL.Ip (x : iL P w H h a o) (k : ∀ b u, (b = a \/ H b = some (.own a)) -> h.get? b = some u -> h'.get? b = some u)
   (ho : ∀ b, H b = some (.own a) -> H' b = some (.own a)) (ht : ∀ b xs, H b = some (.tup xs) -> H' b = some (.tup xs)) (qo : ∀ b q, H b = some (.cod q) -> H' b = some (.cod q) := by intro _ _ q; exact q) : iL P w H' h' a o := by
 induction o with
 | lst xs => obtain ⟨z, its, n, r, e⟩ := x; exact ⟨z, its, n, r, k _ _ (.inl rfl) e⟩
 | tup xs => obtain ⟨z, its, r, ob, e, c⟩ := x; exact ⟨z, its, r, ob, k _ _ (.inl rfl) e, c⟩
 | dK bH => obtain ⟨z, y, vs, r, ob, es, ep, e, c⟩ := x; exact ⟨z, y, vs, r, ob, es, ep, k _ _ (.inl rfl) e, c⟩
 | dT bH =>
   obtain ⟨z, y, xs, r, ob, es, ep, e, c⟩ := x
   exact ⟨z, y, xs, Paired.aa7 r fun p q z => ⟨z.1, ht _ _ z.2.1, z.2.2⟩, ob, es, ep, k _ _ (.inl rfl) e, c⟩
 | set S n => obtain ⟨ob, es, ep, t, e, c⟩ := x; exact ⟨ob, es, ep, t, k _ _ (.inl rfl) e, c⟩
 | ins C dx fs =>
   obtain ⟨d, z, ne, e, mA, ⟨od, es, ep, e2, c⟩, r⟩ := x
   exact ⟨ho _ d, z, ne, k _ _ (.inl rfl) e, mA, ⟨od, es, ep, k _ _ (.inr d) e2, c⟩, r⟩
 | own y => obtain ⟨ob, e⟩ := x; exact ⟨ob, k _ _ (.inl rfl) e⟩
 | xd fs => obtain ⟨mA, ⟨od, es, ep, e, c⟩, r⟩ := x; exact ⟨mA, ⟨od, es, ep, k _ _ (.inl rfl) e, c⟩, r⟩
 | rng lo hi => obtain ⟨t, u, v, e⟩ := x; exact ⟨t, u, v, k _ _ (.inl rfl) e⟩
 | iY ob u ih => obtain ⟨e, q⟩ := x; exact ⟨k _ _ (.inl rfl) e, ih q⟩
 | tbl ps =>
   have e : h.get? a = some { cls := .none, data := .fields ps } := x
   show h'.get? a = some { cls := .none, data := .fields ps }
   exact k a _ (.inl rfl) e
 | met f y =>
   have e : h.get? a = some (PySem.W.methodObj (.ref f) (.ref y)) := x
   show h'.get? a = some (PySem.W.methodObj (.ref f) (.ref y))
   exact k a _ (.inl rfl) e
 | tabs q => obtain ⟨ps, e, tr, cs⟩ := x; exact ⟨ps, k _ _ (.inl rfl) e, tr, fun pos cv z => let ⟨c, e1, e2⟩ := cs pos cv z; ⟨c, e1, qo _ _ e2⟩⟩
 | cod q => obtain ⟨ob, vs, t, e, r⟩ := x; exact ⟨ob, vs, t, k _ _ (.inl rfl) e, r⟩
 | ext φ => obtain ⟨p, ⟨o, e⟩, st⟩ := x; exact ⟨st _ _ p fun o q => k _ _ (.inl rfl) q, ⟨o, k _ _ (.inl rfl) e⟩, st⟩
theorem uz.lt (x : uz P w H h) (e : H a = some o) : a < h.objs.size := (x a o e).lt
theorem uz.fresh (x : uz P w H h) (e : h.objs.size <= a) : H a = none := by
 cases q : H a with
 | none => rfl
 | some u => exact absurd (amE (x.lt q) e) (ano _)
theorem uz.kept (x : uz P w H h) (k : ∀ b u, h.get? b = some u -> h'.get? b = some u) : uz P w H h' := fun a o e =>
 (x a o e).Ip (fun b u _ q => k b u q) (fun _ q => q) fun _ _ q => q
theorem uz.laid (x : uz P w H h) (k : ∀ b u, h.get? b = some u -> h'.get? b = some u) (hp : h.objs.size <= a) (new : iL P w (upd H a o) h' a o) : uz P w (upd H a o) h' := fun b u e => by
 have hn := x.fresh hp
 by_cases hb : b = a
 . subst hb; rw [bu] at e; cases e; exact new
 . rw [aK hb] at e
   exact (x b u e).Ip (fun c v _ q => k c v q) (fun c q => by rw [aK (bX q hn)]; exact q) (fun c xs q => by rw [aK (bX q hn)]; exact q) fun c z q => by rw [aK (bX q hn)]; exact q
end
noncomputable def Rd (H : Hp) (a : Addr) (u : HO) : Prop := H a = some u \/ ∃ o, H a = some (.iY o u)
theorem Rd.ok {P : Program} {w : World} {H : Hp} {h : Heap} {a : Addr} {u : HO} (r : Rd H a u) (x : uz P w H h) : iL P w H h a u := by
 rcases r with r | ⟨o, r⟩
 . exact x a u r
 . obtain ⟨_, q⟩ := x a _ r
   exact q
noncomputable def Mut : Option HO -> Prop
 | some (.lst _) => True
 | some (.dK _) => True
 | some (.dT _) => True
 | some (.set _ _) => True
 | some (.ins _ _ _) => True
 | some (.ext _) => True
 | some (.tabs _) => True
 | _ => False
section
variable {P : Program} {w : World} {H : Hp} {h h' : Heap} {x e : Addr} {o' : HO}
theorem uz.write (ok : uz P w H h) (mu : Mut (H x)) (he : e = x \/ H e = some (.own x)) (k : ∀ b u, b ≠ e -> h.get? b = some u -> h'.get? b = some u) (heo : ∃ u, h'.get? e = some u)
   (new : iL P w (upd H x o') h' x o') : uz P w (upd H x o') h' := fun b u q => by
 have aeg : ∀ c y, H c = some (.own y) -> c ≠ x := fun c y r z => by subst z; rw [r] at mu; exact mu
 have ahh : ∀ c xs, H c = some (.tup xs) -> c ≠ x := fun c xs r z => by subst z; rw [r] at mu; exact mu
 have ahi : ∀ c q, H c = some (.cod q) -> c ≠ x := fun c q r z => by subst z; rw [r] at mu; exact mu
 by_cases hb : b = x
 . subst hb; rw [bu] at q; cases q; exact new
 . rw [aK hb] at q
   by_cases hbe : b = e
   . have q' : H b = some (.own x) := by
       rcases he with z | z
       . exact absurd (hbe.trans z) hb
       . rw [hbe]; exact z
     rw [q] at q'; cases q'
     obtain ⟨v, hv⟩ := heo
     exact ⟨v, by rw [hbe]; exact hv⟩
   . refine (ok b u q).Ip (fun c v hc r => k c v ?_ r) (fun c r => by rw [aK (aeg c b r)]; exact r) (fun c xs r => by rw [aK (ahh c xs r)]; exact r) fun c z r => by rw [aK (ahi c z r)]; exact r
     rcases hc with rfl | hc
     . exact hbe
     . rintro rfl
       rcases he with z | z
       . exact aeg c b hc z
       . rw [hc] at z; cases z; exact hb rfl
end
structure Un (fs ex : List Addr) (H H' : Hp) (h h' : Heap) : Prop where
 keep : ∀ b o, h.get? b = some o -> H b = none -> b ∉ fs -> b ∉ ex -> h'.get? b = some o
 slot : ∀ b o, h.get? b = some o -> H b = none -> b ∈ fs -> b ∉ ex -> ∃ sl, h'.get? b = some { o with slots := sl }
 free : ∀ b o, h.get? b = some o -> H b = none -> b ∉ ex -> H' b = none
 there : ∀ b o, h.get? b = some o -> b ∉ ex -> ∃ o', h'.get? b = some o'
 EL : ∀ b xs, H b = some (.tup xs) -> H' b = some (.tup xs)
 gR : ∀ b o u, H b = some (.iY o u) -> H' b = some (.iY o u)
 ER : ∀ b ps, H b = some (.tbl ps) -> ∃ more, H' b = some (.tbl (ps ++ more))
section
variable {fs fs' ex ex' : List Addr} {H H1 H2 : Hp} {h h1 h2 h' : Heap} {a x e : Addr} {o : HO}
theorem Un.any (u : Un fs ex H H1 h h1) {b : Addr} {ob : Obj} (q : h.get? b = some ob) (n : H b = none) (hx : b ∉ ex) : ∃ sl, h1.get? b = some { ob with slots := sl } := by
 by_cases hb : b ∈ fs
 . exact u.slot b ob q n hb hx
 . exact ⟨ob.slots, u.keep b ob q n hb hx⟩
theorem Un.kept (k : ∀ b u, h.get? b = some u -> h'.get? b = some u) : Un fs ex H H h h' :=
 ⟨fun b ob q _ _ _ => k b ob q, fun b ob q _ _ _ => ⟨ob.slots, k b ob q⟩, fun _ _ _ n _ => n, fun b ob q _ => ⟨ob, k b ob q⟩, fun _ _ q => q, fun _ _ _ q => q, fun _ ps q => ⟨#[], by rw [q]; simp⟩⟩
theorem Un.refl : Un fs ex H H h h := Un.kept fun _ _ q => q
theorem Un.laid (k : ∀ b u, h.get? b = some u -> h'.get? b = some u) (hp : h.objs.size <= a) (hn : H a = none) : Un fs ex H (upd H a o) h h' where
 keep := fun b u q _ _ _ => k b u q
 slot := fun b u q _ _ _ => ⟨u.slots, k b u q⟩
 free := fun b u q n _ => by rw [aK (amA (amE (amb q) hp))]; exact n
 there := fun b u q _ => ⟨u, k b u q⟩
 EL := fun b xs q => by rw [aK (bX q hn)]; exact q
 gR := fun b u xs q => by rw [aK (bX q hn)]; exact q
 ER := fun b ps q => ⟨#[], by rw [aK (bX q hn), q]; simp⟩
theorem Un.write (mu : Mut (H x)) (he : e = x \/ H e = some (.own x)) (k : ∀ b u, b ≠ e -> h.get? b = some u -> h'.get? b = some u) (heo : ∃ u, h'.get? e = some u) : Un fs ex H (upd H x o) h h' := by
 have hx : ∀ b, H b = none -> b ≠ x := fun b n z => by subst z; rw [n] at mu; exact mu
 have hb : ∀ b, H b = none -> b ≠ e := fun b n z => by
   subst z
   rcases he with r | r
   . exact hx b n r
   . rw [n] at r; cases r
 have hm : ∀ b u, H b = some u -> ¬ Mut (some u) -> b ≠ x := fun b u q nm z => by subst z; rw [q] at mu; exact nm mu
 refine ⟨fun b u q n _ _ => k b u (hb b n) q, fun b u q n _ _ => ⟨u.slots, k b u (hb b n) q⟩, fun b u q n _ => by rw [aK (hx b n)]; exact n, fun b u q _ => ?_,
   fun b xs q => by rw [aK (hm b _ q fun z => z)]; exact q, fun b u xs q => by rw [aK (hm b _ q fun z => z)]; exact q, fun b ps q => ⟨#[], by rw [aK (hm b _ q fun z => z), q]; simp⟩⟩
 by_cases hbe : b = e
 . subst hbe; exact heo
 . exact ⟨u, k b u hbe q⟩
end
noncomputable def trk (h : Heap) (H : Hp) : List Addr := (List.range h.objs.size).filter fun a => (H a).isSome
noncomputable def FP (h : Heap) (H : Hp) : Heap := PySem.W.hideAll h (trk h H)
theorem Rq (h : Heap) (H : Hp) : (FP h H).objs.size = h.objs.size := PySem.W.hideAll_size _ _
theorem UO {h : Heap} {H : Hp} {b : Addr} {o : Obj} (e : h.get? b = some o) (n : H b = none) : (FP h H).get? b = some o :=
 anx _ e fun hm => by
   have q : (H b).isSome = true := (List.mem_filter.mp hm).2
   rw [n] at q; simp at q
theorem X8 {h : Heap} {H : Hp} {b : Addr} {o : Obj} (e : (FP h H).get? b = some o) : h.get? b = some o /\ H b = none := by
 have e' : h.get? b = some o := anA (trk h H) e
 refine ⟨e', ?_⟩
 cases q : H b with
 | none => rfl
 | some x =>
   have hm : b ∈ trk h H := List.mem_filter.mpr ⟨amI.mpr (amb e'), by simp [q]⟩
   have z : (FP h H).get? b = none := PySem.W.hideAll_none (trk h H) hm
   rw [z] at e; cases e
noncomputable def X9 (g h : Heap) (L : Addr) : List (Addr × Obj) := (List.range h.objs.size).filterMap fun a => if a = L \/ (g.get? a).isSome = true then none else (h.get? a).map fun o => (a, o)
noncomputable def rest (g h : Heap) (L d : Addr) : List (Addr × Obj) := (X9 g h L).filter fun p => decide (p.1 ≠ d)
structure Mod (K : PySem.W.Frag) (mg : Str -> Option Value) (base : Heap) : Prop where
 kin : K.In base
 glob : base.Ns mainGlobals mg
 blt : ∃ mb, base.Ns builtinsNs mb /\ ∀ x : Str, x ≠ "__name__" -> mb x = bootBuiltins x
 nolimit : base.NoLimit
structure Cx where
 prog : Program
 w : World
 K : PySem.W.Frag
 mg : Str -> Option Value
 base : Heap
 A : Around
 N : List Str
 s₀ : Shared
 H₀ : Hp
 env : Env
 outer : List Env
 stack : List Env
 ex : List Addr
 fn : Str -> Bool
 calm : Bool
 pn : List (Addr × Obj)
 xe : Value -> Shared -> Prop
noncomputable def uA (l : List Env) : List Addr := l.filterMap (·.frame)
noncomputable abbrev Cx.fs (X : Cx) : List Addr := uA X.outer
noncomputable def Vis (sc : Scope) (x : Str) : Prop := sc.names.lookup x = some .local \/ sc.names.lookup x = some .cell \/ sc.names.lookup x = some .free
noncomputable def Loc (sc : Scope) (x : Str) : Prop := sc.names.lookup x = some .local \/ sc.names.lookup x = some .cell
noncomputable def Look (env : Env) (h : Heap) (m : Str -> Option Value) (x : Str) (u : Value) : Prop :=
 (env.kindOf x = some .local /\ m x = some u) \/ ((env.kindOf x = some .cell \/ env.kindOf x = some .free) /\ ∃ c, env.cells.lookup x = some c /\ h.IsCell c (some u))
structure Cx.Ok (X : Cx) : Prop where
 mod : Mod X.K X.mg X.base
 kind : X.env.scope.kind = .function
 glob : X.env.globals = mainGlobals
 blt : X.env.builtins = builtinsNs
 above : X.s₀.heap.objs.size <= X.env.locals
 inj : ∀ x y c, X.env.cells.lookup x = some c -> X.env.cells.lookup y = some c -> x = y
 has : ∀ x, (X.env.kindOf x = some .cell \/ X.env.kindOf x = some .free) -> ∃ c, X.env.cells.lookup x = some c
 cab : ∀ x c, X.fn x = true -> X.env.cells.lookup x = some c -> X.s₀.heap.objs.size <= c
 hd : X.calm = true -> X.A.handled = none
 frames : X.A.frames = some X.stack
 stk : X.stack = X.outer \/ (X.stack = X.env :: X.outer /\ X.env.frame = some X.env.locals)
 exf : ∀ b ∈ X.ex, b ≠ X.env.locals /\ ∀ x c, X.env.cells.lookup x = some c -> c ≠ b
 bs : ∀ b o, X.base.get? b = some o -> X.s₀.heap.get? b = some o /\ X.H₀ b = none
 UQ : X.base.objs.size <= X.s₀.heap.objs.size
 LJ : ∀ b o, X.base.get? b = some o -> b ∉ X.ex
 Rr : ∀ b ∈ X.ex, b ∉ X.fs
 vD : X.s₀.heap.FunFrames X.base X.outer
 XR : ∀ b ∈ X.fs, X.H₀ b = none
structure Inv (X : Cx) (pins : List (Addr × Obj)) (σ : List (Option V)) (H : Hp) (s : Shared) : Prop where
 ok : X.Ok
 os : s.os = X.s₀.os
 bare : AllBare s.gens
 base : Un X.fs X.ex X.H₀ H X.s₀.heap s.heap
 loc : ∃ m, s.heap.Ns X.env.locals m /\ ∀ (i : Nat) (x : Str) (v : V), X.N[i]? = some x -> σ[i]? = some (some v) -> Vis X.env.scope x -> ∃ u, RelV v u /\ Look X.env s.heap m x u
 cell : ∀ x c, X.env.cells.lookup x = some c -> ∃ v, s.heap.IsCell c v
 free : H X.env.locals = none
 oY : ∀ x c, X.env.cells.lookup x = some c -> H c = none
 pin : ∀ p ∈ X.pn ++ pins, s.heap.get? p.1 = some p.2 /\ H p.1 = none /\ p.1 ≠ X.env.locals /\ p.1 ∉ X.fs /\ ∀ v, p.2.data ≠ .cell v
 fS : uz X.prog X.w H s.heap
 len : σ.length = X.N.length
section
variable {X : Cx} {pins : List (Addr × Obj)} {σ : List (Option V)} {H H' : Hp} {s : Shared} {h' : Heap}
theorem Cx.Ok.ahj (ok : X.Ok) {b : Addr} {o : Obj} (e : X.base.get? b = some o) : b ∉ X.fs := fun hb => by
 have := (ok.vD.mem hb).1
 rw [e] at this; cases this
theorem Inv.bs (I : Inv X pins σ H s) : ∀ b o, X.base.get? b = some o -> s.heap.get? b = some o /\ H b = none := fun b o e =>
 ⟨I.base.keep b o (I.ok.bs b o e).1 (I.ok.bs b o e).2 (I.ok.ahj e) (I.ok.LJ b o e), I.base.free b o (I.ok.bs b o e).1 (I.ok.bs b o e).2 (I.ok.LJ b o e)⟩
theorem Inv.bk (I : Inv X pins σ H s) : ∀ b o, X.base.get? b = some o -> s.heap.get? b = some o := fun b o e => (I.bs b o e).1
theorem Inv.mod (I : Inv X pins σ H s) : Mod X.K X.mg X.base := I.ok.mod
theorem Inv.FQ (I : Inv X pins σ H s) : X.K.In s.heap := I.ok.mod.kin.keeps I.bk
theorem Inv.lt (I : Inv X pins σ H s) : X.env.locals < s.heap.objs.size := let ⟨_, hn, _⟩ := I.loc; hn.lt
theorem Inv.sz (I : Inv X pins σ H s) : X.s₀.heap.objs.size <= s.heap.objs.size := amS I.ok.above (amo I.lt)
theorem Inv.ahk (I : Inv X pins σ H s) {a : Addr} (h : s.heap.objs.size <= a) : a ∉ X.fs := fun hb => by
 obtain ⟨_, o, ho, _⟩ := I.ok.vD.mem hb
 exact absurd (amE (amb ho) (amS I.sz h)) (ano _)
theorem Inv.cne (I : Inv X pins σ H s) : ∀ x c, X.env.cells.lookup x = some c -> c ≠ X.env.locals := fun x c e z => by
 obtain ⟨v, o, ho, hd⟩ := I.cell x c e
 obtain ⟨m, ⟨o', es, ep, EV, hd', _⟩, _⟩ := I.loc
 rw [z, EV] at ho; cases ho; rw [hd'] at hd; cases hd
theorem Inv.vD (I : Inv X pins σ H s) : s.heap.FunFrames X.base X.outer := by
 have all : ∀ (l : List Env), (∀ b ∈ uA l, b ∈ X.fs) -> X.s₀.heap.FunFrames X.base l -> s.heap.FunFrames X.base l := by
   intro l
   induction l with
   | nil => intro _ _; trivial
   | cons env r ih =>
     intro hs hl
     obtain ⟨hk, ⟨L, o, hf, hn, ho, hd⟩, hr⟩ := hl
     have hL : L ∈ X.fs := hs L (by unfold uA; rw [am1, hf]; exact al0)
     obtain ⟨sl, e⟩ := I.base.slot L o ho (I.ok.XR L hL) hL fun z => I.ok.Rr L z hL
     exact ⟨hk, ⟨L, _, hf, hn, e, hd⟩, ih (fun b hb => hs b (by unfold uA; rw [am1, hf]; exact al3 _ hb)) hr⟩
 exact all X.outer (fun _ hb => hb) I.ok.vD
theorem Inv.stack (I : Inv X pins σ H s) : s.heap.FunFrames X.base X.stack := by
 rcases I.ok.stk with e | ⟨e, hf⟩
 . rw [e]; exact I.vD
 . rw [e]
   obtain ⟨m, hn, _⟩ := I.loc
   refine .cons (by rw [I.ok.kind]; decide) hf hn ?_ I.vD
   exact Heap.get?_none_of_le (amS I.ok.UQ I.ok.above)
theorem Inv.FT (I : Inv X pins σ H s) : ∀ b ∈ uA X.stack, b ∈ X.env.locals :: X.fs := fun b hb => by
 rcases I.ok.stk with e | ⟨e, hf⟩
 . rw [e] at hb; exact al3 _ hb
 . rw [e] at hb
   unfold uA at hb
   rw [am1, hf] at hb
   exact hb
theorem Inv.FU (I : Inv X pins σ H s) : ∀ b ∈ uA X.stack, H b = none := fun b hb => by
 rcases al6.mp (I.FT b hb) with e | hb
 . rw [e]; exact I.free
 . obtain ⟨_, o, ho, _⟩ := I.ok.vD.mem hb
   exact I.base.free b o ho (I.ok.XR b hb) fun z => I.ok.Rr b z hb
theorem Inv.step {g' : Array GenState} {t' : Nat} {d' : Drawn} {ch : List Addr} (I : Inv X pins σ H s)
   (XS : ∀ b ∈ ch, (b ∈ X.ex \/ X.s₀.heap.objs.size <= b) /\ b ≠ X.env.locals /\ (∀ x c, X.env.cells.lookup x = some c -> c ≠ b) /\ ∀ p ∈ X.pn ++ pins, p.1 ≠ b)
   (keep : ∀ b o, b ≠ X.env.locals -> b ∉ X.fs -> b ∉ ch -> s.heap.get? b = some o -> H b = none -> h'.get? b = some o)
   (slot : ∀ b o, b ≠ X.env.locals -> b ∈ X.fs -> b ∉ ch -> s.heap.get? b = some o -> H b = none -> ∃ sl, h'.get? b = some { o with slots := sl }) (free : ∀ b o, b ∉ ch -> s.heap.get? b = some o -> H b = none -> H' b = none)
   (there : ∀ b o, b ∉ ch -> s.heap.get? b = some o -> ∃ o', h'.get? b = some o')
   (EL : ∀ b xs, H b = some (.tup xs) -> H' b = some (.tup xs)) (gR : ∀ b o u, H b = some (.iY o u) -> H' b = some (.iY o u)) (ER : ∀ b ps, H b = some (.tbl ps) -> ∃ more, H' b = some (.tbl (ps ++ more)))
   (ns : ∀ m, s.heap.Ns X.env.locals m -> h'.Ns X.env.locals m) (fS : uz X.prog X.w H' h') (hg : AllBare g') :
   Inv X pins σ H' { s with heap := h', gens := g', drawn := d', toks := t' } := by
 have neL : ∀ b o, X.s₀.heap.get? b = some o -> b ≠ X.env.locals := fun b o e => amA (amE (amb e) I.ok.above)
 have neC : ∀ b o, X.s₀.heap.get? b = some o -> b ∉ X.ex -> b ∉ ch := fun b o e hx hb => by
   rcases (XS b hb).1 with z | z
   . exact hx z
   . exact absurd (amE (amb e) z) (ano _)
 have cellK : ∀ x c, X.env.cells.lookup x = some c -> ∀ v, s.heap.IsCell c v -> h'.IsCell c v := fun x c e v ⟨o, ho, hd⟩ => by
   have nch : c ∉ ch := fun z => (XS c z).2.2.1 x c e rfl
   by_cases hc : c ∈ X.fs
   . obtain ⟨sl, q⟩ := slot c o (I.cne x c e) hc nch ho (I.oY x c e)
     exact ⟨_, q, hd⟩
   . exact ⟨o, keep c o (I.cne x c e) hc nch ho (I.oY x c e), hd⟩
 refine ⟨I.ok, I.os, hg, ⟨fun b o e n hb hx => ?_, fun b o e n hb hx => ?_, fun b o e n hx => ?_, fun b o e hx => ?_, fun b xs e => EL b xs (I.base.EL b xs e), fun b o xs e => gR b o xs (I.base.gR b o xs e), fun b ps e => ?_⟩, ?_, fun x c e => ?_, ?_, fun x c e => ?_, fun p hp => ?_, fS, I.len⟩
 . exact keep b o (neL b o e) hb (neC b o e hx) (I.base.keep b o e n hb hx) (I.base.free b o e n hx)
 . obtain ⟨sl, e1⟩ := I.base.slot b o e n hb hx
   obtain ⟨sl', e2⟩ := slot b _ (neL b o e) hb (neC b o e hx) e1 (I.base.free b o e n hx)
   exact ⟨sl', e2⟩
 . obtain ⟨o', e1⟩ := I.base.there b o e hx
   exact free b o' (neC b o e hx) e1 (I.base.free b o e n hx)
 . obtain ⟨o', e1⟩ := I.base.there b o e hx
   exact there b o' (neC b o e hx) e1
 . obtain ⟨m1, e1⟩ := I.base.ER b ps e
   obtain ⟨m2, e2⟩ := ER b _ e1
   exact ⟨m1 ++ m2, by rw [e2, Array.append_assoc]⟩
 . obtain ⟨m, hn, hl⟩ := I.loc
   refine ⟨m, ns m hn, fun i x v e1 e2 e3 => ?_⟩
   obtain ⟨u, r, l⟩ := hl i x v e1 e2 e3
   refine ⟨u, r, ?_⟩
   rcases l with l | ⟨k, c, e, z⟩
   . exact .inl l
   . exact .inr ⟨k, c, e, cellK x c e _ z⟩
 . obtain ⟨v, z⟩ := I.cell x c e
   exact ⟨v, cellK x c e v z⟩
 . obtain ⟨m, ⟨o, _, _, ho, _⟩, _⟩ := I.loc
   exact free _ o (fun z => (XS _ z).2.1 rfl) ho I.free
 . obtain ⟨v, o, ho, hd⟩ := I.cell x c e
   exact free c o (fun z => (XS c z).2.2.1 x c e rfl) ho (I.oY x c e)
 . obtain ⟨e, n, ne, nf, d⟩ := I.pin p hp
   have nch : p.1 ∉ ch := fun z => (XS p.1 z).2.2.2 p hp rfl
   exact ⟨keep p.1 p.2 ne nf nch e n, free p.1 p.2 nch e n, ne, nf, d⟩
theorem Inv.un {t' : Nat} (I : Inv X pins σ H s) (u : Un X.fs [] H H' s.heap h') (fS : uz X.prog X.w H' h') : Inv X pins σ H' { s with heap := h', toks := t' } := by
 obtain ⟨m, ⟨o, es, ep, ho, r⟩, _⟩ := id I.loc
 obtain ⟨sl, hL⟩ := u.any ho I.free (by simp)
 exact I.step (g' := s.gens) (d' := s.drawn) (ch := []) (fun _ z => nomatch z) (fun b o _ hb _ e n => u.keep b o e n hb (by simp)) (fun b o _ hb _ e n => u.slot b o e n hb (by simp)) (fun b o _ e n => u.free b o e n (by simp)) (fun b o _ e => u.there b o e (by simp)) u.EL u.gR u.ER (fun m' hm => by
   obtain ⟨o', es', ep', EV, r'⟩ := hm
   rw [ho] at EV; cases EV
   exact ⟨_, es', ep', hL, r'⟩) fS I.bare
theorem Inv.call {g' : Array GenState} {t' : Nat} {d' : Drawn} {ch : List Addr} (I : Inv X pins σ H s) (u : Un (uA X.stack) ch H H' s.heap h') (fS : uz X.prog X.w H' h') (hg : AllBare g')
   (XS : ∀ b ∈ ch, (b ∈ X.ex \/ X.s₀.heap.objs.size <= b) /\ b ≠ X.env.locals /\ (∀ x c, X.env.cells.lookup x = some c -> c ≠ b) /\ ∀ p ∈ X.pn ++ pins, p.1 ≠ b) :
   Inv X pins σ H' { s with heap := h', gens := g', drawn := d', toks := t' } := by
 obtain ⟨m, ⟨o, es, ep, ho, r⟩, _⟩ := id I.loc
 obtain ⟨sl, hL⟩ := u.any ho I.free fun z => (XS _ z).2.1 rfl
 exact I.step (ch := ch) XS (fun b o hL hb hc e n => u.keep b o e n (fun z => (al6.mp (I.FT b z)).elim hL hb) hc) (fun b o _ _ hc e n => u.any e n hc) (fun b o hc e n => u.free b o e n hc) (fun b o hc e => u.there b o e hc) u.EL u.gR u.ER (fun m' hm => by
   obtain ⟨o', es', ep', EV, r'⟩ := hm
   rw [ho] at EV; cases EV
   exact ⟨_, es', ep', hL, r'⟩) fS hg
theorem Inv.turned {t' : Nat} {it : Addr} (I : Inv X pins σ H s) (k : ∀ b o, b ≠ it -> s.heap.get? b = some o -> h'.get? b = some o) (hn : H it = none) (hL : it ≠ X.env.locals)
   (h1 : it ∈ X.ex \/ X.s₀.heap.objs.size <= it) (h2 : ∀ x c, X.env.cells.lookup x = some c -> c ≠ it) (h3 : ∀ p ∈ X.pn ++ pins, p.1 ≠ it) : Inv X pins σ H { s with heap := h', toks := t' } := by
 have nit : ∀ b u, H b = some u -> b ≠ it := fun b u e z => by rw [z, hn] at e; cases e
 refine I.step (g' := s.gens) (d' := s.drawn) (ch := [it]) (fun b hb => ?_) (fun b o _ _ hc e _ => k b o (fun z => hc (by simp [z])) e) (fun b o _ _ hc e _ => ⟨o.slots, k b o (fun z => hc (by simp [z])) e⟩) (fun _ _ _ _ n => n)
   (fun b o hc e => ⟨o, k b o (fun z => hc (by simp [z])) e⟩) (fun _ _ e => e) (fun _ _ _ e => e) (fun b ps e => ⟨#[], by rw [e]; simp⟩) (fun m hm => ?_) (fun b u e => ?_) I.bare
 . have e : b = it := by simpa using hb
   subst e
   exact ⟨h1, hL, h2, h3⟩
 . obtain ⟨o, es, ep, ho, r⟩ := hm
   exact ⟨o, es, ep, k _ o (ani hL) ho, r⟩
 . refine (I.fS b u e).Ip (fun c v hc q => k c v ?_ q) (fun _ q => q) fun _ _ q => q
   rcases hc with z | z
   . rw [z]; exact nit b u e
   . exact nit c _ z
theorem Inv.tok (I : Inv X pins σ H s) (t : Nat) : Inv X pins σ H { s with toks := t } := I.un (h' := s.heap) (t' := t) Un.refl I.fS
theorem Inv.kept {t' : Nat} (I : Inv X pins σ H s) (k : ∀ b u, s.heap.get? b = some u -> h'.get? b = some u) : Inv X pins σ H { s with heap := h', toks := t' } := I.un (Un.kept k) (I.fS.kept k)
theorem Inv.laid {a : Addr} {o : HO} {t' : Nat} (I : Inv X pins σ H s) (k : ∀ b u, s.heap.get? b = some u -> h'.get? b = some u) (hp : s.heap.objs.size <= a) (new : iL X.prog X.w (upd H a o) h' a o) :
   Inv X pins σ (upd H a o) { s with heap := h', toks := t' } := I.un (Un.laid k hp (I.fS.fresh hp)) (I.fS.laid k hp new)
theorem Inv.write {x e : Addr} {o : HO} {t' : Nat} (I : Inv X pins σ H s) (mu : Mut (H x)) (he : e = x \/ H e = some (.own x)) (k : ∀ b u, b ≠ e -> s.heap.get? b = some u -> h'.get? b = some u) (heo : ∃ u, h'.get? e = some u)
   (new : iL X.prog X.w (upd H x o) h' x o) : Inv X pins σ (upd H x o) { s with heap := h', toks := t' } := I.un (Un.write mu he k heo) (I.fS.write mu he k heo new)
theorem Inv.Cj {Iq : List (Addr × Obj)} (I : Inv X pins σ H s) (h : ∀ p ∈ Iq, s.heap.get? p.1 = some p.2 /\ H p.1 = none /\ p.1 ≠ X.env.locals /\ p.1 ∉ X.fs /\ ∀ v, p.2.data ≠ .cell v) : Inv X Iq σ H s :=
 ⟨I.ok, I.os, I.bare, I.base, I.loc, I.cell, I.free, I.oY, fun p hp => (al7.mp hp).elim (fun z => I.pin p (al4 _ z)) (h p), I.fS, I.len⟩
theorem Ir {N : List Str} (hN : N.Nodup) {i j : Nat} {x : Str} (a : N[i]? = some x) (b : N[j]? = some x) : i = j := by
 obtain ⟨h1, e1⟩ := amj.mp a
 obtain ⟨h2, e2⟩ := amj.mp b
 exact (List.getElem_inj hN).mp (e1.trans e2.symm)
theorem Rt {M : Model} {A : Around} {E : Value -> Shared -> Prop} {i : Nat} {x : Str} {v : V} {u : Value} {Q : Unit -> Shared -> Prop} (I : Inv X pins σ H s) (hN : X.N.Nodup) (hi : X.N[i]? = some x) (hx : Loc X.env.scope x) (r : RelV v u)
   (h : ∀ s', Inv X pins (σ.set i (some v)) H s' -> (∃ a, Heap.SameBut a s.heap s'.heap /\ (a = X.env.locals \/ X.env.cells.lookup x = some a)) -> Q () s') (hf : X.fn x = true \/ X.env.scope.names.lookup x = some .local := by first | exact .inl rfl | exact .inr rfl | assumption) : wpAny M A (storeName X.env x u) Q E s := by
 obtain ⟨m, hn, hl⟩ := id I.loc
 have abe : (X.env.scope.kind == .class || (X.env.scope.kind == .module && X.env.locals != X.env.globals)) = false := by rw [I.ok.kind]; rfl
 have hiσ : i < σ.length := by rw [I.len]; exact (amj.mp hi).1
 have cne := I.cne
 have tracked : ∀ {a : Addr} {h' : Heap}, (∃ o, s.heap.get? a = some o /\ H a = none) -> Heap.SameBut a s.heap h' -> uz X.prog X.w H h' := fun {a h'} ha hs b ob e => by
   obtain ⟨_, _, aao⟩ := ha
   refine (I.fS b ob e).Ip (fun c w' hc q => (hs.2 c ?_).trans q) (fun _ q => q) fun _ _ q => q
   rintro rfl
   rcases hc with rfl | hc
   . rw [aao] at e; cases e
   . rw [aao] at hc; cases hc
 rcases hx with hk | hk
 . refine wpAny_storeName_local hk hn (fun h' hn' hs => ?_) abe
   obtain ⟨oL, _, _, hoL, _⟩ := id hn
   refine h _ ⟨I.ok, I.os, I.bare, ⟨fun b o e n hb hx => ?_, fun b o e n hb hx => ?_, I.base.free, fun b o e hx => ?_, I.base.EL, I.base.gR, I.base.ER⟩, ⟨_, hn', fun j y v' e1 e2 e3 => ?_⟩, fun y c e => ?_, I.free, I.oY, fun p hp => ?_, tracked ⟨oL, hoL, I.free⟩ hs, by simpa using I.len⟩ ⟨_, hs, .inl rfl⟩
   . exact (hs.2 b (amA (amE (amb e) I.ok.above))).trans (I.base.keep b o e n hb hx)
   . obtain ⟨sl, e1⟩ := I.base.slot b o e n hb hx
     exact ⟨sl, (hs.2 b (amA (amE (amb e) I.ok.above))).trans e1⟩
   . obtain ⟨o', e1⟩ := I.base.there b o e hx
     exact ⟨o', (hs.2 b (amA (amE (amb e) I.ok.above))).trans e1⟩
   . by_cases hj : j = i
     . subst hj
       rw [hi] at e1; cases e1
       rw [List.getElem?_set_self hiσ] at e2
       cases e2
       exact ⟨u, r, .inl ⟨hk, by simp⟩⟩
     . rw [List.getElem?_set_ne (ani hj)] at e2
       obtain ⟨u', r', q⟩ := hl j y v' e1 e2 e3
       refine ⟨u', r', ?_⟩
       rcases q with ⟨k, e⟩ | ⟨k, c, e, z⟩
       . refine .inl ⟨k, ?_⟩
         have : y ≠ x := fun e => hj (Ir hN e1 (e ▸ hi))
         simp [this, e]
       . exact .inr ⟨k, c, e, z.sameBut hs (cne y c e)⟩
   . obtain ⟨w', z⟩ := I.cell y c e
     exact ⟨w', z.sameBut hs (cne y c e)⟩
   . obtain ⟨e, n, ne, nf, d⟩ := I.pin p hp
     exact ⟨(hs.2 p.1 ne).trans e, n, ne, nf, d⟩
 . have hfn : X.fn x = true := by
     rcases hf with z | z
     . exact z
     . rw [z] at hk; cases hk
   obtain ⟨c, hc⟩ := I.ok.has x (.inl hk)
   obtain ⟨w', z⟩ := I.cell x c hc
   refine wpAny_storeName_cell I.ok.kind hk hc z (fun h' hc' hs => ?_)
   obtain ⟨oc, hoc, aho⟩ := id z
   refine h { s with heap := h' } ⟨I.ok, I.os, I.bare, ⟨fun b o e n hb hx => ?_, fun b o e n hb hx => ?_, I.base.free, fun b o e hx => ?_, I.base.EL, I.base.gR, I.base.ER⟩, ⟨m, hn.sameBut hs (Ne.symm (cne x c hc)), fun j y v' e1 e2 e3 => ?_⟩, fun y c' e => ?_, I.free, I.oY, fun p hp => ?_, tracked ⟨oc, hoc, I.oY x c hc⟩ hs, by simpa using I.len⟩ ⟨c, hs, .inr hc⟩
   . exact (hs.2 b (amA (amE (amb e) (I.ok.cab x c hfn hc)))).trans (I.base.keep b o e n hb hx)
   . obtain ⟨sl, e1⟩ := I.base.slot b o e n hb hx
     exact ⟨sl, (hs.2 b (amA (amE (amb e) (I.ok.cab x c hfn hc)))).trans e1⟩
   . obtain ⟨o', e1⟩ := I.base.there b o e hx
     exact ⟨o', (hs.2 b (amA (amE (amb e) (I.ok.cab x c hfn hc)))).trans e1⟩
   . by_cases hj : j = i
     . subst hj
       rw [hi] at e1; cases e1
       rw [List.getElem?_set_self hiσ] at e2
       cases e2
       exact ⟨u, r, .inr ⟨.inl hk, c, hc, hc'⟩⟩
     . rw [List.getElem?_set_ne (ani hj)] at e2
       obtain ⟨u', r', q⟩ := hl j y v' e1 e2 e3
       refine ⟨u', r', ?_⟩
       rcases q with q | ⟨k, c', e, z'⟩
       . exact .inl q
       . refine .inr ⟨k, c', e, z'.sameBut hs ?_⟩
         rintro rfl
         exact hj (Ir hN e1 (I.ok.inj _ _ _ e hc ▸ hi))
   . by_cases hcc : c' = c
     . subst hcc; exact ⟨_, hc'⟩
     . obtain ⟨w2, z2⟩ := I.cell y c' e
       exact ⟨w2, z2.sameBut hs hcc⟩
   . obtain ⟨e, n, ne, nf, d⟩ := I.pin p hp
     refine ⟨(hs.2 p.1 ?_).trans e, n, ne, nf, d⟩
     intro q
     rw [q, hoc] at e
     have q' : oc = p.2 := amw e
     exact d w' (by rw [← q']; exact aho)
theorem Iu {M : Model} {A : Around} {E : Value -> Shared -> Prop} {i : Nat} {x : Str} {v : V} {u : Value} {Q : Unit -> Shared -> Prop} (I : Inv X pins σ H s) (hN : X.N.Nodup) (hi : X.N[i]? = some x) (hx : Loc X.env.scope x) (r : RelV v u)
   (h : ∀ s', Inv X pins (σ.set i (some v)) H s' -> Q () s') (hf : X.fn x = true \/ X.env.scope.names.lookup x = some .local := by first | exact .inl rfl | exact .inr rfl | assumption) : wpAny M A (storeName X.env x u) Q E s :=
 Rt I hN hi hx r (fun s' I' _ => h s' I') hf
theorem Inv.ael {s' : Shared} {ch : List Addr} (I : Inv X pins σ H s) (ho : s'.os = s.os) (u : Un (uA X.stack) ch H H' s.heap s'.heap) (fS : uz X.prog X.w H' s'.heap) (hg : AllBare s'.gens)
   (XS : ∀ b ∈ ch, (b ∈ X.ex \/ X.s₀.heap.objs.size <= b) /\ b ≠ X.env.locals /\ (∀ x c, X.env.cells.lookup x = some c -> c ≠ b) /\ ∀ p ∈ X.pn ++ pins, p.1 ≠ b) : Inv X pins σ H' s' := by
 obtain ⟨h', g', d', t', o'⟩ := s'
 have e : o' = s.os := ho
 subst e
 exact I.call (g' := g') (t' := t') (d' := d') u fS hg XS
end
noncomputable abbrev XK := Value -> Option Addr -> Hp -> Prop
noncomputable abbrev St := List (Option V)
noncomputable abbrev VK := V -> Hp -> Prop
noncomputable abbrev TE := St -> Hp -> VK -> Prop
noncomputable abbrev TT := St -> Hp -> (Bool -> Hp -> Prop) -> Prop
noncomputable abbrev TA := St -> Hp -> (List V -> Hp -> Prop) -> Prop
structure Ends where
 nx : St -> Hp -> Prop
 rt : VK
 bk : St -> Hp -> Prop := fun _ _ => False
 ct : St -> Hp -> Prop := fun _ _ => False
noncomputable abbrev TS := Ends -> St -> Hp -> Prop
noncomputable def EP (X : Cx) (pins : List (Addr × Obj)) (σ : St) (Q : VK) (u : Value) (s' : Shared) : Prop := ∃ v H', Inv X pins σ H' s' /\ RelV v u /\ Q v H'
noncomputable def TP (X : Cx) (pins : List (Addr × Obj)) (σ : St) (Q : Bool -> Hp -> Prop) (b : Bool) (s' : Shared) : Prop := ∃ H', Inv X pins σ H' s' /\ Q b H'
noncomputable def AP (X : Cx) (pins : List (Addr × Obj)) (σ : St) (Q : List V -> Hp -> Prop) (us : List Value) (s' : Shared) : Prop := ∃ vs H', Inv X pins σ H' s' /\ Vals vs us /\ Q vs H'
noncomputable def SP (X : Cx) (pins : List (Addr × Obj)) (D : Ends) (f : Flow) (s' : Shared) : Prop :=
 match f with
 | .next => ∃ σ' H', Inv X pins σ' H' s' /\ D.nx σ' H'
 | .brk => ∃ σ' H', Inv X pins σ' H' s' /\ D.bk σ' H'
 | .cont => ∃ σ' H', Inv X pins σ' H' s' /\ D.ct σ' H'
 | .ret u => ∃ v σ' H', Inv X pins σ' H' s' /\ RelV v u /\ D.rt v H'
noncomputable def PE (X : Cx) (e : Expr) (t : TE) : Prop :=
 ∀ (pins : List (Addr × Obj)) (s : Shared) (σ : St) (H : Hp) (Q : VK), Inv X pins σ H s -> t σ H Q -> wpAny (model X.prog X.w) X.A (eval e X.env) (EP X pins σ Q) X.xe s
noncomputable def PT (X : Cx) (e : Expr) (t : TT) : Prop :=
 ∀ (pins : List (Addr × Obj)) (s : Shared) (σ : St) (H : Hp) (Q : Bool -> Hp -> Prop), Inv X pins σ H s -> t σ H Q -> wpAny (model X.prog X.w) X.A (isTrue e X.env (eval e X.env)) (TP X pins σ Q) X.xe s
noncomputable def PW (X : Cx) (e : Expr) (t : TT) : Prop :=
 ∀ (whole : Sem Value) (pins : List (Addr × Obj)) (s : Shared) (σ : St) (H : Hp) (Q : Bool -> Hp -> Prop), Inv X pins σ H s -> t σ H Q -> wpAny (model X.prog X.w) X.A (isTrue e X.env whole) (TP X pins σ Q) X.xe s
noncomputable def PA (X : Cx) (es : List Expr) (t : TA) : Prop :=
 ∀ (pos : Pos) (pins : List (Addr × Obj)) (s : Shared) (σ : St) (H : Hp) (Q : List V -> Hp -> Prop), Inv X pins σ H s -> t σ H Q -> wpAny (model X.prog X.w) X.A (spliced (backTo pos (starEach es X.env))) (AP X pins σ Q) X.xe s
noncomputable def PS (X : Cx) (st : Stmt) (t : TS) : Prop :=
 ∀ (pins : List (Addr × Obj)) (s : Shared) (σ : St) (H : Hp) (D : Ends), Inv X pins σ H s -> t D σ H -> wpAny (model X.prog X.w) X.A (exec st X.env) (SP X pins D) X.xe s
noncomputable def PJ (X : Cx) (st : List Stmt) (t : TS) : Prop :=
 ∀ (pins : List (Addr × Obj)) (s : Shared) (σ : St) (H : Hp) (D : Ends), Inv X pins σ H s -> t D σ H -> wpAny (model X.prog X.w) X.A (execs st X.env) (SP X pins D) X.xe s
theorem fk {α : Type} {t : Sem α} {Q Q' : α -> Shared -> Prop} {M : Model} {A : Around} {E : Value -> Shared -> Prop} {s : Shared} (h : wpAny M A t Q E s) (hQ : ∀ a s, Q a s -> Q' a s) : wpAny M A t Q' E s := amV h hQ fun _ _ x => x
section
variable {X : Cx}
noncomputable def ahp (i : Nat) : TE := fun σ H Q => ∃ v, σ[i]? = some (some v) /\ Q v H
noncomputable def tC (v : V) : TE := fun _ H Q => Q v H
theorem nY {i : Nat} {x : Str} {pos : Pos} (hN : X.N[i]? = some x) (hv : Vis X.env.scope x) (hd : (x == ("__debug__" : Str)) = false := by decide) (qo : (x == ("__classdict__" : Str)) = false := by decide) : PE X (.Name x pos) (ahp i) := by
 intro pins s σ H Q I h
 obtain ⟨v, e, h⟩ := h
 obtain ⟨m, hn, hl⟩ := I.loc
 obtain ⟨u, r, l⟩ := hl i x v hN e hv
 have fin : EP X pins σ Q u s := ⟨v, H, I, r, h⟩
 rcases l with ⟨hk, hm⟩ | ⟨hk, c, hc, Fb⟩
 . exact wpAny_Name (wpAny_loadName_local I.ok.kind hk hn hm fin) hd
 . rcases hk with hk | hk
   . exact wpAny_Name (wpAny_loadName_cell I.ok.kind hk hc Fb fin) hd
   . exact wpAny_Name (wpAny_loadName_free I.ok.kind hk hc Fb fin qo) hd
theorem LK {i j pos} : PE X (.Constant (.int i) j pos) (tC (.int i)) := fun _ _ _ H _ I h => wpAny_Constant_int ⟨.int i, H, I.tok _, ⟨_, rfl⟩, h⟩
theorem aem {b j pos} : PE X (.Constant (.bool b) j pos) (tC (.bl b)) := fun _ _ _ H _ I h => Constant_bool ⟨.bl b, H, I, rfl, h⟩
theorem abf {x j pos} : PE X (.Constant (.str x) j pos) (tC (.str x)) := fun _ _ _ H _ I h => Calls.Constant_str ⟨.str x, H, I.tok _, ⟨_, rfl⟩, h⟩
noncomputable def Gl (X : Cx) (x : Str) : Prop := X.env.kindOf x = some .globalImplicit
theorem qJ {E : Value -> Shared -> Prop} {pins : List (Addr × Obj)} {s : Shared} {σ : St} {H : Hp} {x : Str} {u : Value} {pos : Pos} {Q : Value -> Shared -> Prop} (I : Inv X pins σ H s) (hg : Gl X x) (hm : X.mg x = some u) (h : Q u s)
   (hd : (x == ("__debug__" : Str)) = false := by decide) : wpAny (model X.prog X.w) X.A (eval (.Name x pos) X.env) Q E s :=
 Calls.Name_function_global I.ok.kind hg (Calls.loadGlobal_global (by rw [I.ok.glob]; exact I.mod.glob.keeps I.bk) hm h) hd
theorem CW {E : Value -> Shared -> Prop} {pins : List (Addr × Obj)} {s : Shared} {σ : St} {H : Hp} {x : Str} {u : Value} {pos : Pos} {Q : Value -> Shared -> Prop} (I : Inv X pins σ H s) (hg : Gl X x) (hm : X.mg x = none) (hv : bootBuiltins x = some u) (h : Q u s)
   (hn : x ≠ "__name__" := by decide) (hd : (x == ("__debug__" : Str)) = false := by decide) : wpAny (model X.prog X.w) X.A (eval (.Name x pos) X.env) Q E s := by
 obtain ⟨mb, h1, h2⟩ := I.mod.blt
 exact Calls.Name_function_global I.ok.kind hg (Calls.loadGlobal_builtin (by rw [I.ok.glob]; exact I.mod.glob.keeps I.bk) hm (by rw [I.ok.blt]; exact h1.keeps I.bk) ((h2 x hn).trans hv) h) hd
theorem FW {x : Str} {v : V} {u : Value} {pos : Pos} (hg : Gl X x) (hm : X.mg x = some u) (r : RelV v u) (hd : (x == ("__debug__" : Str)) = false := by decide) : PE X (.Name x pos) (tC v) :=
 fun _ _ _ H _ I h => qJ I hg hm ⟨v, H, I, r, h⟩ hd
variable {a b : Expr} {ta tb : TE} {pos : Pos}
noncomputable def PC (X : Cx) (op : CmpOp) (a b : Expr) (t : TE) : Prop :=
 ∀ (pins : List (Addr × Obj)) (s : Shared) (σ : St) (H : Hp) (Q : VK), Inv X pins σ H s -> t σ H Q →
   wpAny (model X.prog X.w) X.A (eval a X.env) (fun v s₁ => wpAny (model X.prog X.w) X.A (eval b X.env) (fun u s₂ => wpAny (model X.prog X.w) X.A (compareOp op v u) (EP X pins σ Q) X.xe s₂) X.xe s₁) X.xe s
theorem Iv (b : Expr) {op : CmpOp} (h : op ≠ .In) (h2 : op ≠ .NotIn) : behindInMarks op b = false := by
 have e1 : (op == CmpOp.In) = false := by cases op <;> first | rfl | exact absurd rfl h
 have e2 : (op == CmpOp.NotIn) = false := by cases op <;> first | rfl | exact absurd rfl h2
 cases b <;> simp [behindInMarks, e1, e2]
noncomputable def ahq (ta : TE) : TE := fun σ H Q => ta σ H fun x H1 => Q (.bl (decide (x = .non))) H1
theorem RelV.UR {x : V} {v : Value} (r : RelV x v) : (v == Value.none) = decide (x = .non) := by
 cases x with
 | non => cases r; rfl
 | bl _ => cases r; rfl
 | int _ => obtain ⟨t, rfl⟩ := r; rfl
 | str _ => obtain ⟨t, rfl⟩ := r; rfl
 | Rp _ => obtain ⟨t, rfl⟩ := r; rfl
 | flt _ => obtain ⟨t, rfl⟩ := r; rfl
 | ref _ => cases r; rfl
 | ty _ => cases r; rfl
theorem LN {j pos'} (ha : PE X a ta) : PC X .Is a (.Constant .none j pos') (ahq ta) := by
 intro pins s σ H Q I h
 refine fk (ha pins s σ H _ I h) fun v s1 zz => ?_
 obtain ⟨x, H1, I1, r1, q1⟩ := zz
 exact Constant_none (is_none_gen ⟨.bl _, H1, I1, by rw [r1.UR]; rfl, q1⟩)
noncomputable def tB (t : TE) : TT := fun σ H Q => t σ H fun x H1 => ∃ c, x = .bl c /\ Q c H1
theorem LQ {op : CmpOp} {t : TE} (h : PC X op a b t) (h1 : behindInMarks op b = false := by first | exact Iv _ (by decide) (by decide) | rfl) : PE X (.Compare a [op] [b] pos) t := fun pins s σ H Q I hw => wpAny_Compare1 (h pins s σ H Q I hw) h1
theorem abg {op : CmpOp} {t : TE} (h : PC X op a b t) (h1 : behindInMarks op b = false := by first | exact Iv _ (by decide) (by decide) | rfl) : PT X (.Compare a [op] [b] pos) (tB t) := by
 intro pins s σ H Q I hw
 refine wpAny_isTrue_Compare1 (fk (h pins s σ H _ I hw) fun v s1 h1 => fk h1 fun u s2 h2 => fk h2 fun c s3 zz => ?_) h1
 obtain ⟨x, H1, I1, r1, q1⟩ := zz
 obtain ⟨d, rfl, q⟩ := q1
 cases r1
 exact am0 ⟨H1, I1, q⟩
theorem abh {e : Expr} {t : TE} (h : PE X e t) (he : ∀ whole, isTrue e X.env whole = (do let v ← whole; standAt e.pos; holding [v] (truthy v)) := by intro _; rfl) : PT X e (tB t) := by
 intro pins s σ H Q I hw
 refine isTrue_plain (fk (h pins s σ H _ I hw) fun v s1 zz => ?_) (he _)
 obtain ⟨x, H1, I1, r1, q1⟩ := zz
 obtain ⟨d, rfl, q⟩ := q1
 cases r1
 exact am0 ⟨H1, I1, q⟩
variable {tA tB' : TT} {rest : List Expr}
noncomputable def ahr (t u : TT) : TT := fun σ H Q => t σ H fun c H1 => if c = true then u σ H1 Q else Q false H1
noncomputable def tOr (t u : TT) : TT := fun σ H Q => t σ H fun c H1 => if c = true then Q true H1 else u σ H1 Q
noncomputable def ahs (t : TT) : TT := fun σ H Q => t σ H fun c H1 => Q (!c) H1
theorem Yb (ha : PT X a tA) : PW X (.BoolOp .And [a] pos) tA := by
 intro wh pins s σ H Q I h
 refine isTrue_and (fk (ha pins s σ H Q I h) fun c s1 e => ?_)
 cases c with
 | true => exact isTrue_and_nil e
 | false => exact e
theorem abi (ha : PT X a tA) : PW X (.BoolOp .Or [a] pos) tA := by
 intro wh pins s σ H Q I h
 refine isTrue_or (fk (ha pins s σ H Q I h) fun c s1 e => ?_)
 cases c with
 | false => exact isTrue_or_nil e
 | true => exact e
theorem abj (ha : PT X a tA) (hb : PW X (.BoolOp .And (b :: rest) pos) tB') : PW X (.BoolOp .And (a :: b :: rest) pos) (ahr tA tB') := by
 intro wh pins s σ H Q I h
 refine isTrue_and (fk (ha pins s σ H _ I h) fun c s1 zz => ?_)
 obtain ⟨H1, I1, q1⟩ := zz
 cases c with
 | true => exact hb wh pins s1 σ H1 Q I1 q1
 | false => exact ⟨H1, I1, q1⟩
theorem aen (ha : PT X a tA) (hb : PW X (.BoolOp .Or (b :: rest) pos) tB') : PW X (.BoolOp .Or (a :: b :: rest) pos) (tOr tA tB') := by
 intro wh pins s σ H Q I h
 refine isTrue_or (fk (ha pins s σ H _ I h) fun c s1 zz => ?_)
 obtain ⟨H1, I1, q1⟩ := zz
 cases c with
 | true => exact ⟨H1, I1, q1⟩
 | false => exact hb wh pins s1 σ H1 Q I1 q1
theorem abk (ha : PT X a tA) : PT X (.UnaryOp .Not a pos) (ahs tA) := by
 intro pins s σ H Q I h
 exact isTrue_not (ha pins s σ H (fun c H1 => Q (!c) H1) I h)
noncomputable def aeo (ta tb : TE) : TE := fun σ H Q => ta σ H fun x H1 => ∃ c, x = .bl c /\ if c = true then tb σ H1 Q else Q (.bl false) H1
noncomputable def aht (ta tb : TE) : TE := fun σ H Q => ta σ H fun x H1 => ∃ c, x = .bl c /\ if c = true then Q (.bl true) H1 else tb σ H1 Q
theorem abl {op} {t : TE} (h : PE X a t) : PE X (.BoolOp op [a] pos) t := fun pins s σ H Q I hw => BoolOp_one (h pins s σ H Q I hw)
theorem abm (ha : PE X a ta) (hb : PE X (.BoolOp .And (b :: rest) pos) tb) : PE X (.BoolOp .And (a :: b :: rest) pos) (aeo ta tb) := by
 intro pins s σ H Q I h
 refine BoolOp_and (fk (ha pins s σ H _ I h) fun v s1 zz => ?_)
 obtain ⟨x, H1, I1, r1, q1⟩ := zz
 obtain ⟨c, rfl, q1⟩ := q1
 cases r1
 refine am0 ?_
 cases c with
 | true => exact hb pins s1 σ H1 Q I1 q1
 | false => exact ⟨.bl false, H1, I1, rfl, q1⟩
theorem aep (ha : PE X a ta) (hb : PE X (.BoolOp .Or (b :: rest) pos) tb) : PE X (.BoolOp .Or (a :: b :: rest) pos) (aht ta tb) := by
 intro pins s σ H Q I h
 refine BoolOp_or (fk (ha pins s σ H _ I h) fun v s1 zz => ?_)
 obtain ⟨x, H1, I1, r1, q1⟩ := zz
 obtain ⟨c, rfl, q1⟩ := q1
 cases r1
 refine am0 ?_
 cases c with
 | false => exact hb pins s1 σ H1 Q I1 q1
 | true => exact ⟨.bl true, H1, I1, rfl, q1⟩
noncomputable def tIf (t : TT) (ta tb : TE) : TE := fun σ H Q => t σ H fun c H1 => if c = true then ta σ H1 Q else tb σ H1 Q
theorem UT {c : Expr} (hc : PT X c tA) (ha : PE X a ta) (hb : PE X b tb) : PE X (.IfExp c a b pos) (tIf tA ta tb) := by
 intro pins s σ H Q I h
 refine wpAny_IfExp (fk (hc pins s σ H _ I h) fun d s1 zz => ?_)
 obtain ⟨H1, I1, q1⟩ := zz
 cases d with
 | true => exact ha pins s1 σ H1 Q I1 q1
 | false => exact hb pins s1 σ H1 Q I1 q1
end
noncomputable def rV (K : PySem.W.Frag) (H : Hp) (a : Addr) (xs : List V) : Prop :=
 Rd H a (.lst xs) ∨
   ∃ (o : Obj) (its : Array Value) (n : Nat), K.lookup a = some o /\ o.cls = .type "list" /\ o.dict = none /\ o.data = .seq its n /\ its.size <= sizeLine /\ Vals xs its.toList
noncomputable def Bw (K : PySem.W.Frag) (H : Hp) (a : Addr) (xs : List V) : Prop :=
 Rd H a (.tup xs) ∨
   ∃ (o : Obj) (its : Array Value) (n : Nat), K.lookup a = some o /\ o.cls = .type "tuple" /\ o.data = .seq its n /\ its.size <= sizeLine /\ Vals xs its.toList
noncomputable def ahu : Value -> Option V
 | .none => some .non
 | .bool b => some (.bl b)
 | .int i _ => some (.int i)
 | .str x _ => some (.str x)
 | .bytes b _ => some (.Rp b)
 | .float b _ => some (.flt b)
 | .ref a => some (.ref a)
 | .type n => some (.ty n)
 | _ => none
theorem RelV.abs {x : V} {u : Value} (r : RelV x u) : ahu u = some x := by
 cases x with
 | non => cases r; rfl
 | bl _ => cases r; rfl
 | int _ => obtain ⟨t, rfl⟩ := r; rfl
 | str _ => obtain ⟨t, rfl⟩ := r; rfl
 | Rp _ => obtain ⟨t, rfl⟩ := r; rfl
 | flt _ => obtain ⟨t, rfl⟩ := r; rfl
 | ref _ => cases r; rfl
 | ty _ => cases r; rfl
theorem RelV.inj {x y : V} {u : Value} (r : RelV x u) (q : RelV y u) : x = y := amw (r.abs.symm.trans q.abs)
theorem Vals.inj {xs ys : List V} {us : List Value} (h : Vals xs us) (q : Vals ys us) : xs = ys := by
 induction h generalizing ys with
 | nil => cases q; rfl
 | cons r _ i => cases q with
   | cons r' t' => rw [r.inj r', i t']
section
variable {X : Cx} {pins : List (Addr × Obj)} {σ : St} {H : Hp} {s : Shared} {a : Addr} {xs ys : List V}
theorem rV.of {K : PySem.W.Frag} (h : H a = some (.lst xs)) : rV K H a xs := .inl (.inl h)
theorem Bw.of {K : PySem.W.Frag} (h : H a = some (.tup xs)) : Bw K H a xs := .inl (.inl h)
theorem Inv.list (I : Inv X pins σ H s) (h : rV X.K H a xs) : ∃ its : List Value, Vals xs its /\ PlainL s.heap a its.toArray /\ xs.length <= sizeLine := by
 rcases h with h | ⟨o, its, n, hk, hc, hd, hs, hz, r⟩
 . obtain ⟨z, its, n, r, e⟩ := h.ok I.fS
   exact ⟨its, r, ⟨_, n, e, rfl, rfl, rfl⟩, z⟩
 . refine ⟨its.toList, r, ⟨o, n, I.FQ a o hk, hc, hd, by simpa using hs⟩, ?_⟩
   have e := r.length
   simp only [Array.length_toList] at e
   omega
theorem Inv.tuple (I : Inv X pins σ H s) (h : Bw X.K H a xs) : ∃ its : List Value, Vals xs its /\ IsTup s.heap a its.toArray /\ xs.length <= sizeLine := by
 rcases h with h | ⟨o, its, n, hk, hc, hs, hz, r⟩
 . obtain ⟨z, its, r, p⟩ := h.ok I.fS
   exact ⟨its, r, p, z⟩
 . refine ⟨its.toList, r, ⟨o, I.FQ a o hk, hc, n, by simpa using hs⟩, ?_⟩
   have e := r.length
   simp only [Array.length_toList] at e
   omega
theorem Inv.Iw (I : Inv X pins σ H s) (h : rV X.K H a xs) (h' : rV X.K H a ys) : xs = ys := by
 obtain ⟨its, r, ⟨o, n, e, _, _, d⟩, _⟩ := I.list h
 obtain ⟨its', r', ⟨o', n', e', _, _, d'⟩, _⟩ := I.list h'
 rw [e] at e'; cases e'
 rw [d] at d'
 injection d' with d1 _
 have : its = its' := by simpa using congrArg Array.toList d1
 subst this
 exact r.inj r'
theorem Inv.Ru (I : Inv X pins σ H s) (h : Bw X.K H a xs) (h' : Bw X.K H a ys) : xs = ys := by
 obtain ⟨its, r, ⟨o, e, _, n, d⟩, _⟩ := I.tuple h
 obtain ⟨its', r', ⟨o', e', _, n', d'⟩, _⟩ := I.tuple h'
 rw [e] at e'; cases e'
 rw [d] at d'
 injection d' with d1 _
 have : its = its' := by simpa using congrArg Array.toList d1
 subst this
 exact r.inj r'
end
noncomputable abbrev Cx.wish (X : Cx) (E : Value -> Shared -> Prop) : Cx := { X with xe := E }
noncomputable abbrev Cx.nox (X : Cx) : Cx := X.wish fun _ _ => False
theorem Cx.Ok.wish {X : Cx} (ok : X.Ok) (E : Value -> Shared -> Prop) : (X.wish E).Ok :=
 ⟨ok.mod, ok.kind, ok.glob, ok.blt, ok.above, ok.inj, ok.has, ok.cab, ok.hd, ok.frames, ok.stk, ok.exf, ok.bs, ok.UQ, ok.LJ, ok.Rr, ok.vD, ok.XR⟩
theorem Cx.Ok.mJ {X : Cx} {E : Value -> Shared -> Prop} (ok : (X.wish E).Ok) : X.Ok :=
 ⟨ok.mod, ok.kind, ok.glob, ok.blt, ok.above, ok.inj, ok.has, ok.cab, ok.hd, ok.frames, ok.stk, ok.exf, ok.bs, ok.UQ, ok.LJ, ok.Rr, ok.vD, ok.XR⟩
section
variable {X : Cx} {pins : List (Addr × Obj)} {σ : St} {H : Hp} {s : Shared} {E : Value -> Shared -> Prop}
theorem Inv.wish (I : Inv X pins σ H s) (E : Value -> Shared -> Prop) : Inv (X.wish E) pins σ H s := ⟨I.ok.wish E, I.os, I.bare, I.base, I.loc, I.cell, I.free, I.oY, I.pin, I.fS, I.len⟩
theorem Inv.mJ (I : Inv (X.wish E) pins σ H s) : Inv X pins σ H s := ⟨I.ok.mJ, I.os, I.bare, I.base, I.loc, I.cell, I.free, I.oY, I.pin, I.fS, I.len⟩
theorem SP.mJ {D : Ends} {f : Flow} {s' : Shared} (h : SP (X.wish E) pins D f s') : SP X pins D f s' := by
 cases f with
 | next => obtain ⟨σ', H', I, q⟩ := h; exact ⟨σ', H', I.mJ, q⟩
 | brk => obtain ⟨σ', H', I, q⟩ := h; exact ⟨σ', H', I.mJ, q⟩
 | cont => obtain ⟨σ', H', I, q⟩ := h; exact ⟨σ', H', I.mJ, q⟩
 | ret u => obtain ⟨v, σ', H', I, r, q⟩ := h; exact ⟨v, σ', H', I.mJ, r, q⟩
theorem PJ.nox {st : List Stmt} {t : TS} (h : PJ X.nox st t) : PJ X st t := fun pins s σ H D I hw =>
 amV (h pins s σ H D (I.wish _) hw) (fun _ _ q => q.mJ) fun _ _ z => False.elim z
end
section
variable {X : Cx} {st : Stmt} {rest : List Stmt} {t u : TS} {e : Expr} {te : TE} {pos : Pos}
noncomputable def aeq : TS := fun D σ H => D.nx σ H
noncomputable def ahv (t u : TS) : TS := fun D σ H => t { D with nx := u D } σ H
theorem Yc : PJ X [] aeq := fun _ _ σ H _ I h => wpAny_execs_nil ⟨σ, H, I, h⟩
theorem Iz (h1 : PS X st t) (h2 : PJ X rest u) : PJ X (st :: rest) (ahv t u) := by
 intro pins s σ H D I h
 refine wpAny_execs_cons (fk (h1 pins s σ H { D with nx := u D } I h) fun f s1 q => ?_)
 cases f with
 | next =>
   obtain ⟨σ', H', I', q⟩ := q
   exact h2 pins s1 σ' H' D I' q
 | ret v => exact q
 | brk => exact q
 | cont => exact q
theorem Inv.quiet {pins : List (Addr × Obj)} {σ : St} {H : Hp} {s : Shared} (I : Inv X pins σ H s) : interactive X.env = false := by simp [interactive, I.ok.kind]
noncomputable def aer (te : TE) : TS := fun D σ H => te σ H fun _ H1 => D.nx σ H1
theorem FY (he : PE X e te) (hs : swapsWith e none pos.line X.env = pure false := by rfl) : PS X (.Expr e pos) (aer te) := by
 intro pins s σ H D I h
 exact wpAny_Expr_any (fk (he pins s σ H _ I h) fun v s1 ⟨x, H1, I1, r1, q1⟩ => ⟨σ, H1, I1, q1⟩) I.quiet hs
noncomputable def ahw (te : TE) : TS := fun D σ H => te σ H D.rt
theorem abn (he : PE X e te) : PS X (.Return (some e) pos) (ahw te) := by
 intro pins s σ H D I h
 exact wpAny_Return_some (fk (he pins s σ H _ I h) fun v s1 ⟨x, H1, I1, r1, q1⟩ => ⟨x, σ, H1, I1, r1, q1⟩)
noncomputable def ahx (c : TT) (t u : TS) : TS := fun D σ H => c σ H fun b H1 => if b = true then t D σ H1 else u D σ H1
theorem aes {c : Expr} {a b : List Stmt} {tc : TT} (hc : PT X c tc) (ha : PJ X a t) (hb : PJ X b u) : PS X (.If c a b pos) (ahx tc t u) := by
 intro pins s σ H D I h
 refine wpAny_If (fk (hc pins s σ H _ I h) fun d s1 zz => ?_)
 obtain ⟨H1, I1, q1⟩ := zz
 cases d with
 | true => exact ha pins s1 σ H1 D I1 q1
 | false => exact hb pins s1 σ H1 D I1 q1
end
noncomputable abbrev TG := V -> St -> Hp -> (St -> Hp -> Prop) -> Prop
noncomputable abbrev TGs := List V -> St -> Hp -> (St -> Hp -> Prop) -> Prop
noncomputable def PG (X : Cx) (target : Expr) (t : TG) : Prop :=
 ∀ (pins : List (Addr × Obj)) (s : Shared) (σ : St) (H : Hp) (v : V) (u : Value) (Q : St -> Hp -> Prop), Inv X pins σ H s -> RelV v u -> t v σ H Q →
   wpAny (model X.prog X.w) X.A (assign target X.env u) (fun _ s' => ∃ σ' H', Inv X pins σ' H' s' /\ Q σ' H') X.xe s
noncomputable def PGs (X : Cx) (ts : List Expr) (t : TGs) : Prop :=
 ∀ (pins : List (Addr × Obj)) (s : Shared) (σ : St) (H : Hp) (vs : List V) (us : List Value) (Q : St -> Hp -> Prop), Inv X pins σ H s -> Vals vs us -> t vs σ H Q →
   wpAny (model X.prog X.w) X.A (assignInOrder ((assignEach ts X.env).map (·.2)) us) (fun _ s' => ∃ σ' H', Inv X pins σ' H' s' /\ Q σ' H') X.xe s
noncomputable abbrev abp := V -> V -> V -> Hp -> (Hp -> Prop) -> Prop
noncomputable def aeu (X : Cx) (t : abp) : Prop :=
 ∀ (pins : List (Addr × Obj)) (s : Shared) (σ : St) (H : Hp) (o i v : V) (ov iv u : Value) (Q : Hp -> Prop), Inv X pins σ H s -> RelV o ov -> RelV i iv -> RelV v u -> t o i v H Q →
   wpAny (model X.prog X.w) X.A (setItem ov iv u) (fun _ s' => ∃ H', Inv X pins σ H' s' /\ Q H') X.xe s
section
variable {X : Cx} {pos : Pos}
noncomputable def A6 (i : Nat) : TG := fun v σ H Q => Q (σ.set i (some v)) H
theorem xM {i : Nat} {x : Str} (hN : X.N.Nodup) (hi : X.N[i]? = some x) (hx : Loc X.env.scope x) (hf : X.fn x = true \/ X.env.scope.names.lookup x = some .local := by first | exact .inl rfl | exact .inr rfl | assumption) : PG X (.Name x pos) (A6 i) := by
 intro pins s σ H v u Q I r h
 exact wpAny_assign_Name (Iu I hN hi hx r (fun s' I' => ⟨_, H, I', h⟩) hf)
noncomputable def abq : TGs := fun vs σ H Q => vs = [] /\ Q σ H
noncomputable def IA (t : TG) (u : TGs) : TGs := fun vs σ H Q => ∃ v r, vs = v :: r /\ t v σ H fun σ' H' => u r σ' H' Q
theorem Yd : PGs X [] abq := by
 intro pins s σ H vs us Q I r h
 obtain ⟨e, h⟩ := h
 subst e
 cases r
 exact assignInOrder_nil ⟨σ, H, I, h⟩
theorem IB {e : Expr} {es : List Expr} {t : TG} {u : TGs} (h1 : PG X e t) (h2 : PGs X es u)
   (hs : (assignEach (e :: es) X.env).map (·.2) = assign e X.env :: (assignEach es X.env).map (·.2) := by rfl) : PGs X (e :: es) (IA t u) := by
 intro pins s σ H vs us Q I r h
 obtain ⟨v, vr, e1, h⟩ := h
 subst e1
 cases r with
 | cons r rr =>
   rw [hs]
   refine assignInOrder_cons (fk (h1 pins s σ H _ _ _ I r h) fun _ s1 zz => ?_)
   obtain ⟨σ1, H1, I1, q1⟩ := zz
   exact h2 pins s1 σ1 H1 _ _ Q I1 rr q1
noncomputable def abr (K : PySem.W.Frag) (n : Nat) (t : TGs) : TG := fun v σ H Q => ∃ a xs, v = .ref a /\ Bw K H a xs /\ xs.length = n /\ t xs σ H Q
theorem abt {es : List Expr} {k : Nat} {t : TGs} {n : Nat} (hc : X.calm = true) (h : PGs X es t)
   (hn : (assignEach es X.env).length = n := by rfl) (qH : (assignEach es X.env).findIdx? (·.1) = none := by rfl) : PG X (.Tuple es k pos) (abr X.K n t) := by
 intro pins s σ H v u Q I r hw
 obtain ⟨a, xs, e1, hq, hl, hw⟩ := hw
 subst e1
 cases r
 obtain ⟨its, rv, ht, hz⟩ := I.tuple hq
 refine assign_Tuple_tuple (I.ok.hd hc) ht (by simp [hn, ← hl, rv.length]) qH fun h' hx => ?_
 have I1 : Inv X pins σ H { s with heap := h' } := I.kept (t' := s.toks) fun b o e => hx b o (amA (amb e)) e
 exact h pins _ σ H xs _ Q I1 (by simpa using rv) hw
noncomputable def ahy (to ti : TE) (t : abp) : TG := fun v σ H Q => to σ H fun o H1 => ti σ H1 fun i H2 => t o i v H2 fun H3 => Q σ H3
theorem abu {o i : Expr} {to ti : TE} {t : abp} (ho : PE X o to) (hi : PE X i ti) (hs : aeu X t)
   (ha : ∀ v, assign (.Subscript o i pos) X.env v = (do
     let ov ← holding [v] (eval o X.env)
     let iv ← holding [v, ov] (eval i X.env)
     standAt pos
     holding [v, ov, iv] (setItem ov iv v)
     release [v, ov, iv] []) := by intro _; rfl) : PG X (.Subscript o i pos) (ahy to ti t) := by
 intro pins s σ H v u Q I r h
 rw [ha]
 refine amq (anJ (fk (ho pins s σ H _ I h) fun ov s1 zz => ?_))
 obtain ⟨x, H1, I1, r1, q1⟩ := zz
 refine amq (anJ (fk (hi pins s1 σ H1 _ I1 q1) fun iv s2 zz => ?_))
 obtain ⟨y, H2, I2, r2, q2⟩ := zz
 refine amq (wpAny_standAt (amq (anJ (fk (hs pins s2 σ H2 x y v ov iv u _ I2 r1 r2 r q2) fun _ s3 zz => ?_))))
 obtain ⟨H3, I3, q3⟩ := zz
 exact wpAny_release ⟨σ, H3, I3, q3⟩
noncomputable def aev (te : TE) (g : TG) : TS := fun D σ H => te σ H fun x H1 => g x σ H1 D.nx
theorem abv {tg e : Expr} {te : TE} {g : TG} (he : PE X e te) (hg : PG X tg g) (hs : swapsWithSole [tg] e pos.line X.env = pure false := by rfl) (hw : swappedStores [tg] e X.env = pure none := by rfl)
   (h1 : (assignEach [tg] X.env).map (·.2) = [assign tg X.env] := by rfl) : PS X (.Assign [tg] e pos) (aev te g) := by
 intro pins s σ H D I h
 refine wpAny_Assign_stores (fk (he pins s σ H _ I h) fun v s1 zz => ?_) hs hw
 obtain ⟨x, H1, I1, r1, q1⟩ := zz
 rw [h1]
 exact fk (hg pins s1 σ H1 x v _ I1 r1 q1) fun _ s2 q => q
theorem UU {i : Nat} {x : Str} {e : Expr} {te : TE} {pos' : Pos} (hN : X.N.Nodup) (hi : X.N[i]? = some x) (hx : Loc X.env.scope x) (he : PE X e te) (hs : swapsWith e (some (.Name x pos')) pos.line X.env = pure false := by rfl) (hf : X.fn x = true \/ X.env.scope.names.lookup x = some .local := by first | exact .inl rfl | exact .inr rfl | assumption) :
   PS X (.Assign [.Name x pos'] e pos) (aev te (A6 i)) := by
 intro pins s σ H D I h
 refine wpAny_Assign_Name (fk (he pins s σ H _ I h) fun v s1 zz => ?_) hs
 obtain ⟨y, H1, I1, r1, q1⟩ := zz
 exact Iu I1 hN hi hx r1 (fun s2 I2 => ⟨_, H1, I2, q1⟩) hf
end
section
variable {X : Cx} {pos : Pos}
noncomputable def abw (c : TT) (tb : TS) : TS := fun D σ H => ∃ W : Nat -> St -> Hp -> Prop, (∃ m, W m σ H) /\ ∀ m σ H, W m σ H →
 c σ H fun b H1 => if b = true then ∃ N : St -> Hp -> Prop, (∀ σ' H', N σ' H' -> ∃ m', m' < m /\ W m' σ' H') /\ tb { D with nx := N, ct := N, bk := D.nx } σ H1 else D.nx σ H1
theorem UW {c : Expr} {body : List Stmt} {tc : TT} {tb : TS} (hp : PassesOwn (model X.prog X.w) X.A X.env X.xe) (hc : PT X c tc) (hb : PJ X body tb) : PS X (.While c body [] pos) (abw tc tb) := by
 intro pins s σ H D I h
 obtain ⟨W, ⟨m0, w0⟩, turn⟩ := h
 refine wpAny_While (codeAny_whileLoop (fun n s' => ∃ σ' H', Inv X pins σ' H' s' /\ W n σ' H') ?_ m0 ⟨σ, H, I, w0⟩)
 rintro n s1 ⟨σ1, H1, I1, w1⟩
 refine anf hp (fk (hc pins s1 σ1 H1 _ I1 (turn n σ1 H1 w1)) fun b s2 zz => ?_)
 obtain ⟨H2, I2, q2⟩ := zz
 cases b with
 | true =>
   obtain ⟨N, hN, q2⟩ := q2
   rw [alW rfl]
   refine anf hp (fk (hb pins s2 σ1 H2 _ I2 q2) fun f s3 q3 => ?_)
   cases f with
   | next =>
     obtain ⟨σ3, H3, I3, n3⟩ := q3
     obtain ⟨m', hm, w3⟩ := hN σ3 H3 n3
     exact ⟨m', hm, σ3, H3, I3, w3⟩
   | cont =>
     obtain ⟨σ3, H3, I3, n3⟩ := q3
     obtain ⟨m', hm, w3⟩ := hN σ3 H3 n3
     exact ⟨m', hm, σ3, H3, I3, w3⟩
   | brk => exact q3
   | ret v => exact q3
 | false =>
   rw [alT amc]
   exact wpAny_execs_nil ⟨σ1, H2, I2, q2⟩
end
structure It where
 go : Nat -> Hp -> Prop
 yld : Nat -> Hp -> V -> Hp -> Prop
 stop : Nat -> Hp -> Prop
noncomputable def By (X : Cx) (pins : List (Addr × Obj)) (H : Hp) (b : Addr) : Prop :=
 H b = none /\ b ≠ X.env.locals /\ b ∉ X.fs /\ (b ∈ X.ex \/ X.s₀.heap.objs.size <= b) /\ (∀ x c, X.env.cells.lookup x = some c -> c ≠ b) /\ ∀ p ∈ X.pn ++ pins, p.1 ≠ b
theorem Inv.FZ {X : Cx} {pins : List (Addr × Obj)} {σ : St} {H H' : Hp} {s : Shared} {b : Addr} (I : Inv X pins σ H s) (hb : s.heap.objs.size <= b) (hn : H' b = none) : By X pins H' b := by
 refine ⟨hn, Nat.ne_of_gt (amE I.lt hb), I.ahk hb, .inr (amS I.sz hb), fun x c e z => ?_, fun p hp z => ?_⟩
 . obtain ⟨v, q⟩ := I.cell x c e
   exact absurd (amE q.lt (by rw [z]; exact hb)) (ano _)
 . exact absurd (amE (amb (I.pin p hp).1) (by rw [z]; exact hb)) (ano _)
structure Turn (P : Program) (w : World) (K : PySem.W.Frag) (tg : Expr) (J : It) (fp : List Addr) (it : Addr) (tn : Nat -> Heap -> Prop) : Prop where
 mem : it ∈ fp
 obj : ∀ i h, tn i h -> ∀ b ∈ fp, ∃ o, h.get? b = some o /\ ∀ v, o.data ≠ .cell v
 keep : ∀ i h h', tn i h -> (∀ b ∈ fp, ∀ o, h.get? b = some o -> h'.get? b = some o) -> tn i h'
 item : ∀ (X : Cx), X.prog = P -> X.w = w -> X.K = K -> X.calm = true -> ∀ (i : Nat) (pins : List (Addr × Obj)) (s : Shared) (σ : St) (H : Hp) (E : Value -> Shared -> Prop), Inv X pins σ H s -> (∀ b ∈ fp, By X pins H b) -> tn i s.heap -> J.go i H →
   wpAny (model P w) X.A (pyNext (.ref it)) (fun r s1 => ∃ u, r = some u ∧
     wpAny (model P w) X.A (letOwnedTupleGo tg (.ref it) u) (fun _ s2 => ∃ x H', Inv X pins σ H' s2 /\ RelV x u /\ J.yld i H x H' /\ tn (i + 1) s2.heap /\ ∀ b ∈ fp, H' b = none) E s1) E s
 done : ∀ (X : Cx), X.prog = P -> X.w = w -> X.K = K -> X.calm = true -> ∀ (i : Nat) (pins : List (Addr × Obj)) (s : Shared) (σ : St) (H : Hp) (E : Value -> Shared -> Prop), Inv X pins σ H s -> (∀ b ∈ fp, By X pins H b) -> tn i s.heap -> J.stop i H →
   wpAny (model P w) X.A (pyNext (.ref it)) (fun r s1 => r = none /\ Inv X pins σ H s1) E s
 self : ∀ (A : Around) (i : Nat) (s : Shared) (Q : Value -> Shared -> Prop) (E : Value -> Shared -> Prop), tn i s.heap -> Q (.ref it) s -> wpAny (model P w) A (pyIter (.ref it)) Q E s
noncomputable abbrev TI := St -> Hp -> (It -> Hp -> Prop) -> Prop
noncomputable def PIE (X : Cx) (pins : List (Addr × Obj)) (σ : St) (tg : Expr) (R : It -> Hp -> Prop) (itv : Value) (s2 : Shared) : Prop :=
 ∃ (it : Addr) (fp : List Addr) (tn : Nat -> Heap -> Prop) (J : It) (H' : Hp), itv = .ref it /\ Inv X pins σ H' s2 /\ Turn X.prog X.w X.K tg J fp it tn /\ tn 0 s2.heap /\ (∀ b ∈ fp, By X pins H' b) /\ R J H'
noncomputable def PI (X : Cx) (tg iter : Expr) (wi : TI) : Prop :=
 ∀ (pins : List (Addr × Obj)) (s : Shared) (σ : St) (H : Hp) (R : It -> Hp -> Prop), Inv X pins σ H s -> wi σ H R →
   wpAny (model X.prog X.w) X.A (eval iter X.env) (fun v s1 => wpAny (model X.prog X.w) X.A (pyIter v) (PIE X pins σ tg R) X.xe s1) X.xe s
theorem IC {M : Model} {A : Around} {E : Value -> Shared -> Prop} {s : Shared} {tg : Expr} {it : Addr} {u : Value} {o : Obj} {n : String} {vs : Array Value} {Q : Unit -> Shared -> Prop} (ho : s.heap.get? it = some o) (hc : o.cls = .type n) (hd : o.data = .fields vs)
   (hn : ["enumerate", "zip", "dict_itemiterator", "dict_reverseitemiterator", "odict_iterator", "itertools.zip_longest", "itertools.pairwise"].contains n = false) (hQ : Q () s) : wpAny M A (letOwnedTupleGo tg (.ref it) u) Q E s := by
 unfold letOwnedTupleGo
 cases tg <;> first
   | exact amL hQ
   | (cases u <;> first
       | exact amL hQ
       | (refine amq (wpAny_load ho ?_)
          rw [hc, hd]
          show wpAny M A (if (["enumerate", "zip", "dict_itemiterator", "dict_reverseitemiterator", "odict_iterator", "itertools.zip_longest", "itertools.pairwise"].contains n && vs[0]? == some (rawInt _)) = true then _ else _) Q E s
          rw [alT (by intro h; rw [hn, amy] at h; cases h)]
          exact amL hQ))
noncomputable def Itl (K : PySem.W.Frag) (a : Addr) : It :=
 ⟨fun i H => ∃ xs x, rV K H a xs /\ xs[i]? = some x, fun i H x H' => H' = H /\ ∀ xs, rV K H a xs -> xs[i]? = some x, fun i H => ∃ xs, rV K H a xs /\ xs.length <= i⟩
noncomputable def Itt (K : PySem.W.Frag) (a : Addr) : It :=
 ⟨fun i H => ∃ xs x, Bw K H a xs /\ xs[i]? = some x, fun i H x H' => H' = H /\ ∀ xs, Bw K H a xs -> xs[i]? = some x, fun i H => ∃ xs, Bw K H a xs /\ xs.length <= i⟩
noncomputable def Itr (lo : Int) (n : Nat) : It := ⟨fun i _ => i < n, fun i H x H' => H' = H /\ x = .int (lo + i), fun i _ => n <= i⟩
theorem Rw {P : Program} {w : World} {K : PySem.W.Frag} {tg : Expr} (a it : Addr) : Turn P w K tg (Itl K a) [it] it (fun i h => h.IsListIter it a i) where
 mem := by simp
 obj := fun i h st b hb => by
   have e : b = it := by simpa using hb
   subst e
   obtain ⟨o, e, c, d⟩ := st
   exact ⟨o, e, fun v z => by rw [d] at z; cases z⟩
 keep := fun i h h' st k => st.at fun o e => k it (by simp) o e
 item := by
   intro X hP hw hK hc i pins s σ H E I hf st hg
   subst hP hw hK
   obtain ⟨xs, x, hq, hx⟩ := hg
   obtain ⟨its, rv, p, hz⟩ := I.list hq
   obtain ⟨u, hu, ru⟩ := rv.get hx
   obtain ⟨f0, f1, f2, f3, f4, f5⟩ := hf it (by simp)
   refine wpAny_pyNext_list_item st p.isList (x := u) (by simpa using hu) fun h' PK sb => ?_
   have I1 : Inv X pins σ H { s with heap := h' } := I.turned (t' := s.toks) (fun b o hb e => (sb.2 b hb).trans e) f0 f1 f3 f4 f5
   obtain ⟨o, e, c, d⟩ := id PK
   exact ⟨u, rfl, IC (s := { s with heap := h' }) e c d (by decide) ⟨x, H, I1, ru, ⟨rfl, fun ys hy => by rw [I.Iw hy hq]; exact hx⟩, PK, fun b hb => (hf b hb).1⟩⟩
 done := by
   intro X hP hw hK hc i pins s σ H E I hf st hg
   subst hP hw hK
   obtain ⟨xs, hq, hx⟩ := hg
   obtain ⟨its, rv, p, hz⟩ := I.list hq
   obtain ⟨f0, f1, f2, f3, f4, f5⟩ := hf it (by simp)
   have hl := rv.length
   exact wpAny_pyNext_list_end (I.ok.hd hc) st p.isList (by simp; omega) fun h' eb => ⟨rfl, I.turned (t' := s.toks) (fun b o hb e => eb b o hb e) f0 f1 f3 f4 f5⟩
 self := fun _ _ _ _ _ st h => wpAny_pyIter_listiter st h
theorem LR {P : Program} {w : World} {K : PySem.W.Frag} {tg : Expr} (a it : Addr) : Turn P w K tg (Itt K a) [it] it (fun i h => h.IsTupleIter it a i) where
 mem := by simp
 obj := fun i h st b hb => by
   have e : b = it := by simpa using hb
   subst e
   obtain ⟨o, e, c, d⟩ := st
   exact ⟨o, e, fun v z => by rw [d] at z; cases z⟩
 keep := fun i h h' st k => st.at fun o e => k it (by simp) o e
 item := by
   intro X hP hw hK hc i pins s σ H E I hf st hg
   subst hP hw hK
   obtain ⟨xs, x, hq, hx⟩ := hg
   obtain ⟨its, rv, p, hz⟩ := I.tuple hq
   obtain ⟨u, hu, ru⟩ := rv.get hx
   obtain ⟨f0, f1, f2, f3, f4, f5⟩ := hf it (by simp)
   refine wpAny_pyNext_tuple_item st (show s.heap.IsTuple a its.toArray from p) (x := u) (by simpa using hu) fun h' PK sb => ?_
   have I1 : Inv X pins σ H { s with heap := h' } := I.turned (t' := s.toks) (fun b o hb e => (sb.2 b hb).trans e) f0 f1 f3 f4 f5
   obtain ⟨o, e, c, d⟩ := id PK
   exact ⟨u, rfl, IC (s := { s with heap := h' }) e c d (by decide) ⟨x, H, I1, ru, ⟨rfl, fun ys hy => by rw [I.Ru hy hq]; exact hx⟩, PK, fun b hb => (hf b hb).1⟩⟩
 done := by
   intro X hP hw hK hc i pins s σ H E I hf st hg
   subst hP hw hK
   obtain ⟨xs, hq, hx⟩ := hg
   obtain ⟨its, rv, p, hz⟩ := I.tuple hq
   obtain ⟨f0, f1, f2, f3, f4, f5⟩ := hf it (by simp)
   have hl := rv.length
   exact wpAny_pyNext_tuple_end (I.ok.hd hc) st (show s.heap.IsTuple a its.toArray from p) (by simp; omega) fun h' eb => ⟨rfl, I.turned (t' := s.toks) (fun b o hb e => eb b o hb e) f0 f1 f3 f4 f5⟩
 self := fun _ _ _ _ _ st h => wpAny_pyIter_tupleiter st h
theorem LV {P : Program} {w : World} {K : PySem.W.Frag} {tg : Expr} (it : Addr) (lo : Int) (n : Nat) : Turn P w K tg (Itr lo n) [it] it (fun i h => IsRangeIter h it (lo + (i : Nat) * 1) ((n : Int) - (i : Nat)) 1) where
 mem := by simp
 obj := fun i h st b hb => by
   have e : b = it := by simpa using hb
   subst e
   exact ⟨_, st, fun v z => by
     have z' : Data.fields _ = Data.cell v := z
     cases z'⟩
 keep := fun i h h' st k => k it (by simp) _ st
 item := by
   intro X hP hw hK hc i pins s σ H E I hf st hg
   subst hP hw hK
   obtain ⟨f0, f1, f2, f3, f4, f5⟩ := hf it (by simp)
   have W := Walks.range (prog := X.prog) (w := X.w) (I.ok.hd hc) it lo 1 n
   refine W.item i s _ _ hg st fun v h' tk hv PK kk => ?_
   obtain ⟨t, rfl⟩ := hv
   have I1 : Inv X pins σ H { s with heap := h', toks := tk } := I.turned (fun b o hb e => kk b o (by simpa using hb) e) f0 f1 f3 f4 f5
   refine ⟨_, rfl, IC (s := { s with heap := h', toks := tk }) (n := "range_iterator") PK rfl rfl (by decide) ⟨.int (lo + i), H, I1, ⟨t, ?_⟩, ⟨rfl, rfl⟩, PK, fun b hb => (hf b hb).1⟩⟩
   rw [Int.mul_one]
 done := by
   intro X hP hw hK hc i pins s σ H E I hf st hg
   subst hP hw hK
   obtain ⟨f0, f1, f2, f3, f4, f5⟩ := hf it (by simp)
   exact wpAny_pyNext_range_end (I.ok.hd hc) st (by have : n <= i := hg; omega) fun h' eb => ⟨rfl, I.turned (t' := s.toks) (fun b o hb e => eb b o hb e) f0 f1 f3 f4 f5⟩
 self := fun _ _ _ _ _ st h => wpAny_pyIter_rangeiter st h
section
variable {X : Cx} {tg : Expr}
noncomputable def aew (K : PySem.W.Frag) (tl : TE) : TI := fun σ H R => tl σ H fun x H1 => ∃ a, x = .ref a /\ (∃ xs, rV K H1 a xs) /\ R (Itl K a) H1
noncomputable def ahz (K : PySem.W.Frag) (tl : TE) : TI := fun σ H R => tl σ H fun x H1 => ∃ a, x = .ref a /\ (∃ xs, Bw K H1 a xs) /\ R (Itt K a) H1
theorem Ye {l : Expr} {tl : TE} (hl : PE X l tl) : PI X tg l (aew X.K tl) := by
 intro pins s σ H R I h
 refine fk (hl pins s σ H _ I h) fun v s1 zz => ?_
 obtain ⟨x, H1, I1, r1, q1⟩ := zz
 obtain ⟨a, e, ⟨xs, hq⟩, q⟩ := q1
 subst e
 cases r1
 obtain ⟨its, rv, p, hz⟩ := I1.list hq
 refine wpAny_pyIter_list p.isList ?_
 refine ⟨s1.heap.objs.size, [s1.heap.objs.size], _, _, H1, rfl, I1.kept (t' := s1.toks) fun b o e => al8 _ e, Rw a _, ⟨_, amx _ rfl, rfl, rfl⟩, fun b hb => ?_, q⟩
 have e : b = s1.heap.objs.size := by simpa using hb
 subst e
 exact I1.FZ (al9 _) (I1.fS.fresh (al9 _))
theorem abx {l : Expr} {tl : TE} (hl : PE X l tl) : PI X tg l (ahz X.K tl) := by
 intro pins s σ H R I h
 refine fk (hl pins s σ H _ I h) fun v s1 zz => ?_
 obtain ⟨x, H1, I1, r1, q1⟩ := zz
 obtain ⟨a, e, ⟨xs, hq⟩, q⟩ := q1
 subst e
 cases r1
 obtain ⟨its, rv, p, hz⟩ := I1.tuple hq
 refine wpAny_pyIter_tuple (show s1.heap.IsTuple a its.toArray from p) ?_
 refine ⟨s1.heap.objs.size, [s1.heap.objs.size], _, _, H1, rfl, I1.kept (t' := s1.toks) fun b o e => al8 _ e, LR a _, ⟨_, amx _ rfl, rfl, rfl⟩, fun b hb => ?_, q⟩
 have e : b = s1.heap.objs.size := by simpa using hb
 subst e
 exact I1.FZ (al9 _) (I1.fS.fresh (al9 _))
theorem IE {pins : List (Addr × Obj)} {σ : St} {H : Hp} {s : Shared} {R : It -> Hp -> Prop} {E : Value -> Shared -> Prop} {lo hi : Int} {t u v : Tok} {tk : Nat} (I : Inv X pins σ H s) (h1 : -(2 ^ 62) <= lo) (h2 : lo < 2 ^ 62) (h3 : -(2 ^ 62) <= hi) (h4 : hi < 2 ^ 62)
   (q : R (Itr lo (hi - lo).toNat) H) : wpAny (model X.prog X.w) X.A (pyIter (.ref s.heap.objs.size)) (PIE X pins σ tg R) E { s with heap := s.heap.push { cls := .type "range", data := .fields #[.int lo t, .int hi u, .int 1 v] }, toks := tk } := by
 refine wpAny_pyIter_range (IsRange.new ..) (small_one h1 h2 h3 h4) ?_
 have I1 : Inv X pins σ H { s with heap := s.heap.push { cls := .type "range", data := .fields #[.int lo t, .int hi u, .int 1 v] }, toks := tk } := I.kept fun b o e => al8 _ e
 refine ⟨(s.heap.push { cls := .type "range", data := .fields #[.int lo t, .int hi u, .int 1 v] }).objs.size, [(s.heap.push { cls := .type "range", data := .fields #[.int lo t, .int hi u, .int 1 v] }).objs.size], _, _, H, rfl,
   I1.kept (t' := tk) fun b o e => al8 _ e, LV _ lo (hi - lo).toNat, ?_, fun b hb => ?_, q⟩
 . have e1 : lo + ((0 : Nat) : Int) * 1 = lo := by simp
   have e2 : (((hi - lo).toNat : Nat) : Int) - ((0 : Nat) : Int) = Builtin.Range.rangeSize lo hi 1 := by rw [rangeSize_one]; split <;> omega
   show IsRangeIter _ _ (lo + ((0 : Nat) : Int) * 1) ((((hi - lo).toNat : Nat) : Int) - ((0 : Nat) : Int)) 1
   rw [e1, e2]
   exact amx _ rfl
 . have e : b = (s.heap.push { cls := .type "range", data := .fields #[.int lo t, .int hi u, .int 1 v] }).objs.size := by simpa using hb
   subst e
   exact I1.FZ (al9 _) (I1.fS.fresh (al9 _))
noncomputable def aex (ta : TA) : TI := fun σ H R => ta σ H fun vs H1 => ∃ j : Int, vs = [.int j] /\ -(2 ^ 62) <= j /\ j < 2 ^ 62 /\ R (Itr 0 j.toNat) H1
noncomputable def aey (ta : TA) : TI := fun σ H R => ta σ H fun vs H1 => ∃ i j : Int, vs = [.int i, .int j] /\ (-(2 ^ 62) <= i /\ i < 2 ^ 62 /\ -(2 ^ 62) <= j /\ j < 2 ^ 62) /\ R (Itr i (j - i).toNat) H1
theorem Rx {a : Expr} {ta : TA} {p pos : Pos} (hg : Gl X "range") (hm : X.mg "range" = none) (ha : PA X [a] ta) (hs : starEach [a] X.env = [(false, eval a X.env)] := by rfl) : PI X tg (.Call (.Name "range" p) [a] [] pos) (aex ta) := by
 intro pins s σ H R I h
 refine Call_ (CW I hg hm boot_range (anc (fk (ha pos pins s σ H _ I h) fun us s1 zz => ?_) hs rfl))
 obtain ⟨vs, H1, I1, r1, q1⟩ := zz
 obtain ⟨j, e, q1, q2, q⟩ := q1
 subst e
 cases r1 with
 | cons r rr =>
   cases rr
   obtain ⟨t, rfl⟩ := r
   exact call_range_1 (IE I1 (by omega) (by omega) q1 q2 (by simpa using q))
theorem Ry {a b : Expr} {ta : TA} {p pos : Pos} (hg : Gl X "range") (hm : X.mg "range" = none) (ha : PA X [a, b] ta) (hs : starEach [a, b] X.env = [(false, eval a X.env), (false, eval b X.env)] := by rfl) (LW : starEach [b] X.env = [(false, eval b X.env)] := by rfl) :
   PI X tg (.Call (.Name "range" p) [a, b] [] pos) (aey ta) := by
 intro pins s σ H R I h
 refine Call_ (CW I hg hm boot_range (anc (fk (ha pos pins s σ H _ I h) fun us s1 zz => ?_) (by rw [hs, LW]) (by rw [LW]; rfl)))
 obtain ⟨vs, H1, I1, r1, q1⟩ := zz
 obtain ⟨i, j, e, ⟨q1, q2, q3, q4⟩, q⟩ := q1
 subst e
 cases r1 with
 | cons r rr =>
   cases rr with
   | cons r' rr =>
     cases rr
     obtain ⟨t, rfl⟩ := r
     obtain ⟨t', rfl⟩ := r'
     exact call_range_2 (IE I1 q1 q2 q3 q4 q)
noncomputable def ahA (wi : TI) (g : TG) (tb : TS) : TS := fun D σ H => wi σ H fun J H1 => ∃ W : Nat -> Nat -> St -> Hp -> Prop, (∃ m, W 0 m σ H1) /\ ∀ i m σ H, W i m σ H →
 (J.stop i H /\ D.nx σ H) \/ (J.go i H /\ ∃ N : St -> Hp -> Prop, (∀ σ' H', N σ' H' -> ∃ m', m' < m /\ W (i + 1) m' σ' H') /\ ∀ x H', J.yld i H x H' -> g x σ H' fun σ2 H2 => tb { D with nx := N, ct := N, bk := D.nx } σ2 H2)
noncomputable def CY (fp : List Addr) (h : Heap) : List (Addr × Obj) := fp.filterMap fun b => (h.get? b).map fun o => (b, o)
theorem qK {fp : List Addr} {h : Heap} {b : Addr} {o : Obj} (hb : b ∈ fp) (e : h.get? b = some o) : (b, o) ∈ CY fp h := List.mem_filterMap.mpr ⟨b, hb, by rw [e]; rfl⟩
theorem Rz {fp : List Addr} {h : Heap} {p : Addr × Obj} (hp : p ∈ CY fp h) : p.1 ∈ fp /\ h.get? p.1 = some p.2 := by
 obtain ⟨b, hb, e⟩ := List.mem_filterMap.mp hp
 cases q : h.get? b with
 | none => rw [q] at e; cases e
 | some o =>
   rw [q] at e
   have e' : (b, o) = p := amw e
   subst e'
   exact ⟨hb, q⟩
theorem Inv.pinned {pins : List (Addr × Obj)} {σ : St} {H : Hp} {s : Shared} {fp : List Addr} (I : Inv X pins σ H s) (hf : ∀ b ∈ fp, By X pins H b) (ho : ∀ b ∈ fp, ∃ o, s.heap.get? b = some o /\ ∀ v, o.data ≠ .cell v) : Inv X (pins ++ CY fp s.heap) σ H s :=
 I.Cj fun p hp => (al7.mp hp).elim (fun z => I.pin p (alU _ z)) fun z => by
   obtain ⟨hb, e⟩ := Rz z
   obtain ⟨f0, f1, f2, _⟩ := hf p.1 hb
   obtain ⟨o, e', d⟩ := ho p.1 hb
   rw [e] at e'; cases e'
   exact ⟨e, f0, f1, f2, d⟩
theorem Inv.xN {pins pl : List (Addr × Obj)} {σ : St} {H : Hp} {s : Shared} (I : Inv X (pins ++ pl) σ H s) : Inv X pins σ H s := I.Cj fun p hp => I.pin p (alU _ (al4 _ hp))
theorem UX {iter : Expr} {body : List Stmt} {wi : TI} {g : TG} {tb : TS} {pos : Pos} (hp : PassesOwn (model X.prog X.w) X.A X.env X.xe) (hc : X.calm = true) (hi : PI X tg iter wi) (hg : PG X tg g) (hb : PJ X body tb)
   (hs : ∀ x, foldedSetIterable iter X.env x = pure x := by intro _; rfl) : PS X (.For tg iter body [] pos) (ahA wi g tb) := by
 intro pins s σ H D I h
 refine wpAny_For (fk (hi pins s σ H _ I h) fun v s1 h1 => fk h1 fun itv s2 h2 => ?_) hs
 obtain ⟨it, fp, tn, J, H2, e, I2, T, st2, f2, W, ⟨m0, w0⟩, turn⟩ := h2
 subst e
 have stat : ∀ {H' : Hp}, (∀ b ∈ fp, H' b = none) -> ∀ b ∈ fp, By X pins H' b := fun hn b hb => ⟨hn b hb, (f2 b hb).2⟩
 refine codeAny_forLoop_any (fun n s' => ∃ i σ' H', Inv X pins σ' H' s' /\ tn i s'.heap /\ (∀ b ∈ fp, H' b = none) /\ W i n σ' H') ?_ m0 ⟨0, σ, H2, I2, st2, fun b hb => (f2 b hb).1, w0⟩
 rintro n s3 ⟨i, σ3, H3, I3, st3, fr3, w3⟩
 rcases turn i n σ3 H3 w3 with ⟨stop, qn⟩ | ⟨go, N, hN, step⟩
 . refine anf hp (fk (T.done X rfl rfl rfl hc i pins s3 σ3 H3 X.xe I3 (stat fr3) st3 stop) fun r s4 zz => ?_)
   obtain ⟨hr, I4⟩ := zz
   subst hr
   exact wpAny_execs_nil ⟨σ3, H3, I4, qn⟩
 . refine anf hp (fk (T.item X rfl rfl rfl hc i pins s3 σ3 H3 X.xe I3 (stat fr3) st3 go) fun r s4 zz => ?_)
   obtain ⟨u, hr, h4⟩ := zz
   subst hr
   refine anf hp (fk h4 fun _ s5 zz => ?_)
   obtain ⟨x, H5, I5, r5, y5, st5, fr5⟩ := zz
   have I5' := I5.pinned (stat fr5) (T.obj _ _ st5)
   refine anf hp (fk (hg _ s5 σ3 H5 x u _ I5' r5 (step x H5 y5)) fun _ s6 zz => ?_)
   obtain ⟨σ6, H6, I6, q6⟩ := zz
   refine anf hp (fk (hb _ s6 σ6 H6 _ I6 q6) fun f s7 q7 => ?_)
   have again : ∀ {σ7 : St} {H7 : Hp}, Inv X (pins ++ CY fp s5.heap) σ7 H7 s7 -> N σ7 H7 -> ∃ m, m < n /\ ∃ i σ' H', Inv X pins σ' H' s7 /\ tn i s7.heap /\ (∀ b ∈ fp, H' b = none) /\ W i m σ' H' := fun {σ7 H7} I7 n7 => by
     obtain ⟨m', hm, w7⟩ := hN σ7 H7 n7
     refine ⟨m', hm, i + 1, σ7, H7, I7.xN, T.keep _ _ _ st5 fun b hb o e => (I7.pin (b, o) (alU _ (alU _ (qK hb e)))).1, fun b hb => ?_, w7⟩
     obtain ⟨o, e, d⟩ := T.obj _ _ st5 b hb
     exact (I7.pin (b, o) (alU _ (alU _ (qK hb e)))).2.1
   cases f with
   | next => obtain ⟨σ7, H7, I7, n7⟩ := q7; exact again I7 n7
   | cont => obtain ⟨σ7, H7, I7, n7⟩ := q7; exact again I7 n7
   | brk => obtain ⟨σ7, H7, I7, q7⟩ := q7; exact ⟨σ7, H7, I7.xN, q7⟩
   | ret v => obtain ⟨x7, σ7, H7, I7, r7, q7⟩ := q7; exact ⟨x7, σ7, H7, I7.xN, r7, q7⟩
end
noncomputable abbrev R2 := V -> V -> Hp -> VK -> Prop
noncomputable def sC (X : Cx) (f : Value -> Value -> Sem Value) (r : R2) : Prop :=
 ∀ (pins : List (Addr × Obj)) (s : Shared) (σ : St) (H : Hp) (x y : V) (v u : Value) (Q : VK), Inv X pins σ H s -> RelV x v -> RelV y u -> r x y H Q →
   wpAny (model X.prog X.w) X.A (f v u) (EP X pins σ Q) X.xe s
noncomputable def UnR (X : Cx) (f : Value -> Sem Value) (r : V -> Hp -> VK -> Prop) : Prop :=
 ∀ (pins : List (Addr × Obj)) (s : Shared) (σ : St) (H : Hp) (x : V) (v : Value) (Q : VK), Inv X pins σ H s -> RelV x v -> r x H Q →
   wpAny (model X.prog X.w) X.A (f v) (EP X pins σ Q) X.xe s
noncomputable def qp (X : Cx) (f : Value) (r : List V -> Hp -> VK -> Prop) : Prop :=
 ∀ (pins : List (Addr × Obj)) (s : Shared) (σ : St) (H : Hp) (xs : List V) (us : List Value) (Q : VK), Inv X pins σ H s -> Vals xs us -> r xs H Q →
   wpAny (model X.prog X.w) X.A (call f us) (EP X pins σ Q) X.xe s
noncomputable def tOp (r : R2) (ta tb : TE) : TE := fun σ H Q => ta σ H fun x H1 => tb σ H1 fun y H2 => r x y H2 Q
noncomputable def tUn (r : V -> Hp -> VK -> Prop) (ta : TE) : TE := fun σ H Q => ta σ H fun x H1 => r x H1 Q
noncomputable def rI (C : Int -> Int -> Prop) (g : Int -> Int -> V) : R2 := fun x y H Q => ∃ i j, x = .int i /\ y = .int j /\ C i j /\ Q (g i j) H
noncomputable def XT (g : Int -> Int -> V) : R2 := fun x y H Q => ∃ i j, x = .int i /\ y = .int j /\ Q (g i j) H
noncomputable def rU (g : Int -> V) : V -> Hp -> VK -> Prop := fun x H Q => ∃ i, x = .int i /\ Q (g i) H
section
variable {X : Cx} {a b c : Expr} {ta tb tc : TE} {pos : Pos}
theorem aby (ha : PE X a ta) (hb : PE X b tb) {pins : List (Addr × Obj)} {s : Shared} {σ : St} {H : Hp} {R : V -> V -> Hp -> Prop} (I : Inv X pins σ H s)
   (h : ta σ H fun x H1 => tb σ H1 fun y H2 => R x y H2) {Q : Value -> Shared -> Prop} {f : Value -> Value -> Sem Value}
   (hf : ∀ v u s2 x y H2, Inv X pins σ H2 s2 -> RelV x v -> RelV y u -> R x y H2 -> wpAny (model X.prog X.w) X.A (f v u) Q X.xe s2) :
   wpAny (model X.prog X.w) X.A (eval a X.env) (fun v s₁ => wpAny (model X.prog X.w) X.A (eval b X.env) (fun u s₂ => wpAny (model X.prog X.w) X.A (f v u) Q X.xe s₂) X.xe s₁) X.xe s := by
 refine fk (ha pins s σ H _ I h) fun v s1 zz => ?_
 obtain ⟨x, H1, I1, r1, q1⟩ := zz
 refine fk (hb pins s1 σ H1 _ I1 q1) fun u s2 zz => ?_
 obtain ⟨y, H2, I2, r2, q2⟩ := zz
 exact hf v u s2 x y H2 I2 r1 r2 q2
theorem aaq {op : Operator} {r : R2} (ho : sC X (binaryOp op) r) (ha : PE X a ta) (hb : PE X b tb) : PE X (.BinOp a op b pos) (tOp r ta tb) := by
 intro pins s σ H Q I h
 exact wpAny_BinOp (aby ha hb I h fun v u s2 x y H2 I2 rx ry q => ho pins s2 σ H2 x y v u Q I2 rx ry q)
theorem aeA {op : UnaryOp} {r : V -> Hp -> VK -> Prop} (ho : UnR X (unaryOp op) r) (ha : PE X a ta) : PE X (.UnaryOp op a pos) (tUn r ta) := by
 intro pins s σ H Q I h
 exact UnaryOp_ (fk (ha pins s σ H _ I h) fun v s1 ⟨x, H1, I1, r1, q1⟩ => ho pins s1 σ H1 x v Q I1 r1 q1)
theorem opI {f : Value -> Value -> Sem Value} {C : Int -> Int -> Prop} {g : Int -> Int -> Int}
   (rule : ∀ (i j : Int) (t u : Tok) (s : Shared) (Q : Value -> Shared -> Prop) (E : Value -> Shared -> Prop), C i j -> Q (.int (g i j) s.toks) { s with toks := s.toks + 1 } -> wpAny (model X.prog X.w) X.A (f (.int i t) (.int j u)) Q E s) :
   sC X f (rI C fun i j => .int (g i j)) := by
 intro pins s σ H x y v u Q I rx ry h
 obtain ⟨i, j, rfl, rfl, hc, q⟩ := h
 obtain ⟨t, rfl⟩ := rx
 obtain ⟨t', rfl⟩ := ry
 exact rule i j t t' s _ _ hc ⟨.int (g i j), H, I.tok _, ⟨_, rfl⟩, q⟩
theorem aeB {f : Value -> Value -> Sem Value} {g : Int -> Int -> Int}
   (rule : ∀ (i j : Int) (t u : Tok) (s : Shared) (Q : Value -> Shared -> Prop) (E : Value -> Shared -> Prop), Q (.int (g i j) s.toks) { s with toks := s.toks + 1 } -> wpAny (model X.prog X.w) X.A (f (.int i t) (.int j u)) Q E s) :
   sC X f (XT fun i j => .int (g i j)) := by
 intro pins s σ H x y v u Q I rx ry h
 obtain ⟨i, j, rfl, rfl, q⟩ := h
 obtain ⟨t, rfl⟩ := rx
 obtain ⟨t', rfl⟩ := ry
 exact rule i j t t' s _ _ ⟨.int (g i j), H, I.tok _, ⟨_, rfl⟩, q⟩
theorem Yg {f : Value -> Value -> Sem Value} {g : Int -> Int -> Bool}
   (rule : ∀ (i j : Int) (t u : Tok) (s : Shared) (Q : Value -> Shared -> Prop) (E : Value -> Shared -> Prop), Q (.bool (g i j)) s -> wpAny (model X.prog X.w) X.A (f (.int i t) (.int j u)) Q E s) :
   sC X f (XT fun i j => .bl (g i j)) := by
 intro pins s σ H x y v u Q I rx ry h
 obtain ⟨i, j, rfl, rfl, q⟩ := h
 obtain ⟨t, rfl⟩ := rx
 obtain ⟨t', rfl⟩ := ry
 exact rule i j t t' s _ _ ⟨.bl (g i j), H, I, rfl, q⟩
noncomputable def aeC (i j : Int) : Prop := 0 < j /\ j < 1073741824
noncomputable def aeD (i j : Int) : Prop := 0 <= j /\ j <= 1000000 /\ i.natAbs < 2 ^ 64
noncomputable def Yh (i j : Int) : Prop := (-(2 ^ 64) < i /\ i < 2 ^ 64) \/ (-(2 ^ 64) < j /\ j < 2 ^ 64)
theorem Yh.ok {i j : Int} (h : Yh i j) : IntMulOk i j := by
 rcases h with ⟨h1, h2⟩ | ⟨h1, h2⟩
 . exact .of_left (intBits_le_64 h1 h2)
 . exact .of_right (intBits_le_64 h1 h2)
theorem abz : sC X (binaryOp .Add) (XT fun i j => .int (i + j)) := aeB fun _ _ _ _ _ _ _ q => add_int q
theorem abA : sC X (binaryOp .Sub) (XT fun i j => .int (i - j)) := aeB fun _ _ _ _ _ _ _ q => sub_int q
theorem abB : sC X (binaryOp .Mult) (rI Yh fun i j => .int (i * j)) := opI fun _ _ _ _ _ _ _ hc q => mul_int q hc.ok
theorem Yi : sC X (binaryOp .FloorDiv) (rI aeC fun i j => .int (i / j)) := opI fun i j _ _ _ _ _ hc q => by
 have h1 : (0 : Int) < j := hc.1
 have h2 : j < 1073741824 := hc.2
 exact floordiv_int (by omega) (by rw [Int.fdiv_eq_ediv_of_nonneg i (by omega)]; exact q) (.inl (PyProof.noPylong_small (by omega)))
theorem abC : sC X (binaryOp .Mod) (rI (fun _ j => 0 < j) fun i j => .int (i % j)) := opI fun i j _ _ _ _ _ hc q => by
 have h1 : (0 : Int) < j := hc
 exact mod_int' (by omega) (by rw [Int.fmod_eq_emod_of_nonneg i (by omega)]; exact q)
theorem abD : sC X (binaryOp .Pow) (rI aeD fun i j => .int (i ^ j.toNat)) := opI fun _ _ _ _ _ _ _ hc q => pow_int_small hc.1 hc.2.1 hc.2.2 q
theorem unI {f : Value -> Sem Value} {g : Int -> Int}
   (rule : ∀ (i : Int) (t : Tok) (s : Shared) (Q : Value -> Shared -> Prop) (E : Value -> Shared -> Prop), Q (.int (g i) s.toks) { s with toks := s.toks + 1 } -> wpAny (model X.prog X.w) X.A (f (.int i t)) Q E s) :
   UnR X f (rU fun i => .int (g i)) := by
 intro pins s σ H x v Q I rx h
 obtain ⟨i, rfl, q⟩ := h
 obtain ⟨t, rfl⟩ := rx
 exact rule i t s _ _ ⟨.int (g i), H, I.tok _, ⟨_, rfl⟩, q⟩
theorem abE : UnR X (unaryOp .USub) (rU fun i => .int (-i)) := unI fun _ _ _ _ _ q => neg_int q
end
noncomputable def abF : V -> V -> Bool
 | .non, .non => true | .non, .int _ => true | .int _, .non => true | .non, .bl _ => true | .bl _, .non => true | .non, .str _ => true | .str _, .non => true
 | .int _, .int _ => true | .bl _, .bl _ => true | .str _, .str _ => true | .Rp _, .Rp _ => true
 | .int _, .str _ => true | .str _, .int _ => true | .bl _, .str _ => true | .str _, .bl _ => true
 | _, _ => false
noncomputable def rEq : R2 := fun x y H Q => abF x y = true /\ Q (.bl (decide (x = y))) H
noncomputable def rNe : R2 := fun x y H Q => abF x y = true /\ Q (.bl (!decide (x = y))) H
theorem PL {i j : Int} : decide (V.int i = V.int j) = (i == j) := by
 rw [ang]
 simp
theorem UY {i j : Bool} : decide (V.bl i = V.bl j) = (i == j) := by
 rw [ang]
 simp
theorem PN {i j : Str} : decide (V.str i = V.str j) = (i == j) := by
 rw [ang]
 simp
theorem PR {i j : Array UInt8} : decide (V.Rp i = V.Rp j) = (i.toList == j.toList) := by
 rw [ang]
 cases i
 cases j
 simp
section
variable {X : Cx} {a b c : Expr} {ta tb tc : TE} {pos : Pos}
theorem cL {pins : List (Addr × Obj)} {σ : St} {H : Hp} {s : Shared} {Q : VK} {k k' : Bool} (I : Inv X pins σ H s) (q : Q (.bl k) H) (e : k = k') : EP X pins σ Q (.bool k') s := by
 subst e
 exact ⟨.bl k, H, I, rfl, q⟩
theorem UZ : sC X (compareOp .Eq) rEq := by
 intro pins s σ H x y v u Q I rx ry h
 obtain ⟨hs, q⟩ := h
 cases x with
 | non =>
   cases rx
   cases y with
   | non => cases ry; exact PySem.EqNone.eq_none_none (cL I q (by simp))
   | bl j => cases ry; exact PySem.EqNone.eq_none_bool (cL I q (by simp))
   | int j => obtain ⟨t', rfl⟩ := ry; exact PySem.EqNone.eq_none_int (cL I q (by simp))
   | str j => obtain ⟨t', rfl⟩ := ry; exact PySem.EqNone.eq_none_str (cL I q (by simp))
   | _ => exact absurd (show false = true from hs) amc
 | bl i =>
   cases rx
   cases y with
   | non => cases ry; exact PySem.EqNone.eq_bool_none (cL I q (by simp))
   | bl j => cases ry; exact eq_bool (cL I q UY)
   | str j => obtain ⟨t', rfl⟩ := ry; exact PySem.EqMixed.eq_bool_str (cL I q (by simp))
   | _ => exact absurd (show false = true from hs) amc
 | int i =>
   obtain ⟨t, rfl⟩ := rx
   cases y with
   | non => cases ry; exact PySem.EqNone.eq_int_none (cL I q (by simp))
   | int j => obtain ⟨t', rfl⟩ := ry; exact eq_int (cL I q PL)
   | str j => obtain ⟨t', rfl⟩ := ry; exact PySem.EqMixed.eq_int_str (cL I q (by simp))
   | _ => exact absurd (show false = true from hs) amc
 | str i =>
   obtain ⟨t, rfl⟩ := rx
   cases y with
   | non => cases ry; exact PySem.EqNone.eq_str_none (cL I q (by simp))
   | bl j => cases ry; exact PySem.EqMixed.eq_str_bool (cL I q (by simp))
   | int j => obtain ⟨t', rfl⟩ := ry; exact PySem.EqMixed.eq_str_int (cL I q (by simp))
   | str j => obtain ⟨t', rfl⟩ := ry; exact eq_str (cL I q PN)
   | _ => exact absurd (show false = true from hs) amc
 | Rp i =>
   obtain ⟨t, rfl⟩ := rx
   cases y with
   | Rp j => obtain ⟨t', rfl⟩ := ry; exact PySem.W.eq_bytes (cL I q PR)
   | _ => exact absurd (show false = true from hs) amc
 | _ => cases y <;> exact absurd (show false = true from hs) amc
theorem U0 : sC X (compareOp .NotEq) rNe := by
 intro pins s σ H x y v u Q I rx ry h
 obtain ⟨hs, q⟩ := h
 cases x with
 | non =>
   cases rx
   cases y with
   | non => cases ry; exact PySem.EqNone.ne_none_none (cL I q (by simp))
   | bl j => cases ry; exact PySem.EqNone.ne_none_bool (cL I q (by simp))
   | int j => obtain ⟨t', rfl⟩ := ry; exact PySem.EqNone.ne_none_int (cL I q (by simp))
   | str j => obtain ⟨t', rfl⟩ := ry; exact PySem.EqNone.ne_none_str (cL I q (by simp))
   | _ => exact absurd (show false = true from hs) amc
 | bl i =>
   cases rx
   cases y with
   | non => cases ry; exact PySem.EqNone.ne_bool_none (cL I q (by simp))
   | bl j => cases ry; exact ne_bool (cL I q (congrArg not UY))
   | str j => obtain ⟨t', rfl⟩ := ry; exact PySem.EqMixed.ne_bool_str (cL I q (by simp))
   | _ => exact absurd (show false = true from hs) amc
 | int i =>
   obtain ⟨t, rfl⟩ := rx
   cases y with
   | non => cases ry; exact PySem.EqNone.ne_int_none (cL I q (by simp))
   | int j => obtain ⟨t', rfl⟩ := ry; exact ne_int (cL I q (congrArg not PL))
   | str j => obtain ⟨t', rfl⟩ := ry; exact PySem.EqMixed.ne_int_str (cL I q (by simp))
   | _ => exact absurd (show false = true from hs) amc
 | str i =>
   obtain ⟨t, rfl⟩ := rx
   cases y with
   | non => cases ry; exact PySem.EqNone.ne_str_none (cL I q (by simp))
   | bl j => cases ry; exact PySem.EqMixed.ne_str_bool (cL I q (by simp))
   | int j => obtain ⟨t', rfl⟩ := ry; exact PySem.EqMixed.ne_str_int (cL I q (by simp))
   | str j => obtain ⟨t', rfl⟩ := ry; exact ne_str (cL I q (congrArg not PN))
   | _ => exact absurd (show false = true from hs) amc
 | Rp i =>
   obtain ⟨t, rfl⟩ := rx
   cases y with
   | Rp j => obtain ⟨t', rfl⟩ := ry; exact PySem.W.ne_bytes (cL I q (congrArg not PR))
   | _ => exact absurd (show false = true from hs) amc
 | _ => cases y <;> exact absurd (show false = true from hs) amc
theorem PV : sC X (compareOp .Lt) (XT fun i j => .bl (decide (i < j))) := Yg fun _ _ _ _ _ _ _ q => lt_int q
theorem aar : sC X (compareOp .LtE) (XT fun i j => .bl (decide (i <= j))) := Yg fun _ _ _ _ _ _ _ q => le_int q
theorem aeE : sC X (compareOp .Gt) (XT fun i j => .bl (decide (j < i))) := Yg fun _ _ _ _ _ _ _ q => gt_int q
theorem aeF : sC X (compareOp .GtE) (XT fun i j => .bl (decide (j <= i))) := Yg fun _ _ _ _ _ _ _ q => ge_int q
theorem RA : sC X (compareOp .In) (fun x y H Q => ∃ i j, x = .str i /\ y = .str j /\ Q (.bl (!(Builtin.Str.occurrences j i 0 j.length 1).isEmpty)) H) := by
 intro pins s σ H x y v u Q I rx ry h
 obtain ⟨i, j, rfl, rfl, q⟩ := h
 obtain ⟨t, rfl⟩ := rx
 obtain ⟨t', rfl⟩ := ry
 exact in_str (cL I q rfl)
theorem F0 : sC X (compareOp .NotIn) (fun x y H Q => ∃ i j, x = .str i /\ y = .str j /\ Q (.bl (!(!(Builtin.Str.occurrences j i 0 j.length 1).isEmpty))) H) := by
 intro pins s σ H x y v u Q I rx ry h
 obtain ⟨i, j, rfl, rfl, q⟩ := h
 obtain ⟨t, rfl⟩ := rx
 obtain ⟨t', rfl⟩ := ry
 exact notIn_str (cL I q rfl)
theorem mK (b : Expr) {op : CmpOp} (h : op ≠ .In := by decide) (h2 : op ≠ .NotIn := by decide) : behindInMarks op b = false := by
 have e1 : (op == CmpOp.In) = false := by cases op <;> first | rfl | exact absurd rfl h
 have e2 : (op == CmpOp.NotIn) = false := by cases op <;> first | rfl | exact absurd rfl h2
 cases b <;> simp [behindInMarks, e1, e2]
theorem uB {op : CmpOp} {r : R2} (ho : sC X (compareOp op) r) (ha : PE X a ta) (hb : PE X b tb) (hm : behindInMarks op b = false) : PE X (.Compare a [op] [b] pos) (tOp r ta tb) := by
 intro pins s σ H Q I h
 exact wpAny_Compare1 (aby ha hb I h fun v u s2 x y H2 I2 rx ry q => ho pins s2 σ H2 x y v u Q I2 rx ry q) hm
noncomputable def aas (t : TE) : TT := fun σ H Q => t σ H fun x H' => ∃ k, x = .bl k /\ Q k H'
theorem uC {op : CmpOp} {r : R2} (ho : sC X (compareOp op) r) (ha : PE X a ta) (hb : PE X b tb) (hm : behindInMarks op b = false) : PT X (.Compare a [op] [b] pos) (aas (tOp r ta tb)) := by
 intro pins s σ H Q I h
 refine wpAny_isTrue_Compare1 (fk (ha pins s σ H _ I h) fun v s1 ⟨x, H1, I1, r1, q1⟩ => fk (hb pins s1 σ H1 _ I1 q1) fun u s2 ⟨y, H2, I2, r2, q2⟩ =>
   fk (ho pins s2 σ H2 x y v u _ I2 r1 r2 q2) fun c s3 ⟨z, H3, I3, r3, k, e, q3⟩ => ?_) hm
 subst e
 cases r3
 exact am0 ⟨H3, I3, q3⟩
noncomputable def U1 (r r' : R2) (ta tb tc : TE) : TE := fun σ H Q => ta σ H fun x H1 => tb σ H1 fun y H2 => r x y H2 fun z H3 => ∃ k, z = .bl k ∧
 (if k = true then tc σ H3 fun w' H4 => r' y w' H4 Q else Q (.bl false) H3)
theorem U3 {op op' : CmpOp} {r r' : R2} (ho : sC X (compareOp op) r) (EV : sC X (compareOp op') r') (ha : PE X a ta) (hb : PE X b tb) (hc : PE X c tc)
   (hm : lastMarks [op, op'] [b, c] = false := by with_unfolding_all rfl) : PE X (.Compare a [op, op'] [b, c] pos) (U1 r r' ta tb tc) := by
 intro pins s σ H Q I h
 refine Compare_chain (fk (ha pins s σ H _ I h) fun v s1 ⟨x, H1, I1, r1, q1⟩ => chain_link (fk (hb pins s1 σ H1 _ I1 q1) fun u s2 ⟨y, H2, I2, r2, q2⟩ =>
   fk (ho pins s2 σ H2 x y v u _ I2 r1 r2 q2) fun d s3 ⟨z, H3, I3, r3, k, e, q3⟩ => ?_)) hm
 subst e
 cases r3
 refine am0 ?_
 cases k with
 | false => exact ite_ff ⟨.bl false, H3, I3, rfl, q3⟩
 | true => exact ite_tt (chain_last (fk (hc pins s3 σ H3 _ I3 q3) fun w' s4 ⟨z', H4, I4, r4, q4⟩ => EV pins s4 σ H4 y z' u w' Q I4 r2 r4 q4))
theorem U4 {op op' : CmpOp} {r r' : R2} (ho : sC X (compareOp op) r) (EV : sC X (compareOp op') r') (ha : PE X a ta) (hb : PE X b tb) (hc : PE X c tc)
   (hm : lastMarks [op, op'] [b, c] = false := by with_unfolding_all rfl) : PT X (.Compare a [op, op'] [b, c] pos) (aas (U1 r r' ta tb tc)) := by
 intro pins s σ H Q I h
 refine isTrue_chain (fk (ha pins s σ H _ I h) fun v s1 ⟨x, H1, I1, r1, q1⟩ => test_link (fk (hb pins s1 σ H1 _ I1 q1) fun u s2 ⟨y, H2, I2, r2, q2⟩ =>
   fk (ho pins s2 σ H2 x y v u _ I2 r1 r2 q2) fun d s3 ⟨z, H3, I3, r3, k, e, q3⟩ => ?_)) hm
 subst e
 cases r3
 refine am0 ?_
 cases k with
 | false =>
   obtain ⟨k', e', q'⟩ := q3
   cases e'
   exact ite_ff ⟨H3, I3, q'⟩
 | true =>
   refine ite_tt (test_last (fk (hc pins s3 σ H3 _ I3 q3) fun w' s4 ⟨z', H4, I4, r4, q4⟩ => fk (EV pins s4 σ H4 y z' u w' _ I4 r2 r4 q4) fun d' s5 zz => ?_))
   obtain ⟨z2, H5, I5, r5, k2, e2, q5⟩ := zz
   subst e2
   cases r5
   exact am0 ⟨H5, I5, q5⟩
theorem zC : (sizeLine : Nat) < 2 ^ 63 := by rw [anb]; decide
theorem LX : sC X (binaryOp .Add) (fun x y H Q => ∃ i j, x = .str i /\ y = .str j /\ i.length + j.length <= sizeLine /\ Q (.str (i ++ j)) H) := by
 intro pins s σ H x y v u Q I rx ry h
 obtain ⟨i, j, rfl, rfl, hz, q⟩ := h
 obtain ⟨t, rfl⟩ := rx
 obtain ⟨t', rfl⟩ := ry
 exact add_str (fun t' tk => ⟨.str (i ++ j), H, I.tok _, ⟨_, rfl⟩, q⟩) hz
theorem vals1 {x : V} {us : List Value} (r : Vals [x] us) : ∃ u, us = [u] /\ RelV x u := by
 cases r with
 | cons r1 r2 => cases r2; exact ⟨_, rfl, r1⟩
theorem vals2 {x y : V} {us : List Value} (r : Vals [x, y] us) : ∃ u w', us = [u, w'] /\ RelV x u /\ RelV y w' := by
 cases r with
 | cons r1 r2 =>
   cases r2 with
   | cons r3 r4 => cases r4; exact ⟨_, _, rfl, r1, r3⟩
theorem RB (hc : X.calm = true) : qp X (.builtin "max") (fun xs H Q => ∃ i j, xs = [.int i, .int j] /\ Q (.int (if j > i then j else i)) H) := by
 intro pins s σ H xs us Q I r h
 obtain ⟨i, j, rfl, q⟩ := h
 obtain ⟨u, w', rfl, ⟨t, rfl⟩, ⟨t', rfl⟩⟩ := vals2 r
 refine max_two_ints (I.ok.hd hc) fun h' tk k => ⟨_, H, I.kept k, ?_, q⟩
 by_cases hj : j > i
 . rw [alW hj, alW hj]; exact ⟨_, rfl⟩
 . rw [alT hj, alT hj]; exact ⟨_, rfl⟩
theorem RC : qp X (.type "int") (fun xs H Q => (∃ i, xs = [.int i] /\ Q (.int i) H) \/ ∃ k, xs = [.bl k] /\ Q (.int (if k then 1 else 0)) H) := by
 intro pins s σ H xs us Q I r h
 rcases h with ⟨i, rfl, q⟩ | ⟨k, rfl, q⟩
 . obtain ⟨u, rfl, t, rfl⟩ := vals1 r
   exact call_int_int ⟨.int i, H, I, ⟨_, rfl⟩, q⟩
 . obtain ⟨u, rfl, r1⟩ := vals1 r
   cases r1
   exact call_int_bool ⟨.int (if k then 1 else 0), H, I.tok _, ⟨_, rfl⟩, q⟩
theorem F2 : qp X (.type "str") (fun xs H Q => ∃ i, xs = [.int i] /\ i.natAbs.log2 < 1920 /\ Q (.str (toString i)) H) := by
 intro pins s σ H xs us Q I r h
 obtain ⟨i, rfl, hz, q⟩ := h
 obtain ⟨u, rfl, t, rfl⟩ := vals1 r
 exact PySem.P.str_of_int hz ⟨.str _, H, I.tok _, ⟨_, rfl⟩, q⟩
end
structure RD (h : Heap) (x dx C : Addr) (mA : Str -> Option Value) : Prop where
 obj : h.get? x = some (PySem.W.instObj C dx)
 ns : h.Ns1 dx mA
 ne : dx ≠ x
theorem RG {h : Heap} {dx : Addr} {mA : Str -> Option Value} (n : h.Ns1 dx mA) : ∃ od, h.get? dx = some od /\ ∀ name, PySem.W.lookIn name od = some (mA name) := by
 obtain ⟨o, es, ep, ho, hd, hk, _, hm⟩ := n
 refine ⟨o, ho, fun name => ?_⟩
 have e := hm name
 unfold nsFind findBy at e
 rw [← Array.find?_toList] at e
 unfold PySem.W.lookIn
 rw [hd]
 dsimp only
 split
 . rename_i y q
   rw [q] at e
   exact congrArg some e
 . rename_i q
   rw [q] at e
   have a : es.toList.any (·.refKey) = false := by
     rw [List.any_eq_false]
     intro y hy
     obtain ⟨z, t, ahC⟩ := hk y (Array.mem_toList_iff.mp hy)
     simp [DictEntry.refKey, ahC]
   have a' : ¬ es.toList.any (·.refKey) = true := by rw [a]; exact amc
   rw [alT a']
   exact congrArg some e
theorem RD.look {h : Heap} {x dx C : Addr} {mA : Str -> Option Value} (I : RD h x dx C mA) : ∃ od, PySem.W.InstAt h x (PySem.W.instObj C dx) C (some od) /\ ∀ name, PySem.W.lookIn name od = some (mA name) :=
 let ⟨od, ho, hl⟩ := RG I.ns
 ⟨od, ⟨I.obj, rfl, rfl, ho⟩, hl⟩
section
variable {prog : Program} {w : World} {A : Around} {E : Value -> Shared -> Prop} {s : Shared} {K : PySem.W.Frag} {x dx C f : Addr} {mA : Str -> Option Value} {name : Str} {v : Value}
theorem get_map {expr : Bool} {Q : Value -> Shared -> Prop} (X : K.In s.heap) (I : RD s.heap x dx C mA) (hg : PySem.W.plainGet K C name = true) (hh : PySem.W.hasDictIn K C = true)
   (ha : PySem.W.findIn K (.ref C) name = some none) (hv : mA name = some v) (hv' : PySem.W.handedIn v = true) (h : Q v { s with toks := s.toks + 1 }) :
   wpAny (model prog w) A (getAttr (.ref x) name expr) Q E s := by
 obtain ⟨od, J, hl⟩ := I.look
 exact PySem.W.get_value X J (PySem.W.plainGet_of hg).1 (PySem.W.findObj_own hh ha rfl (by rw [hl, hv])) hv' h
theorem Yj {ns : List Str} {Q : Unit -> Shared -> Prop} (X : K.In s.heap) (I : RD s.heap x dx C mA)
   (hs : PySem.W.findIn K (.ref C) "__setattr__" = some (some (.builtin "object.__setattr__"))) (hp : PySem.W.plainOver K C = true) (ht : PySem.W.takerIn K C name = some none) (hh : PySem.W.hasDictIn K C = true)
   (hw : PySem.Within mA ns) (hsz : ns.length <= sizeLine)
   (h : ∀ h', RD h' x dx C (fun y => if y = name then some v else mA y) -> Heap.SameBut dx s.heap h' -> Q () { s with heap := h', toks := s.toks + 2 }) :
   wpAny (model prog w) A (setAttr (.ref x) name v) Q E s := by
 obtain ⟨od, J, hl⟩ := I.look
 refine PySem.W.set_plain X J hs (PySem.W.osa_open (s := { s with toks := s.toks + 1 }) (r := none) X J hp ht fun b => ?_)
 obtain ⟨cd, hc, hd'⟩ := PySem.W.any_some hh
 have hx : s.heap.get? x = some ⟨.ref C, some dx, .plain, #[]⟩ := I.obj
 refine amq (amL (amq (amq (wpAny_loadPart hx (amq (PySem.W.Looks.here (s := { s with toks := s.toks + 1 }) (PySem.W.looks_clsIn X hc) ?_))))))
 rw [hd']
 refine amL (a := some dx) (amq (amL (amq ?_)))
 refine wpAny_nsSet1 (s := { s with toks := s.toks + 1 }) I.ns fun h' hn2 LW => ?_
 obtain ⟨oD, esD, epD, hoD, hdD, hcD⟩ := hn2.count (PySem.Within.cons name v hw)
 refine amq (wpAny_lookBehind hoD (by rw [hdD]; exact pastItsLine_dict (amS hcD (by rw [amT]; omega))) ?_)
 exact amL (h _ ⟨(LW.2 _ (ani I.ne)).trans I.obj, hn2, I.ne⟩ LW)
theorem U5 {R : Result -> Shared -> Prop} {vs : List Value} {kw : List (Str × Value)} (X : K.In s.heap) (hm : PySem.W.makesIn K C = true)
   (hi : PySem.W.findIn K (.ref C) "__init__" = some (some (.ref f))) (hf : PySem.W.typeIn K (.ref f) = some (.type "function"))
   (h : codeAny (model prog w) (A.under (.builtin "type.__call__" ⟨.ref C :: vs, kw⟩)) (.call (.ref f) ⟨.ref (s.heap.objs.size + 1) :: vs, kw⟩) (PySem.W.InitBack (s.heap.objs.size + 1) R)
     { s with heap := (s.heap.push PySem.W.emptyDict).push (PySem.W.instObj C s.heap.objs.size) }) :
   codeAny (model prog w) A (.call (.ref C) ⟨vs, kw⟩) R s := by
 obtain ⟨hh, g, d, t, os⟩ := s
 exact PySem.W.make_core (PySem.W.makes_of X hm) (PySem.W.looks_findIn X hi) (fun self => PySem.W.bind_fn X self hf) (.inl rfl) h
end
noncomputable def n5 (f : Str) (v : V) : List (Str × V) -> List (Str × V)
 | [] => [(f, v)]
 | (g, x) :: r => if g = f then (g, v) :: r else (g, x) :: n5 f v r
theorem A7 (f g : Str) (v : V) : ∀ fs : List (Str × V), (n5 f v fs).lookup g = if g = f then some v else fs.lookup g
 | [] => by
   show List.lookup g [(f, v)] = _
   by_cases h : g = f
   . have hb : (g == f) = true := beq_iff_eq.mpr h
     simp only [List.lookup, hb, alW h]
   . have hb : (g == f) = false := ank.mpr h
     simp only [List.lookup, hb, alT h]
 | (k, x) :: r => by
   have ih := A7 f g v r
   rw [show n5 f v ((k, x) :: r) = (if k = f then (k, v) :: r else (k, x) :: n5 f v r) from rfl]
   by_cases hk : k = f
   . rw [alW hk]
     by_cases h : g = k
     . have hb : (g == k) = true := beq_iff_eq.mpr h
       simp only [List.lookup, hb, alW (h.trans hk)]
     . have hb : (g == k) = false := ank.mpr h
       simp only [List.lookup, hb, alT (fun e : g = f => h (e.trans hk.symm))]
   . rw [alT hk]
     by_cases h : g = k
     . have hb : (g == k) = true := beq_iff_eq.mpr h
       simp only [List.lookup, hb, alT (fun e : g = f => hk (h.symm.trans e))]
     . have hb : (g == k) = false := ank.mpr h
       simp only [List.lookup, hb]
       exact ih
theorem zE (f : Str) (v : V) : ∀ fs : List (Str × V), f ∈ (n5 f v fs).map (·.1) /\ ∀ g, g ∈ fs.map (·.1) -> g ∈ (n5 f v fs).map (·.1)
 | [] => ⟨by simp [n5], fun g h => by simp at h⟩
 | (k, x) :: r => by
   obtain ⟨i1, i2⟩ := zE f v r
   rw [show n5 f v ((k, x) :: r) = (if k = f then (k, v) :: r else (k, x) :: n5 f v r) from rfl]
   by_cases hk : k = f
   . rw [alW hk]
     subst hk
     exact ⟨by simp, fun g h => by simpa using h⟩
   . rw [alT hk]
     refine ⟨?_, fun g h => ?_⟩
     . rw [amh]
       exact al3 _ i1
     . rw [amh] at h ⊢
       rcases al6.mp h with e | e
       . exact al6.mpr (.inl e)
       . exact al3 _ (i2 g e)
theorem A8 (f : Str) (v : V) : ∀ fs : List (Str × V), (n5 f v fs).length <= fs.length + 1
 | [] => by simp [n5]
 | (k, x) :: r => by
   have ih := A8 f v r
   rw [show n5 f v ((k, x) :: r) = (if k = f then (k, v) :: r else (k, x) :: n5 f v r) from rfl]
   by_cases hk : k = f
   . rw [alW hk, amT, amT]; omega
   . rw [alT hk, amT, amT]; omega
theorem CV.some_of {v : V} {o : Option Value} (r : CV (some v) o) : ∃ u, o = some u /\ RelV v u := by
 cases o with
 | none => exact (show False from r).elim
 | some u => exact ⟨u, rfl, r⟩
theorem RH {v : V} {u : Value} (r : RelV v u) : PySem.W.handedIn u = true := by
 cases v with
 | non => cases (show u = Value.none from r); rfl
 | bl b => cases (show u = Value.bool b from r); rfl
 | int i => obtain ⟨t, e⟩ := (show ∃ t, u = Value.int i t from r); cases e; rfl
 | str x => obtain ⟨t, e⟩ := (show ∃ t, u = Value.str x t from r); cases e; rfl
 | Rp b => obtain ⟨t, e⟩ := (show ∃ t, u = Value.bytes b t from r); cases e; rfl
 | flt b => obtain ⟨t, e⟩ := (show ∃ t, u = Value.float b t from r); cases e; rfl
 | ref a => cases (show u = Value.ref a from r); rfl
 | ty n => cases (show u = Value.type n from r); rfl
section
variable {P : Program} {w : World} {H H' : Hp} {h h' : Heap} {a C dx : Addr} {fs fs' : List (Str × V)}
theorem PX (fS : uz P w H h) (e : H a = some (.ins C dx fs)) : ∃ mA, RD h a dx C mA /\ (∀ f, CV (fs.lookup f) (mA f)) /\ PySem.Within mA (fs.map (·.1)) /\ fs.length <= 1000 /\ H dx = some (.own a) := by
 obtain ⟨d, z, ne, ob, mA, n, r, q⟩ := (show iL P w H h a (.ins C dx fs) from fS a _ e)
 exact ⟨mA, ⟨ob, n, ne⟩, r, q, z, d⟩
end
structure zF (K : PySem.W.Frag) (C : Addr) : Prop where
 pg : PySem.W.plainGet K C Str.empty = true
 hd : PySem.W.hasDictIn K C = true
 po : PySem.W.plainOver K C = true
 sa : PySem.W.findIn K (.ref C) "__setattr__" = some (some (.builtin "object.__setattr__"))
theorem zF.get {K : PySem.W.Frag} {C : Addr} (c : zF K C) (f : Str) : PySem.W.plainGet K C f = true := c.pg
noncomputable def bq (K : PySem.W.Frag) (C : Addr) (f : Str) : Prop := PySem.W.findIn K (.ref C) f = some none
theorem bq.aeG {K : PySem.W.Frag} {C : Addr} {f : Str} (n : bq K C f) : PySem.W.takerIn K C f = some none := by
 unfold PySem.W.takerIn
 rw [show PySem.W.findIn K (.ref C) f = some none from n]
 rfl
section
variable {X : Cx} {pins : List (Addr × Obj)} {σ : St} {H : Hp} {s : Shared} {a C dx : Addr} {fs : List (Str × V)} {f : Str} {v : V} {A : Around} {E : Value -> Shared -> Prop}
theorem LY {b : Bool} {Q : Value -> Shared -> Prop} (I : Inv X pins σ H s) (e : H a = some (.ins C dx fs)) (c : zF X.K C) (n : bq X.K C f) (l : fs.lookup f = some v)
   (h : ∀ u s', Inv X pins σ H s' -> RelV v u -> Q u s') : wpAny (model X.prog X.w) A (getAttr (.ref a) f b) Q E s := by
 obtain ⟨mA, O, r, _, _, _⟩ := PX I.fS e
 obtain ⟨u, hu, ru⟩ := CV.some_of (v := v) (o := mA f) (by rw [← l]; exact r f)
 exact get_map I.FQ O (c.get f) c.hd n hu (RH ru) (h u _ (I.tok _) ru)
theorem LZ {y : V} {u : Value} {Q : Unit -> Shared -> Prop} (I : Inv X pins σ H s) (e : H a = some (.ins C dx fs)) (c : zF X.K C) (n : bq X.K C f) (hl : fs.length < 1000) (ry : RelV y u)
   (h : ∀ s', Inv X pins σ (upd H a (.ins C dx (n5 f y fs))) s' -> Q () s') : wpAny (model X.prog X.w) A (setAttr (.ref a) f u) Q E s := by
 obtain ⟨mA, O, r, wi, _, ho⟩ := PX I.fS e
 have hz : (fs.map (·.1)).length <= sizeLine := by rw [alR, anb]; omega
 refine Yj I.FQ O c.sa c.po n.aeG c.hd wi hz fun h' O' sb => h _ ?_
 have hd : ∃ o, h'.get? dx = some o := let ⟨o, _, _, e', _⟩ := O'.ns; ⟨o, e'⟩
 refine I.write (x := a) (e := dx) (by rw [e]; exact True.intro) (.inr ho) (fun b q hb z => (sb.2 b hb).trans z) hd ?_
 refine ⟨by rw [aK O.ne]; exact ho, ?_, O.ne, O'.obj, _, O'.ns, fun g => ?_, fun g hg => ?_⟩
 . have := A8 f y fs; omega
 . show CV ((n5 f y fs).lookup g) (if g = f then some u else mA g)
   rw [A7]
   by_cases q : g = f
   . rw [alW q, alW q]; exact ry
   . rw [alT q, alT q]; exact r g
 . by_cases q : g = f
   . rw [q]; exact (zE f y fs).1
   . refine (zE f y fs).2 g (wi g fun z => hg ?_)
     show (if g = f then some u else mA g) = none
     rw [alT q]; exact z
theorem Inv.made (I : Inv X pins σ H s) : Inv X pins σ (upd (upd H s.heap.objs.size (.own (s.heap.objs.size + 1))) (s.heap.objs.size + 1) (.ins C s.heap.objs.size []))
   { s with heap := (s.heap.push PySem.W.emptyDict).push (PySem.W.instObj C s.heap.objs.size) } := by
 have e1 : (s.heap.push PySem.W.emptyDict).get? s.heap.objs.size = some PySem.W.emptyDict := amx s.heap rfl
 have e2 : ((s.heap.push PySem.W.emptyDict).push (PySem.W.instObj C s.heap.objs.size)).get? (s.heap.objs.size + 1) = some (PySem.W.instObj C s.heap.objs.size) := by
   have := amx (s.heap.push PySem.W.emptyDict) (o := PySem.W.instObj C s.heap.objs.size) rfl
   rwa [Heap.size_push] at this
 have e3 : (s.heap.push PySem.W.emptyDict).Ns s.heap.objs.size (fun _ => none) := ⟨PySem.W.emptyDict, #[], _, e1, rfl, (fun e he => absurd he (by simp)), fun _ => rfl⟩
 have I1 := I.laid (a := s.heap.objs.size) (o := .own (s.heap.objs.size + 1)) (h' := s.heap.push PySem.W.emptyDict) (t' := s.toks) (fun b u q => al8 _ q) (al9 _) ⟨_, e1⟩
 refine I1.laid (a := s.heap.objs.size + 1) (o := .ins C s.heap.objs.size []) (t' := s.toks) (fun b u q => al8 _ q) (Nat.le_of_eq (Heap.size_push _ _)) ?_
 have ne : s.heap.objs.size ≠ s.heap.objs.size + 1 := amA (Nat.lt_succ_self _)
 refine ⟨by rw [aK ne, bu], amu _, ne, e2, fun _ => none, (Heap.Ns1.of_empty e3).at fun o q => al8 _ q, fun _ => True.intro, fun y hy => absurd rfl hy⟩
theorem Yk {prog : Program} {w : World} {env : Env} {e : Expr} {f : Str} {pos : Pos} {s : Shared} {Q : Value -> Shared -> Prop} (hb : attributeBase e f env (eval e env) = eval e env)
   (h : wpAny (model prog w) A (eval e env) (fun o s₁ => wpAny (model prog w) A (getAttr o f true) Q E s₁) E s) : wpAny (model prog w) A (eval (.Attribute e f pos) env) Q E s :=
 Attribute_any_ h (by rw [arm_eval_Attribute, hb])
end
noncomputable def ahD (K : PySem.W.Frag) (ta : TE) (f : Str) : TE := fun σ H Q => ta σ H fun x H1 => ∃ a C dx fs v, x = .ref a /\ H1 a = some (.ins C dx fs) /\ zF K C /\ bq K C f /\ fs.lookup f = some v /\ Q v H1
noncomputable def ahE (K : PySem.W.Frag) (ta tv : TE) (f : Str) : TS := fun D σ H => tv σ H fun y H1 => ta σ H1 fun x H2 => ∃ a C dx fs, x = .ref a /\ H2 a = some (.ins C dx fs) /\ zF K C /\ bq K C f /\ fs.length < 1000 ∧
 D.nx σ (upd H2 a (.ins C dx (n5 f y fs)))
section
variable {X : Cx} {o e value : Expr} {f : Str} {pos pos' ahF : Pos} {ta tv : TE}
theorem U6 (he : PE X e ta) (hb : attributeBase e f X.env (eval e X.env) = eval e X.env) : PE X (.Attribute e f pos) (ahD X.K ta f) := by
 intro pins s σ H Q I h
 refine Yk hb (fk (he pins s σ H _ I h) fun u s1 zz => ?_)
 obtain ⟨x, H1, I1, rx, a, C, dx, fs, v, ex, ea, c, n, l, q⟩ := zz
 subst ex
 obtain rfl : u = Value.ref a := rx
 exact LY I1 ea c n l fun u' s2 I2 ru => ⟨v, H1, I2, ru, q⟩
theorem abG (ha : PE X o ta) (hv : PE X value tv) (hs : swapsWith value (some (.Attribute o f pos')) pos.line X.env = pure false) : PS X (.Assign [.Attribute o f pos'] value pos) (ahE X.K ta tv f) := by
 intro pins s σ H D I h
 refine plainObj_wpAny_Assign_Attribute (fk (hv pins s σ H _ I h) fun u s1 ⟨y, H1, I1, ry, q⟩ => fk (ha pins s1 σ H1 _ I1 q) fun ov s2 zz => ?_) hs
 obtain ⟨x, H2, I2, rx, a, C, dx, fs, ex, ea, c, n, l, q2⟩ := zz
 subst ex
 obtain rfl : ov = Value.ref a := rx
 exact LZ I2 ea c n l ry fun s3 I3 => ⟨σ, _, I3, q2⟩
end
section
variable {X : Cx} {pins : List (Addr × Obj)} {σ : St} {H : Hp} {s : Shared} {A : Around} {E : Value -> Shared -> Prop} {Q : Value -> Shared -> Prop} {c : Value} {b : Bool}
end
structure jk (k : Nat) (A : Around) : Prop where
 hd : A.handled = none
 dp : A.depth + 3 * k + 5 < recursionLimit
 un : A.units + 16 * k + 200 < cLine
theorem jk.mono {j k : Nat} {A : Around} (r : jk k A) (h : j <= k) : jk j A := ⟨r.hd, by have := r.dp; omega, by have := r.un; omega⟩
theorem jk.deeper {k : Nat} {A : Around} (r : jk (k + 1) A) (env : Env) : jk k (A.deeper env) :=
 ⟨r.hd, by have := r.dp; show A.depth + 1 + 3 * k + 5 < _; omega, by have := r.un; show A.units + 3 + 16 * k + 200 < _; omega⟩
theorem L0 {A : Around} {C : Addr} {us : List Value} {kw : List (Str × Value)} : (A.under (.builtin "type.__call__" ⟨.ref C :: us, kw⟩)).depth = A.depth + 1 := by
 first | rfl | simp [Around.under, Code.weight, Code.isCreation, Code.isGuard, Code.isCaller, Code.frames, Code.isFrame, guardIds]
theorem L1 {A : Around} {C : Addr} {us : List Value} {kw : List (Str × Value)} : (A.under (.builtin "type.__call__" ⟨.ref C :: us, kw⟩)).units = A.units + 1 := by
 first | rfl | simp [Around.under, Code.cUnits, Code.frames, Code.isFrame]
theorem jk.make {k : Nat} {A : Around} (r : jk (k + 1) A) (C : Addr) (us : List Value) (kw : List (Str × Value)) : jk k (A.under (.builtin "type.__call__" ⟨.ref C :: us, kw⟩)) :=
 ⟨r.hd, by have := r.dp; rw [L0]; omega, by have := r.un; rw [L1]; omega⟩
theorem jk.depth {k : Nat} {A : Around} (r : jk k A) : A.depth < recursionLimit := by have := r.dp; omega
theorem jk.units {k : Nat} {A : Around} (r : jk k A) : A.units + 64 < cLine := by have := r.un; omega
noncomputable def aeH : TA := fun _ H Q => Q [] H
noncomputable def aeI (ta : TE) (tr : TA) : TA := fun σ H Q => ta σ H fun x H1 => tr σ H1 fun xs H2 => Q (x :: xs) H2
section
variable {X : Cx} {e : Expr} {es : List Expr} {te : TE} {t : TA} {pos : Pos}
theorem gf : PA X [] aeH := fun _ _ _ _ H Q I h => Calls.spliced_nil ⟨[], H, I, .nil, h⟩
theorem c9 (ha : PE X e te) (hr : PA X es t) (hs : starEach (e :: es) X.env = (false, eval e X.env) :: starEach es X.env := by rfl) : PA X (e :: es) (aeI te t) := by
 intro pos pins s σ H Q I h
 rw [hs]
 show wpAny _ _ (spliced ((false, eval e X.env) :: backTo pos (starEach es X.env))) _ _ s
 refine Calls.spliced_cons (fk (ha pins s σ H _ I h) fun u s1 zz => ?_)
 obtain ⟨x, H1, I1, r1, q1⟩ := zz
 exact fk (hr pos pins s1 σ H1 _ I1 q1) fun us s2 ⟨xs, H2, I2, r2, q2⟩ => ⟨x :: xs, H2, I2, .cons r1 r2, q2⟩
noncomputable def ahG (t : TA) : TE := fun σ H Q => t σ H fun xs H1 => xs.length <= sizeLine /\ ∀ p, H1 p = none -> Q (.ref p) (upd H1 p (.tup xs))
noncomputable def ahH (t : TA) : TE := fun σ H Q => t σ H fun xs H1 => xs.length <= sizeLine /\ ∀ p, H1 p = none -> Q (.ref p) (upd H1 p (.lst xs))
theorem abH {x1} (h : PA X es t) : PE X (.Tuple es x1 pos) (ahG t) := by
 intro pins s σ H Q I hq
 refine wpAny_Tuple_spliced (fk (h pos pins s σ H _ I hq) fun us s1 ⟨xs, H1, I1, r, z, q⟩ => ⟨by rw [← r.length]; exact z, ?_⟩)
 have hf : H1 s1.heap.objs.size = none := I1.fS.fresh (al9 _)
 refine ⟨.ref s1.heap.objs.size, upd H1 s1.heap.objs.size (.tup xs), I1.laid (t' := s1.toks) (fun b u e => al8 _ e) (al9 _) ?_, rfl, q _ hf⟩
 exact ⟨z, us, r, ⟨_, amx _ rfl, rfl, _, rfl⟩⟩
theorem abI (h : PA X es t) : PE X (.List es pos) (ahH t) := by
 intro pins s σ H Q I hq
 refine wpAny_List_spliced (fk (h pos pins s σ H _ I hq) fun us s1 ⟨xs, H1, I1, r, z, q⟩ => ⟨by rw [← r.length]; exact z, ?_⟩)
 have hf : H1 s1.heap.objs.size = none := I1.fS.fresh (al9 _)
 refine ⟨.ref s1.heap.objs.size, upd H1 s1.heap.objs.size (.lst xs), I1.laid (t' := s1.toks) (fun b u e => al8 _ e) (al9 _) ?_, rfl, q _ hf⟩
 exact ⟨z, us, 0, r, amx _ rfl⟩
end
noncomputable abbrev Sp := List V -> Hp -> VK -> XK -> Prop
noncomputable abbrev PY := List Env -> Hp -> Shared -> XK -> Value -> Shared -> Prop
structure L5 (P : Program) (w : World) (K : PySem.W.Frag) (mg : Str -> Option Value) (base : Heap) (A : Around) (outer : List Env) (s : Shared) (H : Hp) : Prop where
 frames : A.frames = some outer
 mod : Mod K mg base
 bs : ∀ b o, base.get? b = some o -> s.heap.get? b = some o /\ H b = none
 UQ : base.objs.size <= s.heap.objs.size
 vD : s.heap.FunFrames base outer
 XR : ∀ b ∈ uA outer, H b = none
 fS : uz P w H s.heap
 bare : AllBare s.gens
noncomputable def CE (outer : List Env) (P : Program) (w : World) (H : Hp) (s : Shared) (Q : VK) (u : Value) (s' : Shared) : Prop :=
 ∃ v H', s'.os = s.os /\ AllBare s'.gens /\ Un (uA outer) [] H H' s.heap s'.heap /\ uz P w H' s'.heap /\ RelV v u /\ Q v H'
noncomputable def CR (CX : PY) (outer : List Env) (P : Program) (w : World) (H : Hp) (s : Shared) (Q : VK) (E : XK) (r : Result) (s' : Shared) : Prop :=
 match r with
 | .ok (.ret u) => CE outer P w H s Q u s'
 | .ok _ => False
 | .error e => CX outer H s E e s'
structure cJ (P : Program) (w : World) (K : PySem.W.Frag) (mg : Str -> Option Value) (base : Heap) (CX : PY) (k : Nat) (f : Addr) (fd : FuncData) (ps : List Str) (sp : Sp) : Prop where
 len : ∀ vs H Q E, sp vs H Q E -> vs.length = ps.length
 run : ∀ (A : Around) (outer : List Env) (s : Shared) (H : Hp) (args : Args) (us : List Value) (vs : List V) (Q : VK) (E : XK), jk k A -> L5 P w K mg base A outer s H -> BindsTo s fd args (ps.zip us) -> Vals vs us -> sp vs H Q E →
   codeAny (model P w) A (.call (.ref f) args) (CR CX outer P w H s Q E) s
theorem cJ.imp {P : Program} {w : World} {K : PySem.W.Frag} {mg : Str -> Option Value} {base : Heap} {CX : PY} {k : Nat} {f : Addr} {fd : FuncData} {ps : List Str} {sp sp' : Sp} (F : cJ P w K mg base CX k f fd ps sp)
   (h : ∀ vs H Q E, sp' vs H Q E -> sp vs H Q E) : cJ P w K mg base CX k f fd ps sp' :=
 ⟨fun vs H Q E q => F.len vs H Q E (h _ _ _ _ q), fun A outer s H args us vs Q E hr he hb hv hs => F.run A outer s H args us vs Q E hr he hb hv (h _ _ _ _ hs)⟩
theorem L5.make {P : Program} {w : World} {K : PySem.W.Frag} {mg : Str -> Option Value} {base : Heap} {A : Around} {outer : List Env} {s : Shared} {H : Hp} (e : L5 P w K mg base A outer s H) (C : Addr) (us : List Value) (kw : List (Str × Value)) :
   L5 P w K mg base (A.under (.builtin "type.__call__" ⟨.ref C :: us, kw⟩)) outer s H := ⟨by first | exact e.frames | (simpa [Around.under, Code.envs, Code.isFrame, pushEnvs] using e.frames), e.mod, e.bs, e.UQ, e.vD, e.XR, e.fS, e.bare⟩
section
variable {X : Cx} {pins : List (Addr × Obj)} {σ : St} {H : Hp} {s s' : Shared}
theorem Inv.abJ (I : Inv X pins σ H s) : L5 X.prog X.w X.K X.mg X.base X.A X.stack s H :=
 ⟨I.ok.frames, I.ok.mod, I.bs, amS I.ok.UQ I.sz, I.stack, I.FU, I.fS, I.bare⟩
theorem Inv.after {Q : VK} {u : Value} (I : Inv X pins σ H s) (h : CE X.stack X.prog X.w H s Q u s') : EP X pins σ Q u s' := by
 obtain ⟨v, H', os, bare, un, fS, r, q⟩ := h
 obtain ⟨hh, g, d, t, os'⟩ := s'
 obtain rfl : os' = s.os := os
 exact ⟨v, H', I.call (h' := hh) (g' := g) (d' := d) (t' := t) (ch := []) un fS bare (fun b z => absurd z (by simp)), r, q⟩
end
noncomputable def aat (sp : Sp) (Ik : List V) (E : XK) (t : TA) : TE := fun σ H Q => t σ H fun vs H1 => sp (vs ++ Ik) H1 Q E
noncomputable def aeJ (C : Addr) (sp : Sp) (Ik : List V) (E : XK) (t : TA) : TE := fun σ H Q => t σ H fun vs H1 => ∀ x dx, H1 x = none -> H1 dx = none -> dx ≠ x →
 sp (.ref x :: (vs ++ Ik)) (upd (upd H1 dx (.own x)) x (.ins C dx [])) (fun v H2 => v = .non /\ Q (.ref x) H2) E
noncomputable def Binds (K : PySem.W.Frag) (fd : FuncData) (ps : List Str) (ds : List Value) : Prop :=
 ∀ (s : Shared) (us : List Value), K.In s.heap -> (us ++ ds).length = ps.length -> BindsTo s fd ⟨us, []⟩ (ps.zip (us ++ ds))
theorem Binds.all {K : PySem.W.Frag} {fd : FuncData} {ps : List Str} (h : ∀ us : List Value, us.length = ps.length -> bindArgs fd ⟨us, []⟩ = pure (ps.zip us)) : Binds K fd ps [] := fun s us _ hl => by
 rw [amH] at hl ⊢
 exact .of_eq (h us hl)
noncomputable def Passes (CX : PY) (X : Cx) (E : XK) : Prop := ∀ (pins : List (Addr × Obj)) (σ : St) (H : Hp) (s : Shared) (e : Value) (s' : Shared), Inv X pins σ H s -> CX X.stack H s E e s' -> X.xe e s'
section
variable {X : Cx} {CX : PY} {k : Nat} {f C : Addr} {fd : FuncData} {ps : List Str} {sp : Sp} {Ik : List V} {ds : List Value} {E : XK} {x m : Str} {p pos apos : Pos} {e o : Expr} {es : List Expr} {ta : TE} {t : TA}
theorem U7 {pins : List (Addr × Obj)} {σ : St} {H : Hp} {s : Shared} {Q : VK} {us : List Value} {vs : List V} (F : cJ X.prog X.w X.K X.mg X.base CX k f fd ps sp) (hr : jk k X.A) (hb : Binds X.K fd ps ds) (hd : Vals Ik ds) (hx : Passes CX X E)
   (I : Inv X pins σ H s) (r : Vals vs us) (h : sp (vs ++ Ik) H Q E) : wpAny (model X.prog X.w) X.A (call (.ref f) us) (EP X pins σ Q) X.xe s := by
 have r2 : Vals (vs ++ Ik) (us ++ ds) := r.append hd
 have hl : (us ++ ds).length = ps.length := by rw [← r2.length]; exact F.len _ _ _ _ h
 refine wpAny_call (anv (F.run X.A X.stack s H ⟨us, []⟩ (us ++ ds) (vs ++ Ik) Q E hr I.abJ (hb s us I.FQ hl) r2 h) fun r s' hq => ?_)
 cases r with
 | error e => exact hx pins σ H s e s' I hq
 | ok fl =>
   cases fl with
   | ret u => exact I.after hq
   | next => exact False.elim hq
   | brk => exact False.elim hq
   | cont => exact False.elim hq
theorem Yl (F : cJ X.prog X.w X.K X.mg X.base CX k f fd ps sp) (hr : jk k X.A) (hg : Gl X x) (hm : X.mg x = some (.ref f)) (hk : PySem.W.keepIn X.K (.ref f) = true) (hb : Binds X.K fd ps ds) (hd : Vals Ik ds) (hx : Passes CX X E)
   (ha : PA X (e :: es) t) (CZ : (x == ("__debug__" : Str)) = false := by decide) (he : starEach (e :: es) X.env = (false, eval e X.env) :: starEach es X.env := by rfl) (hpl : (backTo pos (starEach es X.env)).any (·.1) = false := by rfl) :
   PE X (.Call (.Name x p) (e :: es) [] pos) (aat sp Ik E t) := by
 intro pins s σ H Q I h
 refine ane (qJ I hg hm ?_ CZ)
 refine PySem.W.callWith_K (h₀ := X.base) I.ok.mod.kin hk (fk (ha pos pins s σ H _ I h) fun us s1 ⟨vs, H1, I1, r, q⟩ => ⟨I1.FQ, ?_⟩) he hpl
 exact U7 F hr hb hd hx I1 r q
theorem U8 (F : cJ X.prog X.w X.K X.mg X.base CX k f fd ps sp) (hr : jk k X.A) (hg : Gl X x) (hm : X.mg x = some (.ref f)) (hk : PySem.W.keepIn X.K (.ref f) = true) (hb : Binds X.K fd ps ds) (hd : Vals Ik ds) (hx : Passes CX X E)
   (CZ : (x == ("__debug__" : Str)) = false := by decide) : PE X (.Call (.Name x p) [] [] pos) (aat sp Ik E aeH) := by
 intro pins s σ H Q I h
 refine ane (qJ I hg hm ?_ CZ)
 exact PySem.W.callWith_K0 I.FQ hk (U7 (us := []) F hr hb hd hx I .nil h)
structure Mk (K : PySem.W.Frag) (C f : Addr) : Prop where
 makes : PySem.W.makesIn K C = true
 init : PySem.W.findIn K (.ref C) "__init__" = some (some (.ref f))
 fn : PySem.W.isFn K (.ref f) = true
 kp : PySem.W.keepIn K (.ref C) = true
theorem U9 {pins : List (Addr × Obj)} {σ : St} {H : Hp} {s : Shared} {Q : VK} {us : List Value} {vs : List V} (M : Mk X.K C f) (F : cJ X.prog X.w X.K X.mg X.base CX k f fd ps sp) (hr : jk (k + 1) X.A) (hb : Binds X.K fd ps ds) (hd : Vals Ik ds)
   (hx : Passes CX X E) (I : Inv X pins σ H s) (r : Vals vs us)
   (h : ∀ x dx, H x = none -> H dx = none -> dx ≠ x -> sp (.ref x :: (vs ++ Ik)) (upd (upd H dx (.own x)) x (.ins C dx [])) (fun v H2 => v = .non /\ Q (.ref x) H2) E) :
   wpAny (model X.prog X.w) X.A (call (.ref C) us) (EP X pins σ Q) X.xe s := by
 have hq := h (s.heap.objs.size + 1) s.heap.objs.size (I.fS.fresh (Nat.le_succ _)) (I.fS.fresh (al9 _)) (amA (Nat.lt_succ_self _))
 have I2 := Inv.made (C := C) I
 have r2 : Vals (V.ref (s.heap.objs.size + 1) :: (vs ++ Ik)) (Value.ref (s.heap.objs.size + 1) :: (us ++ ds)) := .cons rfl (r.append hd)
 have hl : (Value.ref (s.heap.objs.size + 1) :: us ++ ds).length = ps.length := by
   have e := r2.length
   rw [F.len _ _ _ _ hq] at e
   exact e.symm
 refine wpAny_call (U5 (f := f) I.FQ M.makes M.init (beq_iff_eq.mp M.fn) (anv (F.run _ X.stack _ _ ⟨Value.ref (s.heap.objs.size + 1) :: us, []⟩ (Value.ref (s.heap.objs.size + 1) :: (us ++ ds)) _ _ E (hr.make C us [])
   (I2.abJ.make C us []) (hb _ (Value.ref (s.heap.objs.size + 1) :: us) I2.FQ hl) r2 hq) fun r s' hq' => ?_))
 cases r with
 | error e => exact hx pins σ _ _ e s' I2 hq'
 | ok fl =>
   cases fl with
   | ret u =>
     obtain ⟨v, H', I3, rv, ev, q3⟩ := I2.after hq'
     subst ev
     exact ⟨rv, ⟨V.ref (s.heap.objs.size + 1), H', I3, rfl, q3⟩⟩
   | next => exact False.elim hq'
   | brk => exact False.elim hq'
   | cont => exact False.elim hq'
theorem PZ (M : Mk X.K C f) (F : cJ X.prog X.w X.K X.mg X.base CX k f fd ps sp) (hr : jk (k + 1) X.A) (hg : Gl X x) (hm : X.mg x = some (.ref C)) (hb : Binds X.K fd ps ds) (hd : Vals Ik ds) (hx : Passes CX X E)
   (ha : PA X (e :: es) t) (CZ : (x == ("__debug__" : Str)) = false := by decide) (he : starEach (e :: es) X.env = (false, eval e X.env) :: starEach es X.env := by rfl) (hpl : (backTo pos (starEach es X.env)).any (·.1) = false := by rfl) :
   PE X (.Call (.Name x p) (e :: es) [] pos) (aeJ C sp Ik E t) := by
 intro pins s σ H Q I h
 refine ane (qJ I hg hm ?_ CZ)
 refine PySem.W.callWith_K (h₀ := X.base) I.ok.mod.kin M.kp (fk (ha pos pins s σ H _ I h) fun us s1 ⟨vs, H1, I1, r, q⟩ => ⟨I1.FQ, ?_⟩) he hpl
 exact U9 M F hr hb hd hx I1 r q
end
section
variable {X : Cx} {CX : PY} {k : Nat} {f C : Addr} {fd : FuncData} {ps ks : List Str} {sp : Sp} {E : XK} {x m : Str} {p pos apos akb : Pos} {e o : Expr} {es : List Expr} {kws : List Keyword} {te ta : TE} {t tk : TA} {nm : Option Str}
variable {g : List Value -> List Value -> List Value} {gV : List V -> List V -> List V}
end
structure aT (N P : List Str) (sc : Scope) : Prop where
 kind : sc.kind = .function
 co : sc.isCoroutine = false
 gen : sc.isGenerator = false
 nd : N.Nodup
 pre : N.take P.length = P
 par : ∀ x ∈ P, sc.names.lookup x = some .local \/ sc.names.lookup x = some .cell
 abK : ∀ y ∈ sc.names, y.2 ≠ .free
theorem Fd {kindOf : Str -> Option NameKind} {x : Str} : ∀ {binds : List (Str × Value)} {m : Str -> Option Value}, (∀ v, (x, v) ∉ binds) -> bindL kindOf binds m x = m x
 | [], _, _ => rfl
 | (n, v) :: r, m, h => by
   unfold bindL
   rw [Fd fun w hw => h w (al3 _ hw)]
   split
   . have : x ≠ n := by rintro rfl; exact h v al0
     simp [this]
   . rfl
theorem Fe {kindOf : Str -> Option NameKind} {x : Str} : ∀ {binds : List (Str × Value)} {m : Str -> Option Value}, (∀ v, (x, v) ∉ binds) -> bindC kindOf binds m x = m x
 | [], _, _ => rfl
 | (n, v) :: r, m, h => by
   unfold bindC
   rw [Fe fun w hw => h w (al3 _ hw)]
   split
   . rfl
   . have : x ≠ n := by rintro rfl; exact h v al0
     simp [this]
theorem Ff {kindOf : Str -> Option NameKind} {x : Str} {v : Value} : ∀ {P : List Str} {vs : List Value} {i : Nat} {m : Str -> Option Value}, P.Nodup -> P[i]? = some x -> vs[i]? = some v -> kindOf x = some .local →
   bindL kindOf (P.zip vs) m x = some v
 | [], _, _, _, _, h, _, _ => by simp at h
 | _ :: _, [], _, _, _, _, h, _ => by simp at h
 | p :: P, w :: vs, 0, m, nd, h1, h2, hk => by
   simp at h1 h2; subst h1; subst h2
   show bindL kindOf ((p, w) :: P.zip vs) m p = _
   unfold bindL
   rw [Fd fun v hv => (amO.mp nd).1 (List.of_mem_zip hv).1, alW hk]
   simp
 | p :: P, w :: vs, i + 1, m, nd, h1, h2, hk => by
   show bindL kindOf ((p, w) :: P.zip vs) m x = _
   unfold bindL
   exact Ff (i := i) (List.nodup_cons.mp nd).2 (by simpa using h1) (by simpa using h2) hk
theorem Fg {kindOf : Str -> Option NameKind} {x : Str} {v : Value} : ∀ {P : List Str} {vs : List Value} {i : Nat} {m : Str -> Option Value}, P.Nodup -> P[i]? = some x -> vs[i]? = some v -> kindOf x ≠ some .local →
   bindC kindOf (P.zip vs) m x = some v
 | [], _, _, _, _, h, _, _ => by simp at h
 | _ :: _, [], _, _, _, _, h, _ => by simp at h
 | p :: P, w :: vs, 0, m, nd, h1, h2, hk => by
   simp at h1 h2; subst h1; subst h2
   show bindC kindOf ((p, w) :: P.zip vs) m p = _
   unfold bindC
   rw [Fe fun v hv => (amO.mp nd).1 (List.of_mem_zip hv).1, alT hk]
   simp
 | p :: P, w :: vs, i + 1, m, nd, h1, h2, hk => by
   show bindC kindOf ((p, w) :: P.zip vs) m x = _
   unfold bindC
   exact Fg (i := i) (List.nodup_cons.mp nd).2 (by simpa using h1) (by simpa using h2) hk
noncomputable def start (N : List Str) (vs : List V) : St := vs.map some ++ List.replicate (N.length - vs.length) none
noncomputable def EW (CX : PY) (P : Program) (w : World) (K : PySem.W.Frag) (mg : Str -> Option Value) (base : Heap) (N : List Str) (qual : Str) (scope : Scope) (f : Addr) (cd : Value) (A : Around) (outer : List Env) (s : Shared) (H : Hp) (E : XK) : Cx where
 prog := P
 w := w
 K := K
 mg := mg
 base := base
 A := A.deeper (envOfC qual scope s.heap.objs.size f cd)
 N := N
 s₀ := s
 H₀ := H
 env := envOfC qual scope s.heap.objs.size f cd
 outer := outer
 stack := envOfC qual scope s.heap.objs.size f cd :: outer
 ex := []
 calm := true
 fn := fun _ => true
 pn := []
 xe := fun e s' => wpAny (model P w) (A.deeper (envOfC qual scope s.heap.objs.size f cd)) (leaving (envOfC qual scope s.heap.objs.size f cd) e) (fun _ s'' => CX outer H s E e s'') (fun e' s'' => CX outer H s E e' s'') s'
theorem IG {sc : Scope} {n : Nat} {x : Str} (h : sc.names.lookup x = some .cell) : ∃ c, (cellsFrom n sc.names []).lookup x = some c := by
 have q := PySem.W.cellsFrom_some sc.names n [] (.inl h)
 exact Option.isSome_iff_exists.mp q
theorem RJ {CX : PY} {P : Program} {w : World} {K : PySem.W.Frag} {mg : Str -> Option Value} {base : Heap} {N ps : List Str} {qual : Str} {scope : Scope} {f : Addr} {cd : Value} {A : Around} {outer : List Env} {s s1 : Shared} {H : Hp} {E : XK} {us : List Value} {vs : List V}
   (S : aT N ps scope) (hd : A.handled = none) (e0 : L5 P w K mg base A outer s H) (hl : vs.length = ps.length) (r : Vals vs us)
   (x : InCallC s s.heap.objs.size (bindL (envOfC qual scope s.heap.objs.size f cd).kindOf (ps.zip us) fun _ => none) (cellsFrom (s.heap.objs.size + 1) scope.names []) (bindC (envOfC qual scope s.heap.objs.size f cd).kindOf (ps.zip us) fun _ => none) s1) :
   Inv (EW CX P w K mg base N qual scope f cd A outer s H E) [] (start N vs) H s1 := by
 have hpl : ps.length <= N.length := by have := congrArg List.length S.pre; rw [List.length_take] at this; omega
 obtain ⟨h1, tk, rfl, hk⟩ := x.done
 have noA : ∀ b : Addr, b ∉ (EW CX P w K mg base N qual scope f cd A outer s H E).ex := fun b z => absurd (show b ∈ ([] : List Addr) from z) (by simp)
 refine ⟨⟨e0.mod, S.kind, rfl, rfl, al9 _, fun y z c h1 h2 => ?_, fun y hy => ?_, fun y c _ h => ?_, fun _ => hd, Around.frames_deeper e0.frames, .inr ⟨rfl, rfl⟩, fun b z => absurd z (noA b), e0.bs, e0.UQ, fun b _ _ => noA b, fun b z => absurd z (noA b), e0.vD, e0.XR⟩,
   rfl, e0.bare, Un.kept hk, ⟨_, x.toInCall.ns, fun i y v h1 h2 h3 => ?_⟩, fun y c h => ⟨_, x.cell y c h⟩, e0.fS.fresh (al9 _), fun y c h => ?_, fun p hp => absurd (show p ∈ ([] : List (Addr × Obj)) from hp) (by simp), e0.fS.kept hk, ?_⟩
 . exact name_of_addr x.apart (am5 h1) (am5 h2)
 . have hy : scope.names.lookup y = some .cell \/ scope.names.lookup y = some .free := hy
   rcases hy with hy | hy
   . exact IG hy
   . exact absurd rfl (S.abK _ (am5 hy))
 . exact amo (x.above y c (am5 h))
 . have hi : i < vs.length := by
     unfold start at h2
     by_cases hi : i < vs.length
     . exact hi
     . rw [List.getElem?_append_right (by simpa using hi)] at h2
       rw [List.getElem?_replicate] at h2
       split at h2 <;> cases h2
   have ha : vs[i]? = some v := by
     unfold start at h2
     rw [List.getElem?_append_left (by simpa using hi), List.getElem?_map] at h2
     cases e : vs[i]? with
     | none => rw [e] at h2; cases h2
     | some a => rw [e] at h2; cases h2; rfl
   obtain ⟨u, hu, rv⟩ := r.get ha
   have hp : ps[i]? = some y := by
     rw [← S.pre, List.getElem?_take_of_lt (by omega)]; exact h1
   have ndP : ps.Nodup := by rw [← S.pre]; exact S.nd.sublist (List.take_sublist _ _)
   refine ⟨u, rv, ?_⟩
   rcases S.par y (amr hp) with k | k
   . exact .inl ⟨k, Ff ndP hp hu k⟩
   . obtain ⟨c, e⟩ := IG (n := s.heap.objs.size + 1) k
     refine .inr ⟨.inl k, c, e, ?_⟩
     have q := x.cell y c e
     rw [Fg ndP hp hu (by show scope.names.lookup y ≠ _; rw [k]; decide)] at q
     exact q
 . exact e0.fS.fresh (amo (x.above y c (am5 h)))
 . unfold start
   show _ = N.length
   rw [amM, alR, am6]
   omega
theorem aau {CX : PY} {P : Program} {w : World} {K : PySem.W.Frag} {mg : Str -> Option Value} {base : Heap} {k : Nat} {f : Addr} {name qual : Str} {params : Arguments} {body : List Stmt} {scope : Scope} {dV kV doc pm gu ct oc : Value} {an od : Option Addr}
   {UI : Array (Option Value)} {N ps : List Str} {sp : Sp} (lk : K.lookup f = some ⟨oc, od, .func (PySem.W.fnOf name qual params body scope dV kV doc pm an gu ct), UI⟩) (qo : PySem.W.codeIn K gu qual = true) (S : aT N ps scope)
   (len : ∀ vs H Q E, sp vs H Q E -> vs.length = ps.length)
   (Va : ∀ (A : Around) (outer : List Env) (s : Shared) (H : Hp) (vs : List V) (Q : VK) (E : XK), jk k (A.deeper (envOfC qual scope s.heap.objs.size f gu)) -> sp vs H Q E →
     ∃ t, PJ (EW CX P w K mg base N qual scope f gu A outer s H E) body t /\ t { nx := fun _ H' => Q .non H', rt := Q } (start N vs) H) :
   cJ P w K mg base CX (k + 1) f (PySem.W.fnOf name qual params body scope dV kV doc pm an gu ct) ps sp := by
 refine ⟨len, fun A outer s H args us vs Q E hr e0 hb r Vb => ?_⟩
 have hl := len _ _ _ _ Vb
 have KX : K.In s.heap := e0.mod.kin.keeps fun b o e => (e0.bs b o e).1
 have lim : s.heap.NoLimit := e0.mod.nolimit.keeps fun b o e => (e0.bs b o e).1
 have P0 : ∀ y ∈ ps.zip us, scope.names.lookup y.1 = some .local \/ (scope.names.lookup y.1 = some .cell /\ ((cellsFrom (s.heap.objs.size + 1) scope.names []).lookup y.1).isSome = true) := fun ⟨n, v⟩ hy => by
   rcases S.par n (List.of_mem_zip hy).1 with q | q
   . exact .inl q
   . exact .inr ⟨q, PySem.W.cellsFrom_some _ _ _ (.inl q)⟩
 refine codeAny_call_function hr.depth (KX _ _ lk) rfl S.co S.gen rfl (PySem.W.codeRec_of KX qo) (hb _ _ _ _ ?_)
 refine wpAny_newFunctionEnv_cells S.kind P0 fun env he s1 x => ?_
 subst he
 refine ⟨lim.keeps x.toInCall.keep, codeAny_func ?_⟩
 obtain ⟨t, ht, hq⟩ := Va A outer s H vs Q E (hr.deeper _) Vb
 have I : Inv (EW CX P w K mg base N qual scope f gu A outer s H E) [] (start N vs) H s1 := RJ S hr.hd e0 hl r x
 refine amV (ht [] s1 (start N vs) H _ I hq) (fun fl s' hs => ?_) fun e s' hs => hs
 have fin : ∀ {σ' : St} {H' : Hp} {v : V} {u : Value}, Inv (EW CX P w K mg base N qual scope f gu A outer s H E) [] σ' H' s' -> RelV v u -> Q v H' -> CE outer P w H s Q u s' :=
   fun {σ' H' v u} J rv q => ⟨v, H', J.os, J.bare, J.base, J.fS, rv, q⟩
 cases fl with
 | ret u =>
   obtain ⟨v, σ', H', J, rv, q⟩ := hs
   exact fin J rv q
 | next =>
   obtain ⟨σ', H', J, q⟩ := hs
   exact fin (v := V.non) (u := Value.none) J rfl q
 | brk =>
   obtain ⟨_, _, _, q⟩ := hs
   exact False.elim q
 | cont =>
   obtain ⟨_, _, _, q⟩ := hs
   exact False.elim q
section
variable {X : Cx} {x : Str} {p pos : Pos} {e : Expr} {es : List Expr} {t : TA} {id T : String} {r : List V -> Hp -> VK -> Prop}
noncomputable def tCB (r : List V -> Hp -> VK -> Prop) (t : TA) : TE := fun σ H Q => t σ H fun vs H1 => r vs H1 Q
theorem n6 (hc : qp X (.builtin id) r) (hg : Gl X x) (hm : X.mg x = none) (hv : bootBuiltins x = some (.builtin id)) (ha : PA X (e :: es) t) (hn : x ≠ "__name__" := by decide) (CZ : (x == ("__debug__" : Str)) = false := by decide)
   (he : starEach (e :: es) X.env = (false, eval e X.env) :: starEach es X.env := by rfl) (hpl : (backTo pos (starEach es X.env)).any (·.1) = false := by rfl) : PE X (.Call (.Name x p) (e :: es) [] pos) (tCB r t) := by
 intro pins s σ H Q I h
 refine ane (CW I hg hm hv ?_ hn CZ)
 exact PyProof.Rows.callWith_builtin1 (fk (ha pos pins s σ H _ I h) fun us s1 ⟨vs, H1, I1, r1, q1⟩ => hc pins s1 σ H1 vs us Q I1 r1 q1) he hpl
theorem qq (hc : qp X (.type T) r) (hg : Gl X x) (hm : X.mg x = none) (hv : bootBuiltins x = some (.type T)) (ha : PA X (e :: es) t) (hn : x ≠ "__name__" := by decide) (CZ : (x == ("__debug__" : Str)) = false := by decide)
   (he : starEach (e :: es) X.env = (false, eval e X.env) :: starEach es X.env := by rfl) (hpl : (backTo pos (starEach es X.env)).any (·.1) = false := by rfl) : PE X (.Call (.Name x p) (e :: es) [] pos) (tCB r t) := by
 intro pins s σ H Q I h
 refine ane (CW I hg hm hv ?_ hn CZ)
 exact anc (fk (ha pos pins s σ H _ I h) fun us s1 ⟨vs, H1, I1, r1, q1⟩ => hc pins s1 σ H1 vs us Q I1 r1 q1) he hpl
end
end L2
namespace HT
open PySem PyProof.Rows
section
open PySem.SeqAt
open PySem.AutoSeq1 (wpAny_loadPart')
open PySem.MeetsSeq PySem.MeetsSeq2 PySem.MeetsSeq3
end
section
variable {prog : Program} {w : World} {A : Around} {E : Value -> Shared -> Prop} {s : Shared}
noncomputable def zG (n d : Nat) : Option Int -> Nat
 | none => d
 | some v => if v < 0 then (v + (n : Int)).toNat else min v.toNat n
end
end HT
namespace L2
open PySem PySem.Spec PyProof.Rows
noncomputable abbrev TO := St -> Hp -> (Option Int -> Hp -> Prop) -> Prop
noncomputable def PO (X : Cx) (e : Option Expr) (t : TO) : Prop :=
 ∀ (pins : List (Addr × Obj)) (s : Shared) (σ : St) (H : Hp) (Q : Option Int -> Hp -> Prop), Inv X pins σ H s -> t σ H Q →
   wpAny (model X.prog X.w) X.A (evalPart e X.env) (fun u s' => ∃ o H', Inv X pins σ H' s' /\ IsPart u o /\ Q o H') X.xe s
noncomputable def Ym : TO := fun _ H Q => Q none H
noncomputable def aeN (t : TE) : TO := fun σ H Q => t σ H fun x H1 => ∃ i, x = .int i /\ Q (some i) H1
theorem intsAre_of {ns : List Int} : ∀ {us : List Value}, Vals (ns.map V.int) us -> IntsAre us ns := by
 induction ns with
 | nil => intro us r; rw [anw] at r; cases r; exact .nil
 | cons n ns ih =>
   intro us r
   rw [amh] at r
   cases r with
   | cons r1 r2 =>
     obtain ⟨t, e⟩ := r1
     subst e
     exact .cons n t (ih r2)
section
variable {X : Cx} {e : Expr} {te : TE} {lo hi : Option Expr} {tl th : TO} {pos p2 : Pos}
theorem Yn : PO X none Ym := by
 intro pins s σ H Q I h
 rw [evalPart_none]
 exact amL ⟨none, H, I, .none, h⟩
theorem Yo (h : PE X e te) : PO X (some e) (aeN te) := by
 intro pins s σ H Q I hw
 rw [evalPart_some]
 refine fk (h pins s σ H _ I hw) fun u s1 zz => ?_
 obtain ⟨x, H1, I1, r1, q1⟩ := zz
 obtain ⟨i, rfl, q⟩ := q1
 obtain ⟨t, rfl⟩ := r1
 exact ⟨some i, H1, I1, .int i t, q⟩
noncomputable def SlR (X : Cx) (r : V -> Option Int -> Option Int -> Hp -> VK -> Prop) : Prop :=
 ∀ (pins : List (Addr × Obj)) (s : Shared) (σ : St) (H : Hp) (x : V) (v vl vu : Value) (lo hi : Option Int) (sl : Addr) (Q : VK), Inv X pins σ H s -> RelV x v -> s.heap.IsSliceOf sl vl vu .none -> IsPart vl lo -> IsPart vu hi -> r x lo hi H Q →
   ∃ T id, typeLookup (.type T) "__getitem__" = pure (some (.builtin id)) /\ s.TypeIs v T /\ wpAny (model X.prog X.w) X.A (getItem v (.ref sl)) (EP X pins σ Q) X.xe s
noncomputable def tSl (r : V -> Option Int -> Option Int -> Hp -> VK -> Prop) (te : TE) (tl th : TO) : TE := fun σ H Q => te σ H fun x H1 => tl σ H1 fun l H2 => th σ H2 fun u H3 => r x l u H3 Q
theorem II {r : V -> Option Int -> Option Int -> Hp -> VK -> Prop} (hr : SlR X r) (he : PE X e te) (hl : PO X lo tl) (hu : PO X hi th) : PE X (.Subscript e (.Slice lo hi none p2) pos) (tSl r te tl th) := by
 intro pins s σ H Q I h
 refine Subscript_ (fk (he pins s σ H _ I h) fun v s1 zz => ?_)
 obtain ⟨x, H1, I1, r1, q1⟩ := zz
 refine wpAny_Slice (fk (hl pins s1 σ H1 _ I1 q1) fun vl s2 ⟨l, H2, I2, pl, q2⟩ => fk (hu pins s2 σ H2 _ I2 q2) fun vu s3 zz => ?_)
 obtain ⟨u, H3, I3, pu, q3⟩ := zz
 rw [evalPart_none]
 refine amL ?_
 have I4 : Inv X pins σ H3 { s3 with heap := s3.heap.push { cls := .type "slice", data := .fields #[vl, vu, .none] } } := I3.kept (t' := s3.toks) fun b ob q => al8 _ q
 obtain ⟨T, id, hT, ht, hg⟩ := hr pins { s3 with heap := s3.heap.push { cls := .type "slice", data := .fields #[vl, vu, .none] } } σ H3 x v vl vu l u s3.heap.objs.size Q I4 r1 (Heap.IsSliceOf.new ..) pl pu q3
 show wpAny (model X.prog X.w) X.A (subscriptTail e (.Slice lo hi none p2) v (.ref s3.heap.objs.size)) (EP X pins σ Q) X.xe { s3 with heap := s3.heap.push { cls := .type "slice", data := .fields #[vl, vu, .none] } }
 exact tail_any (ops := [.ref s3.heap.objs.size, v]) ht hT hg (by with_unfolding_all rfl)
noncomputable def RK (xs : List V) (lo hi : Option Int) : List V := (xs.drop (HT.zG xs.length 0 lo)).take (HT.zG xs.length xs.length hi - HT.zG xs.length 0 lo)
theorem IJ (xs : List V) (lo hi : Option Int) : (RK xs lo hi).length <= xs.length := by
 unfold RK
 rw [List.length_take, List.length_drop]
 omega
end
noncomputable def RL (n : Nat) (i : Int) : Option Nat := if 0 <= i then (if i < n then some i.toNat else none) else if -(n : Int) <= i then some (i + n).toNat else none
noncomputable def BD {α : Type} (xs : List α) (i : Int) : Option α := (RL xs.length i).bind fun j => xs[j]?
theorem F3 {n : Nat} {i : Int} {j : Nat} (h : RL n i = some j) : seqIndex? i n = some j /\ j < n /\ -(n : Int) <= i /\ i < n := by
 unfold RL at h
 by_cases h0 : 0 <= i
 . rw [alW h0] at h
   by_cases h1 : i < n
   . rw [alW h1] at h
     have e : i.toNat = j := amw h
     exact ⟨by rw [seqIndex_of h0 h1, e], by omega, by omega, h1⟩
   . rw [alT h1] at h; cases h
 . rw [alT h0] at h
   by_cases h1 : -(n : Int) <= i
   . rw [alW h1] at h
     have e : (i + n).toNat = j := amw h
     exact ⟨by rw [seqIndex_neg (by omega) h1, e], by omega, h1, by omega⟩
   . rw [alT h1] at h; cases h
theorem F4 {α : Type} {xs : List α} {i : Int} {v : α} (h : BD xs i = some v) : ∃ j, seqIndex? i xs.length = some j /\ xs[j]? = some v /\ j < xs.length /\ -(xs.length : Int) <= i /\ i < xs.length := by
 unfold BD at h
 cases e : RL xs.length i with
 | none => rw [e] at h; cases h
 | some j =>
   rw [e] at h
   obtain ⟨h1, h2, h3, h4⟩ := F3 e
   exact ⟨j, h1, h, h2, h3, h4⟩
theorem aD {α : Type} {xs : List α} {j : Nat} {v : α} (h : xs[j]? = some v) : BD xs (j : Int) = some v := by
 have hj : j < xs.length := (amj.mp h).1
 have e : RL xs.length (j : Int) = some j := by
   unfold RL
   rw [alW (by omega), alW (by omega)]; simp
 unfold BD; rw [e]; exact h
theorem Vc {α : Type} (xs : List α) (v : α) : BD (xs ++ [v]) (-1) = some v := by
 have hl : (xs ++ [v]).length = xs.length + 1 := by simp
 have e : RL (xs ++ [v]).length (-1) = some xs.length := by
   unfold RL
   rw [hl, alT (by decide), alW (by omega)]
   congr 1
   omega
 unfold BD
 rw [e]
 show (xs ++ [v])[xs.length]? = some v
 simp
noncomputable def xO (b : Expr) : Prop := ∀ o i, subscripted b false o i = operate [o, i] (getItem o i)
noncomputable def IxR (X : Cx) (r : R2) : Prop :=
 ∀ (value slice : Expr) (pins : List (Addr × Obj)) (s : Shared) (σ : St) (H : Hp) (x y : V) (v u : Value) (Q : VK), Inv X pins σ H s -> RelV x v -> RelV y u -> r x y H Q →
   subscripted slice false v u = operate [v, u] (getItem v u) -> wpAny (model X.prog X.w) X.A (subscriptTail value slice v u) (EP X pins σ Q) X.xe s
noncomputable def MtR (X : Cx) (id : String) (r : V -> List V -> Hp -> VK -> Prop) : Prop :=
 ∀ (pins : List (Addr × Obj)) (s : Shared) (σ : St) (H : Hp) (x : V) (xs : List V) (v : Value) (us : List Value) (Q : VK), Inv X pins σ H s -> RelV x v -> Vals xs us -> r x xs H Q →
   wpAny (model X.prog X.w) X.A (call (.builtin id) (v :: us)) (EP X pins σ Q) X.xe s
section
variable {X : Cx} {a b : Expr} {ta tb : TE} {pos : Pos}
theorem Fi {r : R2} (hr : IxR X r) (ha : PE X a ta) (hb : PE X b tb) (hs : xO b) : PE X (.Subscript a b pos) (tOp r ta tb) := by
 intro pins s σ H Q I h
 exact Subscript_ (aby ha hb I h fun v u s2 x y H2 I2 rx ry q => hr a b pins s2 σ H2 x y v u Q I2 rx ry q (hs _ _))
noncomputable def ahJ (K : PySem.W.Frag) : R2 := fun x y H Q => ∃ p xs i v, x = .ref p /\ y = .int i /\ rV K H p xs /\ BD xs i = some v /\ Q v H
noncomputable def ahK (K : PySem.W.Frag) : R2 := fun x y H Q => ∃ p xs i v, x = .ref p /\ y = .int i /\ Bw K H p xs /\ BD xs i = some v /\ Q v H
noncomputable def ahL : R2 := fun x y H Q => ∃ z i c, x = .str z /\ y = .int i /\ z.length <= sizeLine /\ BD z.cps.toList i = some c /\ Q (.str ⟨#[c]⟩) H
theorem F5 : IxR X (ahJ X.K) := by
 intro value slice pins s σ H x y v u Q I rx ry h hs
 obtain ⟨p, xs, i, z, rfl, rfl, hq, he, q⟩ := h
 cases rx
 obtain ⟨t, rfl⟩ := ry
 obtain ⟨its, r, pl, hz⟩ := I.list hq
 obtain ⟨j, h1, h2, h3, h4, h5⟩ := F4 he
 obtain ⟨w, ew, rw'⟩ := r.get h2
 have hl := r.length
 have hn := zC
 have fin : EP X pins σ Q w s := ⟨z, H, I, rw', q⟩
 by_cases h0 : 0 <= i
 . have hj : i.toNat = j := by
     rw [seqIndex_of h0 h5] at h1
     exact amw h1
   exact item_listR pl.isList h0 (by omega) (by rw [hj]; simpa using ew) fin hs
 . have hj : (i + (its.toArray.size : Int)).toNat = j := by
     rw [seqIndex_neg (by omega) h4] at h1
     rw [amg, ← hl]
     exact amw h1
   exact subscriptTail_builtinR (x := w) pl.isList.typeIs slot_list_getitem.lookup
     (wpAny_getItem_list_neg (Q := fun r s' => r = w /\ EP X pins σ Q r s') pl.isList (by omega) (by rw [List.size_toArray] <;> omega) (by omega) (by rw [hj]; simpa using ew) ⟨rfl, fin⟩) hs
theorem Vd : IxR X (ahK X.K) := by
 intro value slice pins s σ H x y v u Q I rx ry h hs
 obtain ⟨p, xs, i, z, rfl, rfl, hq, he, q⟩ := h
 cases rx
 obtain ⟨t, rfl⟩ := ry
 obtain ⟨its, r, pl, hz⟩ := I.tuple hq
 obtain ⟨j, h1, h2, h3, h4, h5⟩ := F4 he
 obtain ⟨w, ew, rw'⟩ := r.get h2
 have hl := r.length
 have hn := zC
 have fin : EP X pins σ Q w s := ⟨z, H, I, rw', q⟩
 exact subscriptTail_builtinR (x := w) pl.typeIs slot_tuple_getitem.lookup
   (getItem_tuple (j := j) (Q := fun r s' => r = w /\ EP X pins σ Q r s') pl (by omega) (by omega) (by rw [List.size_toArray, ← hl]; exact h1) (by simpa using ew) ⟨rfl, fin⟩) hs
theorem abM : IxR X ahL := by
 intro value slice pins s σ H x y v u Q I rx ry h hs
 obtain ⟨z, i, c, rfl, rfl, hz, he, q⟩ := h
 obtain ⟨t, rfl⟩ := rx
 obtain ⟨t', rfl⟩ := ry
 obtain ⟨j, h1, h2, h3, h4, h5⟩ := F4 he
 have hl : z.cps.toList.length = z.length := by simp [Str.length]
 rw [hl] at h1 h4 h5
 have hn := zC
 exact tail_any (typeIs_str s z t) slot_str_getitem.lookup (getItem_str (c := c) (by
   have e1 : decide (i < -(2 ^ 63 : Int)) = false := alS (by omega)
   have e2 : decide (i ≥ 2 ^ 63) = false := alS (by omega)
   rw [e1, e2, Bool.or_false]) (by rw [h1]; simpa using h2) ⟨.str ⟨#[c]⟩, H, I.tok _, ⟨_, rfl⟩, q⟩) hs
theorem L6 (its : List Value) (n j : Nat) (u : Value) : Obj.mapSeq (·.setIfInBounds j u) { cls := .type "list", data := .seq its.toArray n } = { cls := .type "list", data := .seq (its.set j u).toArray n } := by
 simp [Obj.mapSeq]
theorem Inv.lst {pins : List (Addr × Obj)} {σ : St} {H : Hp} {s : Shared} {p : Addr} {xs : List V} (I : Inv X pins σ H s) (h : H p = some (.lst xs)) :
   ∃ (its : List Value) (n : Nat), Vals xs its /\ s.heap.get? p = some { cls := .type "list", data := .seq its.toArray n } /\ xs.length <= sizeLine := by
 obtain ⟨z, its, n, r, e⟩ := I.fS p _ h
 exact ⟨its, n, r, e, z⟩
theorem Inv.abN {pins : List (Addr × Obj)} {σ : St} {H : Hp} {s : Shared} {p : Addr} {xs ys : List V} {its its' : List Value} {n n' : Nat} {f : Obj -> Obj} (I : Inv X pins σ H s) (h : H p = some (.lst xs))
   (ho : s.heap.get? p = some { cls := .type "list", data := .seq its.toArray n }) (hf : f { cls := .type "list", data := .seq its.toArray n } = { cls := .type "list", data := .seq its'.toArray n' }) (r : Vals ys its') (hz : ys.length <= sizeLine) (t : Nat) :
   Inv X pins σ (upd H p (.lst ys)) { s with heap := s.heap.update p f, toks := t } := by
 have e : (s.heap.update p f).get? p = some { cls := .type "list", data := .seq its'.toArray n' } := by
   rw [Heap.get?_update_self f ho (by rw [hf] <;> rfl), hf]
 refine I.write (x := p) (e := p) (by rw [h]; trivial) (.inl rfl) (fun b u hb q => (Heap.get?_update_other _ _ (ani hb)).trans q) ⟨_, e⟩ ?_
 exact ⟨hz, its', n', r, e⟩
noncomputable def aeO : V -> V -> V -> Hp -> (Hp -> Prop) -> Prop := fun o i v H Q => ∃ p xs k j, o = .ref p /\ i = .int k /\ H p = some (.lst xs) /\ RL xs.length k = some j /\ Q (upd H p (.lst (xs.set j v)))
theorem set_list : aeu X aeO := by
 intro pins s σ H o i v ov iv u Q I ro ri rv h
 obtain ⟨p, xs, k, j, rfl, rfl, hp, hj, q⟩ := h
 cases ro
 obtain ⟨t, rfl⟩ := ri
 obtain ⟨its, n, r, ho, hz⟩ := I.lst hp
 obtain ⟨h1, h2, h3, h4⟩ := F3 hj
 have hl := r.length
 have hn := zC
 have I' : Inv X pins σ (upd H p (.lst (xs.set j v))) { s with heap := s.heap.update p (Obj.mapSeq (·.setIfInBounds j u)) } :=
   I.abN hp ho (L6 its n j u) (r.set rv j) (by rw [List.length_set]; exact hz) s.toks
 by_cases h0 : 0 <= k
 . have hk : k.toNat = j := by
     rw [seqIndex_of h0 h4] at h1
     exact amw h1
   exact PySem.W.ki_setAt ho h0 (by omega) (by rw [amg, ← hl]; exact h4) (by rw [hk]; exact ⟨_, I', q⟩)
 . have hk : (k + (its.toArray.size : Int)).toNat = j := by
     rw [seqIndex_neg (by omega) h3] at h1
     rw [amg, ← hl]
     exact amw h1
   exact PySem.W.ki_setBack ho (by omega) (by rw [amg, ← hl]; exact h3) (by omega) (by rw [hk]; exact ⟨_, I', q⟩)
theorem F6 (lo hi : Option Int) (n : Nat) : (sliceBounds lo hi none n).1 = ((HT.zG n 0 lo : Nat) : Int) /\ (sliceBounds lo hi none n).2.1 = ((HT.zG n n hi : Nat) : Int) /\ (sliceBounds lo hi none n).2.2 = 1 := by
 refine ⟨?_, ?_, rfl⟩
 . cases lo with
   | none => simp [sliceBounds, HT.zG]
   | some i =>
     simp only [sliceBounds, HT.zG, Option.getD_none, show (1 : Int) > 0 by decide, if_true]
     by_cases h : i < 0
     . simp only [h, if_true] <;> omega
     . simp only [h, if_false] <;> omega
 . cases hi with
   | none => simp [sliceBounds, HT.zG]
   | some i =>
     simp only [sliceBounds, HT.zG, Option.getD_none, show (1 : Int) > 0 by decide, if_true]
     by_cases h : i < 0
     . simp only [h, if_true] <;> omega
     . simp only [h, if_false] <;> omega
theorem EX (its : List Value) (lo hi : Option Int) : slicePick its.toArray lo hi none = ((its.drop (HT.zG its.length 0 lo)).take (HT.zG its.length its.length hi - HT.zG its.length 0 lo)).toArray := by
 obtain ⟨h1, h2, h3⟩ := F6 lo hi its.toArray.size
 unfold slicePick
 rw [h1, h2, h3]
 simp only [sliceRange_one, pick_run, amg] <;> rfl
noncomputable def ahM (K : PySem.W.Frag) : V -> Option Int -> Option Int -> Hp -> VK -> Prop := fun x lo hi H Q => ∃ a xs, x = .ref a /\ rV K H a xs /\ ∀ p, H p = none -> Q (.ref p) (upd H p (.lst (RK xs lo hi)))
theorem Yp : SlR X (ahM X.K) := by
 intro pins s σ H x v vl vu lo hi sl Q I rx hs pl pu h
 obtain ⟨a, xs, rfl, hx, q⟩ := h
 cases rx
 obtain ⟨its, r, ht, hz⟩ := I.list hx
 have hlen := r.length
 refine ⟨"list", _, slot_list_getitem.lookup, ht.isList.typeIs, ?_⟩
 refine wpAny_getItem_list_slice ht.isList hs pl pu .none (by simp) ?_ (by rw [amg] <;> omega)
 rw [EX, ← hlen]
 refine ⟨.ref s.heap.objs.size, _, I.laid (t' := s.toks) (o := .lst (RK xs lo hi)) (fun b ob q => al8 _ q) (al9 _) ?_, rfl, q _ (I.fS.fresh (al9 _))⟩
 exact ⟨amS (IJ xs lo hi) hz, _, 0, (r.drop (HT.zG xs.length 0 lo)).take (HT.zG xs.length xs.length hi - HT.zG xs.length 0 lo), amx _ rfl⟩
noncomputable def vm : V -> Bool
 | .non => true
 | .bl _ => true
 | .int _ => true
 | .str _ => true
 | _ => false
noncomputable def Ve : V -> V -> Bool
 | .non, .non => true
 | .bl a, .bl b => a == b
 | .bl a, .int b => (if a then 1 else 0) == b
 | .int a, .bl b => a == (if b then 1 else 0)
 | .int a, .int b => a == b
 | .str a, .str b => a == b
 | _, _ => false
theorem abO {A : Around} {s : Shared} {y x : V} {u v : Value} (ry : RelV y u) (rx : RelV x v) (fy : vm y = true) (fx : vm x = true) : SeqAt.EqAt A s u v (Ve y x) := by
 cases y with
 | non =>
   cases ry
   cases x with
   | non => cases rx; exact SeqAt.EqAt.same _
   | bl b => cases rx; exact SeqAt.EqAt.none_bool b
   | int b => obtain ⟨t, rfl⟩ := rx; exact SeqAt.EqAt.none_int b t
   | str b => obtain ⟨t, rfl⟩ := rx; exact SeqAt.EqAt.none_str b t
   | _ => exact absurd (show false = true from fx) amc
 | bl a =>
   cases ry
   cases x with
   | non => cases rx; exact SeqAt.EqAt.bool_none a
   | bl b => cases rx; exact SeqAt.EqAt.bool_bool a b
   | int b => obtain ⟨t, rfl⟩ := rx; exact SeqAt.EqAt.bool_int a b t
   | str b => obtain ⟨t, rfl⟩ := rx; exact SeqAt.EqAt.bool_str a b t
   | _ => exact absurd (show false = true from fx) amc
 | int a =>
   obtain ⟨t', rfl⟩ := ry
   cases x with
   | non => cases rx; exact SeqAt.EqAt.int_none a t'
   | bl b => cases rx; exact SeqAt.EqAt.int_bool a t' b
   | int b => obtain ⟨t, rfl⟩ := rx; exact SeqAt.EqAt.int_int a t' b t
   | str b => obtain ⟨t, rfl⟩ := rx; exact SeqAt.EqAt.int_str a t' b t
   | _ => exact absurd (show false = true from fx) amc
 | str a =>
   obtain ⟨t', rfl⟩ := ry
   cases x with
   | non => cases rx; exact SeqAt.EqAt.str_none a t'
   | bl b => cases rx; exact SeqAt.EqAt.str_bool a t' b
   | int b => obtain ⟨t, rfl⟩ := rx; exact SeqAt.EqAt.str_int a t' b t
   | str b => obtain ⟨t, rfl⟩ := rx; exact SeqAt.EqAt.str_str a t' b t
   | _ => exact absurd (show false = true from fx) amc
 | _ => exact absurd (show false = true from fy) amc
noncomputable def L7 (x : V) (u : Value) : Bool := match u with
 | .none => Ve .non x
 | .bool b => Ve (.bl b) x
 | .int i _ => Ve (.int i) x
 | .str z _ => Ve (.str z) x
 | _ => false
theorem Vf {x y : V} {u : Value} (r : RelV y u) (f : vm y = true) : L7 x u = Ve y x := by
 cases y with
 | non => cases r; rfl
 | bl b => cases r; rfl
 | int i => obtain ⟨t, rfl⟩ := r; rfl
 | str z => obtain ⟨t, rfl⟩ := r; rfl
 | _ => exact absurd (show false = true from f) amc
theorem xP {x : V} : ∀ {xs : List V} {us : List Value}, Vals xs us -> xs.all vm = true -> us.any (L7 x) = xs.any fun y => Ve y x
 | _, _, .nil, _ => rfl
 | y :: xs, u :: us, .cons r t, f => by
   rw [amX, ame] at f
   rw [am3, am3, Vf r f.1, xP t f.2]
theorem sE {A : Around} {s : Shared} {x : V} {v : Value} (rx : RelV x v) (fx : vm x = true) : ∀ {xs : List V} {us : List Value}, Vals xs us -> xs.all vm = true -> ∀ u ∈ us, SeqAt.EqAt A s u v (L7 x u)
 | _, _, .nil, _ => fun u hu => by cases hu
 | y :: xs, u :: us, .cons r t, f => fun u' hu => by
   rw [amX, ame] at f
   rcases al6.mp hu with rfl | hu
   . rw [Vf r f.1]; exact abO r rx f.1 fx
   . exact sE rx fx t f.2 u' hu
noncomputable def inV (x : V) (xs : List V) : Bool := xs.any fun y => Ve y x
noncomputable def rIn (K : PySem.W.Frag) (neg : Bool) : R2 := fun x y H Q => ∃ p xs, y = .ref p /\ (rV K H p xs \/ Bw K H p xs) /\ vm x = true /\ xs.all vm = true /\ Q (.bl (if neg then !inV x xs else inV x xs)) H
theorem uD : sC X (compareOp .In) (rIn X.K false) := by
 intro pins s σ H x y v u Q I rx ry h
 obtain ⟨p, xs, rfl, hq, fx, fs, q⟩ := h
 cases ry
 rcases hq with hq | hq
 . obtain ⟨its, r, pl, hz⟩ := I.list hq
   refine SeqAt.in_listAt (L7 x) pl.isList (fun w hw => sE rx fx r fs w (by simpa using hw)) ⟨.bl _, H, I, rfl, ?_⟩
   rw [show its.toArray.any (L7 x) = its.any (L7 x) by simp, xP r fs]
   exact q
 . obtain ⟨its, r, pl, hz⟩ := I.tuple hq
   refine SeqAt.in_tupleAt (L7 x) pl (fun w hw => sE rx fx r fs w (by simpa using hw)) ⟨.bl _, H, I, rfl, ?_⟩
   rw [show its.toArray.any (L7 x) = its.any (L7 x) by simp, xP r fs]
   exact q
theorem nh : sC X (compareOp .NotIn) (rIn X.K true) := by
 intro pins s σ H x y v u Q I rx ry h
 obtain ⟨p, xs, rfl, hq, fx, fs, q⟩ := h
 cases ry
 rcases hq with hq | hq
 . obtain ⟨its, r, pl, hz⟩ := I.list hq
   refine SeqAt.notIn_listAt (L7 x) pl.isList (fun w hw => sE rx fx r fs w (by simpa using hw)) ⟨.bl _, H, I, rfl, ?_⟩
   rw [show its.toArray.any (L7 x) = its.any (L7 x) by simp, xP r fs]
   exact q
 . obtain ⟨its, r, pl, hz⟩ := I.tuple hq
   refine SeqAt.notIn_tupleAt (L7 x) pl (fun w hw => sE rx fx r fs w (by simpa using hw)) ⟨.bl _, H, I, rfl, ?_⟩
   rw [show its.toArray.any (L7 x) = its.any (L7 x) by simp, xP r fs]
   exact q
theorem xQ : qp X (.builtin "len") (fun xs H Q => ∃ p ys, xs = [.ref p] /\ (rV X.K H p ys \/ Bw X.K H p ys) /\ Q (.int ys.length) H) := by
 intro pins s σ H xs us Q I r h
 obtain ⟨p, ys, rfl, hq, q⟩ := h
 obtain ⟨u, rfl, rx⟩ := vals1 r
 cases rx
 have hn := zC
 rcases hq with hq | hq
 . obtain ⟨its, r', pl, hz⟩ := I.list hq
   have hlen := r'.length
   exact Calls.call_len_list pl.isList (by simp only [amg] <;> omega) ⟨.int ys.length, H, I.tok _, ⟨s.toks + 1, by rw [amg, hlen]⟩, q⟩
 . obtain ⟨its, r', pl, hz⟩ := I.tuple hq
   have hlen := r'.length
   exact len_tuple pl (by simp only [amg] <;> omega) ⟨.int ys.length, H, I.tok _, ⟨s.toks + 1, by rw [amg, hlen]⟩, q⟩
theorem F7 : qp X (.builtin "len") (fun xs H Q => ∃ z, xs = [.str z] /\ z.length <= sizeLine /\ Q (.int z.length) H) := by
 intro pins s σ H xs us Q I r h
 obtain ⟨z, rfl, hz, q⟩ := h
 obtain ⟨u, rfl, t, rfl⟩ := vals1 r
 have hn := zC
 exact len_str (by omega) ⟨.int z.length, H, I.tok _, ⟨_, rfl⟩, q⟩
theorem F8 : qp X (.type "list") (fun xs H Q => ∃ p ys, xs = [.ref p] /\ (rV X.K H p ys \/ Bw X.K H p ys) /\ ∀ l, H l = none -> Q (.ref l) (upd H l (.lst ys))) := by
 intro pins s σ H xs us Q I r h
 obtain ⟨p, ys, rfl, hq, q⟩ := h
 obtain ⟨u, rfl, rx⟩ := vals1 r
 cases rx
 have fin : ∀ (its : List Value), Vals ys its -> ys.length <= sizeLine -> ∀ (h' : Heap) (c' : Nat), (∀ b o', s.heap.get? b = some o' -> h'.get? b = some o') →
     h'.get? s.heap.objs.size = some { cls := .type "list", dict := none, data := .seq its.toArray c', slots := #[] } -> EP X pins σ Q (.ref s.heap.objs.size) { s with heap := h' } := fun its r' hz h' c' kp e =>
   ⟨.ref s.heap.objs.size, _, I.laid (t' := s.toks) kp (al9 _) (show iL X.prog X.w _ h' _ (.lst ys) from ⟨hz, its, c', r', e⟩), rfl, q _ (I.fS.fresh (al9 _))⟩
 rcases hq with hq | hq
 . obtain ⟨its, r', pl, hz⟩ := I.list hq
   have hlen := r'.length
   obtain ⟨o, ho, hc, n, hd⟩ := pl.isList
   exact call_list_seq p (.inl rfl) ho hc hd (fun h' c' kp e => fin its r' hz h' c' kp e) (by simp only [amg] <;> omega)
 . obtain ⟨its, r', pl, hz⟩ := I.tuple hq
   have hlen := r'.length
   obtain ⟨o, ho, hc, n, hd⟩ := pl
   exact call_list_seq p (.inr rfl) ho hc hd (fun h' c' kp e => fin its r' hz h' c' kp e) (by simp only [amg] <;> omega)
theorem EY : qp X (.type "tuple") (fun xs H Q => ∃ p ys, xs = [.ref p] /\ ((rV X.K H p ys /\ ∀ l, H l = none -> Q (.ref l) (upd H l (.tup ys))) \/ (Bw X.K H p ys /\ Q (.ref p) H))) := by
 intro pins s σ H xs us Q I r h
 obtain ⟨p, ys, rfl, h⟩ := h
 obtain ⟨u, rfl, rx⟩ := vals1 r
 cases rx
 rcases h with ⟨hq, q⟩ | ⟨hq, q⟩
 . obtain ⟨its, r', pl, hz⟩ := I.list hq
   have hlen := r'.length
   refine call_tuple_list pl.isList (fun h' kp => ?_) (by simp only [amg] <;> omega)
   have I1 : Inv X pins σ H { s with heap := h' } := I.kept (t' := s.toks) kp
   have I2 : Inv X pins σ (upd H h'.objs.size (.tup ys)) { s with heap := h'.push { cls := .type "tuple", data := .seq its.toArray } } :=
     I1.laid (t' := s.toks) (fun b o e => al8 _ e) (al9 _) (show iL X.prog X.w _ _ _ (.tup ys) from ⟨hz, its, r', IsTup.new _ _⟩)
   exact ⟨.ref h'.objs.size, _, I2, rfl, q _ (I1.fS.fresh (al9 _))⟩
 . obtain ⟨its, r', pl, hz⟩ := I.tuple hq
   exact call_tuple_same pl ⟨.ref p, H, I, rfl, q⟩
noncomputable def tyV (K : PySem.W.Frag) (T : String) (x : V) (H : Hp) : Prop := match x with
 | .str _ => T = "str"
 | .int _ => T = "int"
 | .ref p => (T = "list" /\ ∃ xs, rV K H p xs) \/ (T = "tuple" /\ ∃ o, K.lookup p = some o /\ o.cls = .type "tuple" /\ o.dict = none) ∨
     (T = "dict" /\ ((∃ bH, H p = some (.dK bH)) \/ ∃ bH, H p = some (.dT bH))) \/ (T = "set" /\ ∃ S n, H p = some (.set S n))
 | _ => False
theorem Vg {pins : List (Addr × Obj)} {σ : St} {H : Hp} {s : Shared} {T : String} {x : V} {v : Value} (I : Inv X pins σ H s) (r : RelV x v) (ty : tyV X.K T x H) :
   s.TypeIs v T /\ ∀ a, v = .ref a -> ∃ ob, s.heap.get? a = some ob /\ ob.dict = none := by
 cases x with
 | str z =>
   obtain ⟨t, rfl⟩ := r
   cases (show T = "str" from ty)
   exact ⟨typeIs_str s z t, fun _ e => nomatch e⟩
 | int i =>
   obtain ⟨t, rfl⟩ := r
   cases (show T = "int" from ty)
   exact ⟨typeIs_int s i t, fun _ e => nomatch e⟩
 | ref p =>
   cases r
   rcases ty with ⟨rfl, xs, hq⟩ | ⟨rfl, o, hk, hc, hd⟩ | ⟨rfl, hk⟩ | ⟨rfl, S, n, hk⟩
   . obtain ⟨its, _, pl, _⟩ := I.list hq
     refine ⟨pl.isList.typeIs, fun a e => ?_⟩
     cases e
     obtain ⟨o, n, e, c, hd, _⟩ := pl
     exact ⟨o, e, hd⟩
   . refine ⟨⟨o, I.FQ p o hk, hc⟩, fun a e => ?_⟩
     cases e
     exact ⟨o, I.FQ _ o hk, hd⟩
   . have z : ∃ o, s.heap.get? p = some o /\ o.ExactDict := by
       rcases hk with ⟨bH, hk⟩ | ⟨bH, hk⟩
       . obtain ⟨_, _, _, _, o, _, _, e, ex, _⟩ := I.fS p _ hk
         exact ⟨o, e, ex⟩
       . obtain ⟨_, _, _, _, o, _, _, e, ex, _⟩ := I.fS p _ hk
         exact ⟨o, e, ex⟩
     obtain ⟨o, e, ex⟩ := z
     refine ⟨⟨o, e, ex.1⟩, fun a e2 => ?_⟩
     cases e2
     exact ⟨o, e, ex.2.1⟩
   . obtain ⟨o, _, _, _, e, ex, _⟩ := I.fS p _ hk
     refine ⟨⟨o, e, ex.1⟩, fun a e2 => ?_⟩
     cases e2
     exact ⟨o, e, ex.2.1⟩
 | _ => exact False.elim ty
noncomputable def ahO (K : PySem.W.Frag) (T : String) (r : V -> List V -> Hp -> VK -> Prop) (to : TE) : TE := fun σ H Q => to σ H fun x H1 => tyV K T x H1 /\ r x [] H1 Q
noncomputable def tBM (K : PySem.W.Frag) (T : String) (r : V -> List V -> Hp -> VK -> Prop) (to : TE) (t : TA) : TE := fun σ H Q => to σ H fun x H1 => tyV K T x H1 /\ t σ H1 fun xs H2 => r x xs H2 Q
variable {o e : Expr} {es : List Expr} {to : TE} {t : TA} {name : Str} {apos xR : Pos} {T id : String} {r : V -> List V -> Hp -> VK -> Prop}
theorem Vh (pa : PlainAttrs T) (slot : Slot T name id) (hty : typeOf (.builtin id) = pure (.type "method_descriptor")) (hm : MtR X id r) (ho : PE X o to)
   (mw : attributeBase o name X.env (eval o X.env) = eval o X.env := by rfl) (hline : (apos.endLine == xR.line) = true := by rfl) : PE X (.Call (.Attribute o name apos) [] [] xR) (ahO X.K T r to) := by
 intro pins s σ H Q I h
 refine wpAny_Call_method0_late mw hline (fk (ho pins s σ H _ I h) fun v s1 zz => ?_)
 obtain ⟨x, H1, I1, r1, ty, q1⟩ := zz
 obtain ⟨h1, h2⟩ := Vg I1 r1 ty
 exact ⟨T, id, pa, slot, hty, h1, h2, Calls.callWith_builtin rfl (PySem.evalArgs_none (hm pins s1 σ H1 x [] v [] Q I1 r1 .nil q1))⟩
theorem P1 (pa : PlainAttrs T) (slot : Slot T name id) (hty : typeOf (.builtin id) = pure (.type "method_descriptor")) (hm : MtR X id r) (ho : PE X o to) (ha : PA X (e :: es) t)
   (mw : attributeBase o name X.env (eval o X.env) = eval o X.env := by rfl)
   (C1 : ((backTo xR (starEach (e :: es) X.env)).all (fun x => !x.1) && (backToKw xR (keywordEach [] X.env)).all (fun x => x.1.isSome)
     && decide ((e :: es).length + ([] : List Keyword).length + (if ([] : List Keyword).isEmpty then 0 else 1) < 30)) = true := by rfl)
   (hline : (apos.endLine == xR.line) = true := by rfl) (hs : starEach (e :: es) X.env = (false, eval e X.env) :: starEach es X.env := by rfl) (L8 : (backTo xR (starEach es X.env)).any (·.1) = false := by rfl) :
   PE X (.Call (.Attribute o name apos) (e :: es) [] xR) (tBM X.K T r to t) := by
 intro pins s σ H Q I h
 refine wpAny_Call_method_late mw C1 hline rfl (fk (ho pins s σ H _ I h) fun v s1 zz => ?_)
 obtain ⟨x, H1, I1, r1, ty, q1⟩ := zz
 obtain ⟨h1, h2⟩ := Vg I1 r1 ty
 refine ⟨T, id, pa, slot, hty, h1, h2, ?_⟩
 have hA := ha xR pins s1 σ H1 _ I1 q1
 rw [hs] at hA ⊢
 refine Calls.callWith_builtin (by show (false || (backTo xR (starEach es X.env)).any (·.1)) = false; rw [L8] <;> rfl) (Calls.evalArgs_plain ?_)
 exact fk hA fun us s2 ⟨vs, H2, I2, r2, q2⟩ => hm pins s2 σ H2 x vs v us Q I2 r1 r2 q2
end
noncomputable def MtM (X : Cx) (id : String) (r : V -> List V -> Hp -> VK -> Prop) : Prop :=
 ∀ (pins : List (Addr × Obj)) (s : Shared) (σ : St) (H : Hp) (x : V) (xs : List V) (v : Value) (us : List Value) (Q : VK), Inv X pins σ H s -> RelV x v -> Vals xs us -> r x xs H Q →
   wpAny (model X.prog X.w) X.A (call (.builtin id) (v :: us)) (EP X pins σ Q) X.xe s
theorem Vals.one {x : V} {us : List Value} (h : Vals [x] us) : ∃ u, us = [u] /\ RelV x u := by
 cases h with
 | cons r h => cases h; exact ⟨_, rfl, r⟩
theorem Vals.zero : ∀ {us : List Value}, Vals [] us -> us = []
 | _, .nil => rfl
theorem Vals.dropLast {xs : List V} {us : List Value} (h : Vals xs us) : Vals xs.dropLast us.dropLast := by
 induction h with
 | nil => exact .nil
 | cons r t ih =>
   cases t with
   | nil => exact .nil
   | cons q t' => exact .cons r ih
theorem Vals.reverse {xs : List V} {us : List Value} (h : Vals xs us) : Vals xs.reverse us.reverse := by
 induction h with
 | nil => exact .nil
 | cons r t ih => rw [amW, amW]; exact Vals.append ih (.cons r .nil)
theorem Ma {α : Type} (l : List α) : l.eraseIdx (l.length - 1) = l.dropLast := by
 induction l with
 | nil => rfl
 | cons a r ih =>
   cases r with
   | nil => rfl
   | cons b r =>
     have e : (a :: b :: r).length - 1 = ((b :: r).length - 1) + 1 := by
       have h1 : (a :: b :: r).length = r.length + 2 := rfl
       have h2 : (b :: r).length = r.length + 1 := rfl
       omega
     rw [e, List.eraseIdx_cons_succ, ih]
     all_goals rfl
section
variable {X : Cx} {pins : List (Addr × Obj)} {σ : St} {H : Hp} {s : Shared} {l b : Addr} {xs ys zs : List V}
theorem Inv.Yq {its its' : List Value} {n : Nat} {f : Array Value -> Array Value} {t' : Nat} (I : Inv X pins σ H s) (hH : H l = some (.lst xs))
   (e : s.heap.get? l = some { cls := .type "list", data := .seq its.toArray n }) (hf : f its.toArray = its'.toArray) (hv : Vals ys its') (hz : ys.length <= sizeLine) :
   Inv X pins σ (upd H l (.lst ys)) { s with heap := s.heap.update l (Obj.mapSeq f), toks := t' } := by
 have q := PySem.IsL.update e f
 rw [hf] at q
 refine I.write (x := l) (e := l) (by rw [hH]; exact trivial) (.inl rfl) (fun b' u hb hu => (Heap.get?_update_other s.heap (Obj.mapSeq f) (ani hb)).trans hu) ⟨_, q⟩ ?_
 exact ⟨hz, its', _, hv, q⟩
theorem Inv.aeP {its : List Value} {t' : Nat} (I : Inv X pins σ H s) (hv : Vals ys its) (hz : ys.length <= sizeLine) :
   Inv X pins σ (upd H s.heap.objs.size (.lst ys)) { s with heap := s.heap.push { cls := .type "list", data := .seq its.toArray }, toks := t' } :=
 I.laid (fun _ _ q => al8 _ q) (al9 _) ⟨hz, its, 0, hv, amx _ rfl⟩
theorem Inv.fresh (I : Inv X pins σ H s) : H s.heap.objs.size = none := I.fS.fresh (al9 _)
theorem Inv.Yr (I : Inv X pins σ H s) (hH : H l = some (.lst xs)) : xs.length <= sizeLine /\ ∃ (its : List Value) (n : Nat), Vals xs its /\ xs.length = its.length /\ s.heap.get? l = some { cls := .type "list", data := .seq its.toArray n } := by
 obtain ⟨z, its, n, r, e⟩ := I.fS l _ hH
 exact ⟨z, its, n, r, r.length, e⟩
theorem Vi {n : Nat} (h : n <= sizeLine) : Builtin.List.listTooLong n = false := by
 unfold Builtin.List.listTooLong
 exact alS (by omega)
end
section
variable {X : Cx}
noncomputable def Ys : V -> List V -> Hp -> VK -> Prop := fun x vs H Q => ∃ l xs y, x = .ref l /\ vs = [y] /\ H l = some (.lst xs) /\ xs.length < sizeLine /\ Q .non (upd H l (.lst (xs ++ [y])))
theorem Fj : MtM X "list.append" Ys := by
 intro pins s σ H x vs v us Q I rx rv h
 obtain ⟨l, xs, y, rfl, rfl, hH, hz, q⟩ := h
 cases rx
 obtain ⟨u, rfl, ru⟩ := rv.one
 obtain ⟨z, its, n, r, hl, e⟩ := I.Yr hH
 refine call_meets F.slot_list_append ⟨_, e, rfl⟩ F.entry_list_append (F.args_list_append_2 _ _) (PySem.list_append l its.toArray n u (by rw [amg]; omega)) ⟨e, ?_⟩
 refine ⟨.non, _, I.Yq (its' := its ++ [u]) hH e (by simp) (r.append (.cons ru .nil)) ?_, rfl, q⟩
 rw [amM, List.length_singleton]
 omega
noncomputable def ahQ : V -> List V -> Hp -> VK -> Prop := fun x vs H Q => ∃ l xs y, x = .ref l /\ vs = [] /\ H l = some (.lst xs) /\ xs[xs.length - 1]? = some y /\ Q y (upd H l (.lst xs.dropLast))
theorem abP : MtM X "list.pop" ahQ := by
 intro pins s σ H x vs v us Q I rx rv h
 obtain ⟨l, xs, y, rfl, rfl, hH, hy, q⟩ := h
 cases rx
 have hus := rv.zero
 subst hus
 obtain ⟨z, its, n, r, hl, e⟩ := I.Yr hH
 obtain ⟨u, hu, ru⟩ := r.get hy
 have hy' : its.toArray[its.toArray.size - 1]? = some u := by
   show its.toArray[its.length - 1]? = some u
   rw [← Array.getElem?_toList, ← hl]
   exact hu
 refine call_meets F.slot_list_pop ⟨_, e, rfl⟩ F.entry_list_pop (F.args_list_pop_1 _) (MeetsSeq.list_pop_last l its.toArray n u hy' (by rw [amg]; omega)) ⟨e, ?_⟩
 refine ⟨y, _, I.Yq (its' := its.dropLast) hH e ?_ r.dropLast ?_, ru, q⟩
 . show its.toArray.eraseIdxIfInBounds (its.toArray.size - 1) = its.dropLast.toArray
   rw [amg, List.eraseIdxIfInBounds_toArray, Ma]
 . rw [List.length_dropLast]
   omega
noncomputable def Vj : V -> List V -> Hp -> VK -> Prop := fun x vs H Q => ∃ l xs, x = .ref l /\ vs = [] /\ H l = some (.lst xs) /\ Q .non (upd H l (.lst xs.reverse))
theorem Mb : MtM X "list.reverse" Vj := by
 intro pins s σ H x vs v us Q I rx rv h
 obtain ⟨l, xs, rfl, rfl, hH, q⟩ := h
 cases rx
 have hus := rv.zero
 subst hus
 obtain ⟨z, its, n, r, hl, e⟩ := I.Yr hH
 refine call_meets F.slot_list_reverse ⟨_, e, rfl⟩ F.entry_list_reverse (F.args_list_reverse_1 _) (AutoSeq1.list_reverse_list_0 l its.toArray n (by rw [amg]; omega)) ⟨e, ?_⟩
 refine ⟨.non, _, I.Yq (its' := its.reverse) hH e (by simp) r.reverse ?_, rfl, q⟩
 rw [List.length_reverse]
 omega
end
section
variable {prog : Program} {w : World} {A : Around} {E : Value -> Shared -> Prop} {s : Shared}
set_option maxRecDepth 100000 in
end
section
variable {X : Cx}
end
end L2
namespace Att
open PySem PySem.W PySem.Calls PyProof.Rows
theorem BE {P : Params} {h : Heap} : ∀ (ns : List Int) (vs : List Value), WellAll P h vs (ns.map WData.int) -> IntsAre vs ns := by
 intro ns
 induction ns with
 | nil =>
   intro vs w
   rw [List.map_nil] at w
   cases w
   exact .nil
 | cons n ns ih =>
   intro vs w
   rw [List.map_cons] at w
   cases w with
   | cons a b =>
     cases a
     exact .cons _ _ (ih _ b)
theorem RM {l : OpenLaw} {n : Nat} (hn : l.most = some n) {P : Params} {h : Heap} {args : List WData} {vals : List Value}
   (Yt : l.row.toRowW.claim.pre args = true) (hwl : WellAll P h vals args) :
   ∃ a vs ns, vals = [Value.ref a] /\ args = [WData.list (ns.map WData.int)] /\ h.get? a = some { cls := .type "list", data := .seq vs.toArray } /\ IntsAre vs ns /\ ns.length <= n := by
 have hsh : WShape.hasAll [] args [.list .int] = true := (pre_splitW Yt).1
 have hc : l.pre.holds [] { args := args } = true := (pre_splitW Yt).2
 obtain ⟨d, r, rfl, h1, h2⟩ := hasAllW_cons hsh
 obtain rfl := hasAllW_nil h2
 obtain ⟨xs, rfl, h3⟩ := hasW_list h1
 obtain ⟨ns, rfl⟩ := items_int h3
 have hlen : ns.length <= n := by
   unfold OpenLaw.pre at hc
   have h4 : (WTm.not (.lt (.lit (.int (n : Int))) (.len (.arg 0)))).holds [] { args := [.list (ns.map .int)] } = true := by
     have h4 := (holds_andW hc).1
     rw [hn] at h4
     exact h4
   have h5 := condW_of h4 (w_not (w_lt w_lit (w_len_list (w_arg rfl))))
   rw [List.length_map] at h5
   refine Nat.le_of_not_lt fun q => ?_
   have q' : (n : Int) < ((ns.length : Nat) : Int) := by omega
   first
     | (rw [decide_eq_true q'] at h5; exact absurd h5 (by decide))
     | (simp at h5; omega)
 cases hwl with
 | cons w1 w2 =>
   cases w2
   cases w1 with
   | list ho RN => exact ⟨_, _, ns, rfl, rfl, ho, BE ns _ RN, hlen⟩
theorem RP (l : OpenLaw) (args : List WData) : l.row.toRowW.claim.post args (.bool true) args = true :=
 postW_of (r := l.row.toRowW) (X := (true == true))
   (show WShape.has [] (.bool true) .bool = true by first | rfl | decide | simp [WShape.has, WShape.arms, WShape.armsAll])
   (show (WTm.eq .res (.lit (.bool true))).value [] { args := args, res := some (.bool true), after := args } = some (.bool (true == true)) from w_eq_bool (w_res rfl) w_lit) rfl
theorem IK {l : OpenLaw} {n : Nat} {q : Program} {loose : List Str} {XP : (Str -> Option Value) -> Heap -> Prop} {YP : World -> Heap -> Prop} {d : DefRec}
   (hn : l.most = some n) (hdf : d.params.defaults = [])
   (call : ∀ (w : World) (s₀ s₁ : Shared) (mg mb : Str -> Option Value) (fa : Addr) (o : Obj) (pm cd doc : Value) (a : Addr) (vs : List Value) (ns : List Int),
     Ground q loose [] XP w s₀ mg mb s₁.heap -> YP w s₁.heap →
     s₁.heap.get? fa = some o -> o.data = .func (docDef d.name d.params d.body d.scope pm cd doc) -> s₁.heap.CodeRec cd d.name -> mg d.name = some (.ref fa) →
     s₁.heap.get? a = some { cls := .type "list", data := .seq vs.toArray } -> IntsAre vs ns -> ns.length <= n -> s₁.gens = #[] →
     codeAny (model l.prog w) callerA (.call (.ref fa) ⟨[.ref a], []⟩) (fun r s' => r = .ok (.ret (.bool true)) /\ OldK s₁.heap s'.heap /\ s'.os = s₁.os /\ AllBare s'.gens) s₁) :
   WalkO q loose XP YP l.row.toRowW d [] (fun f vs => PySem.call f vs) := by
 intro w s₀ s₁ mg mb G Y fa o pm cd doc dV kV ho hd qo hD hmg hg args vals as Yt hlay hrd hwl hlo
 obtain rfl : dV = .none := Dflts.none hD hdf
 obtain rfl : kV = .none := Dflts.noKw hD
 obtain ⟨a, vs, ns, rfl, rfl, abQ, hints, hlen⟩ := RM hn Yt hwl
 refine enter_call (codeAny_mono (call w s₀ s₁ mg mb fa o pm cd doc a vs ns G Y ho (fd_plain hd) qo hmg abQ hints hlen hg) fun r s' hq => ?_)
 obtain ⟨rfl, h2, h3, h4⟩ := hq
 exact ⟨.inl ⟨.bool true, .bool true, [], rfl, fun _ => rfl, .bool true, RP l _, fun _ => ⟨List.Pairwise.nil, fun _ hm => (nomatch hm)⟩⟩, h2, h3, h4⟩
section
variable {prog : Program} {w : World} {A : Around} {E : Value -> Shared -> Prop} {s : Shared} {K : Frag}
noncomputable def ledger (h : Heap) (L d : Addr) : List (Addr × Obj) := (List.range h.objs.size).filterMap fun a => if a = L \/ a = d then none else (h.get? a).map fun o => (a, o)
end
end Att
namespace L2
open PySem PySem.Spec PyProof.Rows
theorem Fl : ∀ {vs : List Value} {ns : List Int}, IntsAre vs ns -> Vals (ns.map V.int) vs
 | _, _, .nil => .nil
 | _, _, .cons n t h => .cons ⟨t, rfl⟩ (Fl h)
noncomputable def Only (H : Hp) : Prop := ∀ b, H b = none \/ ∃ o xs, H b = some (.iY o (.lst xs))
theorem Vk {P : Program} {w : World} {K : PySem.W.Frag} {mg mb : Str -> Option Value} {CX : PY} {k : Nat} {fa a : Addr} {fd : FuncData} {x : Str} {sp : Sp} {s₁ : Shared} {vs : List Value} {ns : List Int}
   (KX : K.In s₁.heap) (hns : s₁.heap.Ns mainGlobals mg) (hb : s₁.heap.Ns builtinsNs mb) (hbb : ∀ x : Str, x ≠ "__name__" -> mb x = bootBuiltins x) (ahS : s₁.heap.NoLimit) (hg : s₁.gens = #[])
   (ha : s₁.heap.get? a = some { cls := .type "list", data := .seq vs.toArray }) (hi : IntsAre vs ns) (hl : ns.length <= sizeLine) (hr : jk k callerA)
   (F : ∀ base : Heap, K.In base -> base.Ns mainGlobals mg -> cJ P w K mg base CX k fa fd [x] sp) (aeS : ∀ (s : Shared) (u : Value), BindsTo s fd ⟨[u], []⟩ [(x, u)])
   (Vb : ∀ H : Hp, Only H -> rV K H a (ns.map V.int) -> sp [.ref a] H (fun v _ => v = .bl true) fun _ _ _ => False)
   (hCX : ∀ H e s', CX [] H s₁ (fun _ _ _ => False) e s' -> False) :
   codeAny (model P w) callerA (.call (.ref fa) ⟨[.ref a], []⟩) (fun r s' => r = .ok (.ret (.bool true)) /\ OldK s₁.heap s'.heap /\ s'.os = s₁.os /\ AllBare s'.gens) s₁ := by
 have rv := Fl hi
 have ahU := hi.length
 have core : ∀ H : Hp, Only H -> rV K H a (ns.map V.int) -> uz P w H s₁.heap -> (∀ b, H b ≠ none -> b = a) -> (H a ≠ none -> K.lookup a = none) →
     codeAny (model P w) callerA (.call (.ref fa) ⟨[.ref a], []⟩) (fun r s' => r = .ok (.ret (.bool true)) /\ OldK s₁.heap s'.heap /\ s'.os = s₁.os /\ AllBare s'.gens) s₁ := by
   intro H hO hS fS hA hK
   have P4 : ∀ {b : Addr} {o : Obj}, s₁.heap.get? b = some o -> H b = none -> (FP s₁.heap H).get? b = some o := fun e n => UO e n
   have noA : ∀ {b : Addr} {o : Obj} {es : Array DictEntry} {ep : Nat}, s₁.heap.get? b = some o -> o.data = .dict es ep -> H b = none := fun {b o es ep} e d => by
     cases q : H b with
     | none => rfl
     | some u =>
       have e' : b = a := hA b (by rw [q]; simp)
       subst e'
       rw [ha] at e; cases e
       have d' : Data.seq vs.toArray _ = Data.dict es ep := d
       cases d'
   have nsK : ∀ {b : Addr} {m : Str -> Option Value}, s₁.heap.Ns b m -> (FP s₁.heap H).Ns b m := fun {b m} ⟨o, es, ep, e, d, r⟩ => ⟨o, es, ep, P4 e (noA e d), d, r⟩
   have hKb : K.In (FP s₁.heap H) := fun b o e => P4 (KX b o e) (by
     cases q : H b with
     | none => rfl
     | some u =>
       have e' : b = a := hA b (by rw [q]; simp)
       subst e'
       rw [hK (by rw [q]; simp)] at e; cases e)
   have hM : Mod K mg (FP s₁.heap H) := ⟨hKb, nsK hns, ⟨mb, nsK hb, hbb⟩, let ⟨mc, h1, h2⟩ := ahS; ⟨mc, nsK h1, h2⟩⟩
   have e0 : L5 P w K mg (FP s₁.heap H) callerA [] s₁ H := ⟨rfl, hM, fun b o e => X8 e, Nat.le_of_eq (Rq _ _), trivial, fun b hb => absurd (show b ∈ ([] : List Addr) from hb) (by simp), fS, .of_eq hg⟩
   refine anv ((F _ hKb (nsK hns)).run callerA [] s₁ H ⟨[.ref a], []⟩ [.ref a] [.ref a] _ _ hr e0 (aeS s₁ (.ref a)) (.cons rfl .nil) (Vb H hO hS)) fun r s' h => ?_
   cases r with
   | error e => exact (hCX H e s' h).elim
   | ok fl =>
     cases fl with
     | next => exact False.elim h
     | brk => exact False.elim h
     | cont => exact False.elim h
     | ret u =>
       obtain ⟨v, H', os, bare, un, ahV, r', q⟩ := h
       have q' : v = .bl true := q
       subst q'
       obtain rfl : u = Value.bool true := r'
       refine ⟨rfl, OldK.of_keep fun b o e => ?_, os, bare⟩
       cases q : H b with
       | none => exact un.keep b o e q (by intro z; exact absurd (show b ∈ ([] : List Addr) from z) (by simp)) (by simp)
       | some u =>
         rcases hO b with z | ⟨ob, xs, z⟩
         . rw [q] at z; cases z
         . have z2 := un.gR b ob _ z
           obtain ⟨e1, _⟩ := fS b _ z
           obtain ⟨e2, _⟩ := ahV b _ z2
           rw [e] at e1; cases e1
           exact e2
 cases hk : K.lookup a with
 | some o =>
   have e := KX a o hk
   rw [ha] at e
   cases e
   refine core (fun _ => none) (fun _ => .inl rfl) (.inr ⟨_, vs.toArray, _, hk, rfl, rfl, rfl, by rw [List.size_toArray, ahU]; exact hl, by simpa using rv⟩) (fun b u z => by have z' : (none : Option HO) = some u := z; cases z') (fun b z => absurd rfl z) fun z => absurd rfl z
 | none =>
   refine core (fun b => if b = a then some (.iY { cls := .type "list", data := .seq vs.toArray } (.lst (ns.map V.int))) else none) (fun b => ?_) (.inl (.inr ⟨{ cls := .type "list", data := .seq vs.toArray }, alW rfl⟩)) (fun b u z => ?_) (fun b z => ?_) fun _ => hk
   . by_cases hb : b = a
     . exact .inr ⟨_, _, alW hb⟩
     . exact .inl (alT hb)
   . by_cases hb : b = a
     . have z' := (alW hb).symm.trans z
       cases z'
       subst hb
       exact ⟨ha, by rw [alR]; exact hl, vs, _, rv, ha⟩
     . have z' := (alT hb).symm.trans z
       cases z'
   . by_cases hb : b = a
     . exact hb
     . exact absurd (alT hb) z
theorem Yu {l : PySem.W.OpenLaw} {n k : Nat} {q : Program} {loose : List Str} {XP : (Str -> Option Value) -> Heap -> Prop} {YP : World -> Heap -> Prop} {d : DefRec} {K : Params -> PySem.W.Frag} {CX : World -> PY} {sp : World -> Sp} {x : Str}
   (hn : l.most = some n) (hn2 : n <= sizeLine) (hdf : d.params.defaults = []) (hr : jk k callerA)
   (hY : ∀ (w : World) (h : Heap), YP w h -> (K w.params).In h)
   (F : ∀ (w : World) (mg : Str -> Option Value) (fa : Addr) (h : Heap), (K w.params).In h -> h.Ns mainGlobals mg -> mg d.name = some (.ref fa) →
     ∃ fd : FuncData, (∀ (s : Shared) (u : Value), BindsTo s fd ⟨[u], []⟩ [(x, u)]) ∧
       ∀ base : Heap, (K w.params).In base -> base.Ns mainGlobals mg -> cJ l.prog w (K w.params) mg base (CX w) k fa fd [x] (sp w))
   (Vb : ∀ (w : World) (H : Hp) (a : Addr) (ns : List Int), ns.length <= n -> Only H -> rV (K w.params) H a (ns.map V.int) -> sp w [.ref a] H (fun v _ => v = .bl true) fun _ _ _ => False)
   (hCX : ∀ (w : World) (H : Hp) (s : Shared) (e : Value) (s' : Shared), CX w [] H s (fun _ _ _ => False) e s' -> False) :
   PySem.W.WalkO q loose XP YP l.row.toRowW d [] (fun f vs => PySem.call f vs) := by
 refine Att.IK hn hdf fun w s₀ s₁ mg mb fa o pm cd doc a vs ns G Y ho hd qo hmg abQ hints hlen hg => ?_
 have KX := hY w _ Y
 obtain ⟨fd, hb, hF⟩ := F w mg fa _ KX G.T.g hmg
 exact Vk KX G.T.g G.T.b G.T.builtins G.T.nolimit hg abQ hints (amS hlen hn2) hr hF hb (fun H hO hS => Vb w H a ns hlen hO hS) fun H e s' => hCX w H s₁ e s'
noncomputable def inClass (s : Stmt) (j : Nat) : Stmt := match s with
 | .ClassDef _ _ _ body _ _ _ _ _ _ _ => body.getD j (.Pass ⟨0, 0, 0, 0⟩)
 | _ => .Pass ⟨0, 0, 0, 0⟩
noncomputable def Ck (s : Stmt) : Arguments := match s with
 | .FunctionDef _ a _ _ _ _ _ _ _ _ => a
 | _ => { posonlyargs := [], args := [], vararg := none, kwonlyargs := [], kw_defaults := [], kwarg := none, defaults := [] }
noncomputable def iZ (s : Stmt) : List Stmt := match s with
 | .FunctionDef _ _ b _ _ _ _ _ _ _ => b
 | _ => []
noncomputable def aA (s : Stmt) : Scope := match s with
 | .FunctionDef _ _ _ _ _ _ sc _ _ _ => sc
 | _ => { kind := .function, names := [], isGenerator := false, isCoroutine := false }
noncomputable abbrev lF : PY := fun _ _ _ _ _ _ => False
noncomputable abbrev E0 : XK := fun _ _ _ => False
theorem P5 {X : Cx} : Passes lF X E0 := fun _ _ _ _ _ _ _ h => h.elim
structure nS (K : PySem.W.Frag) (x qual : Str) (st : Stmt) (f : Addr) (fd : FuncData) : Prop where
 ex : ∃ (oc : Value) (od : Option Addr) (kV doc pm : Value) (an : Option Addr) (gu ct : Value) (UI : Array (Option Value)),
   fd = PySem.W.fnOf x qual (Ck st) (iZ st) (aA st) .none kV doc pm an gu ct /\ K.lookup f = some ⟨oc, od, .func fd, UI⟩ /\ PySem.W.codeIn K gu qual = true
 kp : PySem.W.keepIn K (.ref f) = true
section
variable {P : Program} {w : World} {K : PySem.W.Frag} {mg : Str -> Option Value} {base : Heap}
theorem nS.ok {x qual : Str} {st : Stmt} {f : Addr} {fd : FuncData} {N ps : List Str} {k : Nat} {sp : Sp} (F : nS K x qual st f fd) (S : aT N ps (aA st)) (len : ∀ vs H Q E, sp vs H Q E -> vs.length = ps.length)
   (Va : ∀ (gu : Value) (A : Around) (outer : List Env) (s : Shared) (H : Hp) (vs : List V) (Q : VK) (E : XK), jk k (A.deeper (envOfC qual (aA st) s.heap.objs.size f gu)) -> sp vs H Q E →
     ∃ t, PJ (EW lF P w K mg base N qual (aA st) f gu A outer s H E).nox (iZ st) t /\ t { nx := fun _ H' => Q .non H', rt := Q } (start N vs) H) : cJ P w K mg base lF (k + 1) f fd ps sp := by
 obtain ⟨oc, od, kV, doc, pm, an, gu, ct, UI, rfl, lk, qo⟩ := F.ex
 refine aau lk qo S len fun A outer s H vs Q E hr Vb => ?_
 obtain ⟨t, h, q⟩ := Va gu A outer s H vs Q E hr Vb
 exact ⟨t, h.nox, q⟩
theorem nS.binds {x qual : Str} {st : Stmt} {f : Addr} {fd : FuncData} {ps : List Str} (F : nS K x qual st f fd)
   (h : ∀ (kV doc pm : Value) (an : Option Addr) (gu ct : Value) (us : List Value), us.length = ps.length -> bindArgs (PySem.W.fnOf x qual (Ck st) (iZ st) (aA st) .none kV doc pm an gu ct) ⟨us, []⟩ = pure (ps.zip us)) : Binds K fd ps [] := by
 obtain ⟨oc, od, kV, doc, pm, an, gu, ct, UI, rfl, lk, qo⟩ := F.ex
 exact .all (h kV doc pm an gu ct)
theorem bN {x qual : Str} {st : Stmt} {f : Addr} {oc : Value} {od an : Option Addr} {UI : Array (Option Value)} {kV doc pm gu ct : Value} (l : K.lookup f = some ⟨oc, od, .func (PySem.W.fnOf x qual (Ck st) (iZ st) (aA st) .none kV doc pm an gu ct), UI⟩)
   (c : PySem.W.codeIn K gu qual = true) (k : PySem.W.keepIn K (.ref f) = true) : nS K x qual st f (PySem.W.fnOf x qual (Ck st) (iZ st) (aA st) .none kV doc pm an gu ct) := ⟨⟨oc, od, kV, doc, pm, an, gu, ct, UI, rfl, l, c⟩, k⟩
end
theorem bE {n : Nat} (h : n <= 1000) : n < sizeLine := anB h (by decide)
section
variable {X : Cx}
end
theorem Mf {A B : Prop} (h : B) : if false = true then A else B := by
 rw [alT amc]
 exact h
theorem Mg {A B : Prop} (h : A) : if true = true then A else B := by
 rw [alW rfl]
 exact h
noncomputable def aM (H H' : Hp) : Prop := ∀ b o, H b = some o -> H' b = some o
theorem aM.refl (H : Hp) : aM H H := fun _ _ h => h
theorem aM.trans {H H1 H2 : Hp} (a : aM H H1) (b : aM H1 H2) : aM H H2 := fun c o h => b c o (a c o h)
theorem aM.free {H H' : Hp} (e : aM H H') {l : Addr} (h : H' l = Option.none) : H l = Option.none := by
 cases q : H l with
 | none => rfl
 | some o =>
   rw [e l o q] at h
   cases h
theorem aM.seq {K : PySem.W.Frag} {H H' : Hp} {a : Addr} {xs : List V} (e : aM H H') (h : rV K H a xs) : rV K H' a xs := by
 rcases h with (h | ⟨o, h⟩) | h
 . exact .inl (.inl (e _ _ h))
 . exact .inl (.inr ⟨o, e _ _ h⟩)
 . exact .inr h
section
variable {κ : Type} [DecidableEq κ]
noncomputable def vF (bH : List (κ × V)) (k : κ) : Option V := (bH.find? fun kv => decide (kv.1 = k)).map (·.2)
noncomputable def putK (bH : List (κ × V)) (k : κ) (v : V) : List (κ × V) :=
 if (bH.any fun kv => decide (kv.1 = k)) = true then bH.map (fun kv => if kv.1 = k then (kv.1, v) else kv) else bH ++ [(k, v)]
theorem xS {p : κ × V} {r : List (κ × V)} {k : κ} (e : p.1 = k) : vF (p :: r) k = some p.2 := by simp [vF, anh, e]
theorem sF {p : κ × V} {r : List (κ × V)} {k : κ} (e : ¬ p.1 = k) : vF (p :: r) k = vF r k := by simp [vF, anh, e]
theorem IL (k : κ) : ∀ bH : List (κ × V), (bH.any fun kv => decide (kv.1 = k)) = (vF bH k).isSome
 | [] => rfl
 | p :: r => by
   rw [am3]
   by_cases e : p.1 = k
   . simp only [xS e, alV e, Bool.true_or, Option.isSome_some]
   . rw [sF e, alS e, Bool.false_or]; exact IL k r
theorem A9 (bH : List (κ × V)) (k : κ) (v : V) : (putK bH k v).length <= bH.length + 1 := by
 unfold putK
 split
 . rw [alR]; omega
 . rw [amM, amT, List.length_nil]; omega
theorem CV.zH {o : Option V} {u : Option Value} (r : CV o u) : o.isSome = u.isSome := by
 cases o with
 | none => cases u with
   | none => rfl
   | some _ => exact (show False from r).elim
 | some _ => cases u with
   | none => exact (show False from r).elim
   | some _ => rfl
theorem KV.val {bH : List (κ × V)} {vs : List (κ × Value)} (r : KV bH vs) (k : κ) : CV (vF bH k) (valueAt vs k) := by
 unfold KV at r
 induction r with
 | nil => exact True.intro
 | @cons p q ps qs h t ih =>
   obtain ⟨h1, h2⟩ := h
   by_cases e : p.1 = k
   . have e' : q.1 = k := h1.symm.trans e
     have b : valueAt (q :: qs) k = some q.2 := by simp [valueAt, anh, e']
     rw [xS e, b]; exact h2
   . have e' : ¬ q.1 = k := fun z => e (h1.trans z)
     have b : valueAt (q :: qs) k = valueAt qs k := by simp [valueAt, anh, e']
     rw [sF e, b]; exact ih
theorem KV.any {bH : List (κ × V)} {vs : List (κ × Value)} (r : KV bH vs) (k : κ) : (bH.any fun kv => decide (kv.1 = k)) = vs.any fun kv => decide (kv.1 = k) := by
 unfold KV at r
 induction r with
 | nil => rfl
 | cons h t ih => rw [am3, am3, ih, h.1]
theorem KV.repl {bH : List (κ × V)} {vs : List (κ × Value)} (r : KV bH vs) (k : κ) {y : V} {u : Value} (ry : RelV y u) :
   KV (bH.map fun kv => if kv.1 = k then (kv.1, y) else kv) (vs.map fun kv => if kv.1 = k then (kv.1, u) else kv) := by
 unfold KV at r ⊢
 induction r with
 | nil => exact .nil
 | @cons p q ps qs h t ih =>
   rw [amh, amh]
   refine .cons ?_ ih
   obtain ⟨h1, h2⟩ := h
   by_cases e : p.1 = k
   . rw [alW e, alW (h1.symm.trans e)]; exact ⟨h1, ry⟩
   . rw [alT e, alT (fun z => e (h1.trans z))]; exact ⟨h1, h2⟩
theorem KV.put {bH : List (κ × V)} {vs : List (κ × Value)} (r : KV bH vs) (k : κ) {y : V} {u : Value} (ry : RelV y u) : KV (putK bH k y) (stored vs k u) := by
 unfold putK stored
 rw [r.any k]
 by_cases e : (vs.any fun kv => decide (kv.1 = k)) = true
 . rw [alW e, alW e]; exact r.repl k ry
 . rw [alT e, alT e]; exact Paired.snoc r ⟨rfl, ry⟩
theorem KV.length {bH : List (κ × V)} {vs : List (κ × Value)} (r : KV bH vs) : bH.length = vs.length := Paired.length r
end
theorem Vl {P : Program} {w : World} {k : Key} {u : Value} (r : RelV (kV k) u) : (iX P w).is k u = true := by
 cases k with
 | inl i => obtain ⟨t, e⟩ := (show ∃ t, u = Value.int i t from r); subst e; exact Im P w i t
 | inr x => obtain ⟨t, e⟩ := (show ∃ t, u = Value.str x t from r); subst e; exact Io P w x t
theorem Fo {P : Program} {w : World} : ∀ {ks : List Key} {us : List Value}, Vals (ks.map kV) us -> ItemsAre (iX P w) ks us
 | [], _, r => by rw [anw] at r; cases r; exact .nil
 | k :: ks, _, r => by
   rw [amh] at r
   cases r with
   | cons h t => exact .cons (Vl h) (Fo t)
noncomputable abbrev KT (H : Hp) : List (List Key × V) -> List (List Key × Addr × Value) -> Prop := Paired fun p q => p.1 = q.1 /\ H q.2.1 = some (.tup (p.1.map kV)) /\ RelV p.2 q.2.2
theorem KT.val {H : Hp} {bH : List (List Key × V)} {xs : List (List Key × Addr × Value)} (r : KT H bH xs) (k : List Key) : CV (vF bH k) ((atKey xs k).map (·.2)) := by
 induction r with
 | nil => exact True.intro
 | @cons p q ps qs h t ih =>
   obtain ⟨h1, _, h2⟩ := h
   by_cases e : p.1 = k
   . have e' : q.1 = k := h1.symm.trans e
     have b : atKey (q :: qs) k = some q.2 := by simp [atKey, anh, e']
     rw [xS e, b]; exact h2
   . have e' : ¬ q.1 = k := fun z => e (h1.trans z)
     have b : atKey (q :: qs) k = atKey qs k := by simp [atKey, anh, e']
     rw [sF e, b]; exact ih
theorem KT.repl {H : Hp} {bH : List (List Key × V)} {xs : List (List Key × Addr × Value)} (r : KT H bH xs) (k : List Key) {y : V} {u : Value} (ry : RelV y u) :
   KT H (bH.map fun kv => if kv.1 = k then (kv.1, y) else kv) (xs.map (putAt k u)) := by
 induction r with
 | nil => exact .nil
 | @cons p q ps qs h t ih =>
   rw [amh, amh]
   refine .cons ?_ ih
   obtain ⟨h1, h2, h3⟩ := h
   unfold putAt
   by_cases e : p.1 = k
   . rw [alW e, alW (h1.symm.trans e)]; exact ⟨h1, h2, ry⟩
   . rw [alT e, alT (fun z => e (h1.trans z))]; exact ⟨h1, h2, h3⟩
theorem KT.put {H : Hp} {bH : List (List Key × V)} {xs : List (List Key × Addr × Value)} (r : KT H bH xs) (k : List Key) {b : Addr} {y : V} {u : Value} (hb : H b = some (.tup (k.map kV))) (ry : RelV y u) :
   KT H (putK bH k y) (storedH xs k b u) := by
 have e : (bH.any fun kv => decide (kv.1 = k)) = (atKey xs k).isSome := by
   rw [IL, (r.val k).zH, Option.isSome_map]
 unfold putK storedH
 rw [e]
 by_cases q : (atKey xs k).isSome = true
 . rw [alW q, alW q]; exact r.repl k ry
 . rw [alT q, alT q]; exact Paired.snoc r ⟨rfl, hb, ry⟩
theorem KT.keeps {H H' : Hp} {bH : List (List Key × V)} {xs : List (List Key × Addr × Value)} (r : KT H bH xs) (ht : ∀ b ys, H b = some (.tup ys) -> H' b = some (.tup ys)) : KT H' bH xs :=
 Paired.aa7 r fun _ _ z => ⟨z.1, ht _ _ z.2.1, z.2.2⟩
section
variable {P : Program} {w : World} {H : Hp} {h : Heap} {a : Addr}
theorem aaw {u : HO} (ok : uz P w H h) (e : Rd H a u) : iL P w H h a u := e.ok ok
theorem aax {bH : List (Key × V)} (ok : uz P w H h) (e : Rd H a (.dK bH)) : bH.length <= sizeLine /\ (a == sysModules) = false /\ ∃ vs, KV bH vs /\ h.DictOf (iX P w) a vs :=
 show iL P w H h a (.dK bH) from aaw ok e
theorem aeT {bH : List (Key × V)} (ok : uz P w H h) (e : H a = some (.dK bH)) : bH.length <= sizeLine /\ (a == sysModules) = false /\ ∃ vs, KV bH vs /\ h.DictOf (iX P w) a vs := aax ok (.inl e)
theorem Mh {ks : List Key} (ok : uz P w H h) (e : H a = some (.tup (ks.map kV))) : (tupleKind (iX P w)).is h ks a := by
 obtain ⟨_, its, r, o, h1, h2, n, h3⟩ := (show iL P w H h a (.tup (ks.map kV)) from ok a _ e)
 exact ⟨o, its.toArray, n, h1, h2, h3, by simpa using Fo r⟩
theorem aay {bH : List (List Key × V)} (ok : uz P w H h) (e : Rd H a (.dT bH)) : bH.length <= sizeLine /\ (a == sysModules) = false ∧
   ∃ xs, KT H bH xs /\ h.DictOfH (tupleKind (iX P w)) a xs := by
 obtain ⟨z, y, xs, r, o, es, ep, h1, h2, h3, h4, h5⟩ := (show iL P w H h a (.dT bH) from aaw ok e)
 refine ⟨z, y, xs, r, o, es, ep, h1, h2, h3, h4, fun x hx => ?_, h5⟩
 have all : ∀ {l : List (List Key × V)} {m : List (List Key × Addr × Value)}, KT H l m -> ∀ x ∈ m, (tupleKind (iX P w)).is h x.1 x.2.1 := by
   intro l m q
   induction q with
   | nil => intro x hx; exact nomatch hx
   | @cons p q ps qs hq t ih =>
     intro x hx
     rcases al6.mp hx with e | hx
     . subst e
       exact Mh ok (by rw [← hq.1]; exact hq.2.1)
     . exact ih x hx
 exact all r x hx
theorem aeU {bH : List (List Key × V)} (ok : uz P w H h) (e : H a = some (.dT bH)) : bH.length <= sizeLine /\ (a == sysModules) = false ∧
   ∃ xs, KT H bH xs /\ h.DictOfH (tupleKind (iX P w)) a xs := aay ok (.inl e)
end
noncomputable def Vm (H : Hp) (a : Addr) (y : V) (r : Option V) : Prop :=
 (∃ bH k, Rd H a (.dK bH) /\ y = kV k /\ r = vF bH k) \/ ∃ bH k b, Rd H a (.dT bH) /\ y = .ref b /\ H b = some (.tup (k.map kV)) /\ r = vF bH k
noncomputable def Vo (H : Hp) (a : Addr) (y v : V) (H' : Hp) : Prop :=
 (∃ bH k, H a = some (.dK bH) /\ y = kV k /\ bH.length < sizeLine /\ H' = upd H a (.dK (putK bH k v))) ∨
 ∃ bH k b, H a = some (.dT bH) /\ y = .ref b /\ H b = some (.tup (k.map kV)) /\ bH.length < sizeLine /\ H' = upd H a (.dT (putK bH k v))
theorem Vm.k {H : Hp} {a : Addr} {bH : List (Key × V)} {k : Key} (e : H a = some (.dK bH)) : Vm H a (kV k) (vF bH k) := .inl ⟨bH, k, .inl e, rfl, rfl⟩
theorem Vo.k {H : Hp} {a : Addr} {bH : List (Key × V)} {k : Key} {v : V} (e : H a = some (.dK bH)) (hl : bH.length < sizeLine) : Vo H a (kV k) v (upd H a (.dK (putK bH k v))) := .inl ⟨bH, k, e, rfl, hl, rfl⟩
section
variable {X : Cx} {pins : List (Addr × Obj)} {σ : St} {H : Hp} {s : Shared} {a : Addr} {y v : V} {u r : Value} {o : Option V} {A : Around} {E : Value -> Shared -> Prop}
theorem Inv.big (I : Inv X pins σ H s) : sysModules < s.heap.objs.size := by
 have h : mainGlobals < s.heap.objs.size := (I.mod.glob.keeps I.bk).lt
 exact Nat.lt_trans (by decide) h
theorem ahW {Q : Value -> Shared -> Prop} (hu : A.units + 1 < cLine) (I : Inv X pins σ H s) (g : Vm H a y o) (ry : RelV y u) (h : ∀ s', Inv X pins σ H s' -> Q (.bool o.isSome) s') :
   wpAny (model X.prog X.w) A (compareOp .In u (.ref a)) Q E s := by
 rcases g with ⟨bH, k, e, ey, l⟩ | ⟨bH, k, b, e, ey, eb, l⟩
 . subst ey
   obtain ⟨z, hd, vs, rel, dd⟩ := aax I.fS e
   refine wpAny_in_of (Vl ry) hd dd.mapOf ?_
   rw [← (rel.val k).zH, ← l]
   exact h _ (I.tok _)
 . subst ey
   cases (show u = Value.ref b from ry)
   obtain ⟨z, hd, xs, rel, dd⟩ := aay I.fS e
   refine wpAny_in_heap (tupleKind_room_in1 hu) (Mh I.fS eb) hd dd ?_
   have q := (rel.val k).zH
   rw [Option.isSome_map] at q
   rw [← q, ← l]
   exact h _ (I.tok _)
theorem P6 {h' : Heap} {t' : Nat} {ob : HO} (I : Inv X pins σ H s) (mu : Mut (H a)) (hs : Heap.SameBut a s.heap h') (he : ∃ q, h'.get? a = some q) (new : iL X.prog X.w (upd H a ob) h' a ob) :
   Inv X pins σ (upd H a ob) { s with heap := h', toks := t' } :=
 I.write (x := a) (e := a) mu (.inl rfl) (fun b q hb z => (hs.2 b hb).trans z) he new
theorem abR {P : Program} {w : World} {H' : Hp} {h' : Heap} {bH : List (Key × V)} {vs : List (Key × Value)} (z : bH.length <= sizeLine) (hd : (a == sysModules) = false) (rel : KV bH vs) (dd : h'.DictOf (iX P w) a vs) :
   iL P w H' h' a (.dK bH) := ⟨z, hd, vs, rel, dd⟩
theorem RQ {H' : Hp} {Q : Unit -> Shared -> Prop} (hu : A.units + 1 < cLine) (I : Inv X pins σ H s) (g : Vo H a y v H') (ry : RelV y u) (rv : RelV v r) (h : ∀ s', Inv X pins σ H' s' -> Q () s') :
   wpAny (model X.prog X.w) A (setItem (.ref a) u r) Q E s := by
 rcases g with ⟨bH, k, e, ey, l, eH⟩ | ⟨bH, k, b, e, ey, eb, l, eH⟩
 . subst ey eH
   obtain ⟨z, hd, vs, rel, dd⟩ := aeT I.fS e
   have hz : vs.length <= sizeLine := by rw [← rel.length]; exact z
   have hl : (putK bH k v).length <= sizeLine := by have := A9 bH k v; omega
   refine wpAny_setItem_pairs (hsz := hz) (Vl ry) dd fun h' dd' hs => h _ ?_
   have he : ∃ q, h'.get? a = some q := let ⟨q, _, _, hq, _⟩ := dd'; ⟨q, hq⟩
   exact P6 I (by rw [e]; exact True.intro) hs he (abR hl hd (rel.put k rv) dd')
 . subst ey eH
   cases (show u = Value.ref b from ry)
   obtain ⟨z, hd, xs, rel, dd⟩ := aeU I.fS e
   have hz : xs.length <= sizeLine := by rw [← Paired.length rel]; exact z
   have hl : (putK bH k v).length <= sizeLine := by have := A9 bH k v; omega
   refine wpAny_setItem_heap (hsz := hz) (tupleKind_room_in1 hu) (Mh I.fS eb) dd fun h' dd' hs => h _ ?_
   obtain ⟨q, es, ep, hq, h2, h3, h4, _, h5⟩ := dd'
   refine P6 I (by rw [e]; exact True.intro) hs ⟨q, hq⟩ ⟨hl, hd, _, (rel.put k eb rv).keeps fun c ys ec => ?_, q, es, ep, hq, h2, h3, h4, h5⟩
   rw [aK (aee ec e (fun z => nomatch z))]
   exact ec
end
section
variable {X : Cx} {pins : List (Addr × Obj)} {σ : St} {H : Hp} {s : Shared} {a : Addr} {bH : List (Key × V)} {k : Key} {u : Value} {A : Around} {E : Value -> Shared -> Prop}
end
noncomputable def ahX (ty td : TE) : TE := fun σ H Q => ty σ H fun y H1 => td σ H1 fun x H2 => ∃ a o, x = .ref a /\ Vm H2 a y o /\ Q (.bl o.isSome) H2
noncomputable def aeV (td ty tv : TE) : TS := fun D σ H => tv σ H fun v H1 => td σ H1 fun x H2 => ty σ H2 fun y H3 => ∃ a H4, x = .ref a /\ Vo H3 a y v H4 /\ D.nx σ H4
section
variable {X : Cx} {o i e value : Expr} {pos pos' ahF : Pos} {td ty tv : TE}
theorem abS (hu : X.A.units + 1 < cLine) (hi : PE X i ty) (ho : PE X o td) : PC X .In i o (ahX ty td) := by
 intro pins s σ H Q I h
 refine fk (hi pins s σ H _ I h) fun iv s1 ⟨y, H1, I1, ry, q1⟩ => fk (ho pins s1 σ H1 _ I1 q1) fun u s2 zz => ?_
 obtain ⟨x, H2, I2, rx, a, ov, ex, g, q2⟩ := zz
 subst ex
 obtain rfl : u = Value.ref a := rx
 exact ahW hu I2 g ry fun s3 I3 => ⟨.bl ov.isSome, H2, I3, rfl, q2⟩
theorem Yv (hu : X.A.units + 1 < cLine) (ho : PE X o td) (hi : PE X i ty) (hv : PE X value tv) (hs : swapsWith value (some (.Subscript o i pos')) pos.line X.env = pure false) :
   PS X (.Assign [.Subscript o i pos'] value pos) (aeV td ty tv) := by
 intro pins s σ H D I h
 refine wpAny_Assign_Subscript (fk (hv pins s σ H _ I h) fun r s1 ⟨v, H1, I1, rv, q1⟩ => fk (ho pins s1 σ H1 _ I1 q1) fun u s2 ⟨x, H2, I2, rx, q2⟩ => fk (hi pins s2 σ H2 _ I2 q2) fun iv s3 zz => ?_) hs
 obtain ⟨y, H3, I3, ry, a, H4, ex, g, q3⟩ := zz
 subst ex
 obtain rfl : u = Value.ref a := rx
 exact RQ hu I3 g ry rv fun s4 I4 => ⟨σ, H4, I4, q3⟩
end
theorem Vp {P : Program} {w : World} {H : Hp} (h : Heap) (hb : sysModules < h.objs.size) : iL P w H (h.push { cls := .type "dict", data := .dict #[] }) h.objs.size (.dK []) :=
 ⟨amu _, ank.mpr (ani (amA hb)), [], .nil, Heap.DictOf.new h⟩
noncomputable def abT : TE := fun _ H Q => ∀ p, H p = none -> Q (.ref p) (upd H p (.dK []))
section
variable {X : Cx} {pos : Pos}
theorem Vq : PE X (.Dict [] [] pos) abT := fun pins s σ H Q I h =>
 wpAny_Dict_empty ⟨.ref s.heap.objs.size, _, I.laid (a := s.heap.objs.size) (o := .dK []) (t' := s.toks) (fun _ _ q => al8 _ q) (al9 _) (Vp s.heap I.big), rfl, h _ (I.fS.fresh (al9 _))⟩
end
section
variable {X : Cx} {pins : List (Addr × Obj)} {σ : St} {H : Hp} {s : Shared} {a : Addr} {y d : V} {u r : Value} {o : Option V} {A : Around} {E : Value -> Shared -> Prop}
end
section
variable {X : Cx} {o e f : Expr} {apos xR : Pos} {td ty tx : TE}
end
section
variable {X : Cx} {pins : List (Addr × Obj)} {σ : St} {H : Hp} {s : Shared} {a : Addr} {bH : List (Key × V)} {A : Around} {E : Value -> Shared -> Prop}
end
section
variable {X : Cx} {pins : List (Addr × Obj)} {σ : St} {H : Hp} {s : Shared} {a : Addr} {y : V} {u : Value} {A : Around} {E : Value -> Shared -> Prop}
end
end L2
namespace L3
open PySem PySem.Spec PyProof.Rows L2
inductive D where
 | non | bl (b : Bool) | int (i : Int) | str (x : Str)
 | tup (ds : List D) | lst (ds : List D) | ins (c : Str) (fs : List (Str × D)) | ve (bH : List (Key × D))
 | dct (bH : List (List Key × D))
 | any
 | val (v : V)
inductive T where
 | sh (d : D) | tup (ts : List T) | lst (ts : List T) | ins (c : Str) (fs : List (Str × T)) | ve (bH : List (Key × D)) | dct (bH : List (List Key × T))
 | pin (x : Addr) (t : T)
mutual
noncomputable def T.iY : T -> D
 | .sh d => d
 | .tup ts => .tup (gR ts)
 | .lst ts => .lst (gR ts)
 | .ins c fs => .ins c (vf fs)
 | .ve bH => .ve bH
 | .dct bH => .dct (Vr bH)
 | .pin _ t => t.iY
noncomputable def T.gR : List T -> List D
 | [] => []
 | t :: ts => t.iY :: T.gR ts
noncomputable def T.vf : List (Str × T) -> List (Str × D)
 | [] => []
 | (x, t) :: fs => (x, t.iY) :: T.vf fs
noncomputable def T.Vr : List (List Key × T) -> List (List Key × D)
 | [] => []
 | (x, t) :: fs => (x, t.iY) :: T.Vr fs
end
variable (K : PySem.W.Frag) (CL : Str -> Addr)
mutual
inductive bS (Z : Hp) : D -> V -> Prop where
 | non : bS Z .non .non
 | bl (b : Bool) : bS Z (.bl b) (.bl b)
 | int (i : Int) : bS Z (.int i) (.int i)
 | str (x : Str) : bS Z (.str x) (.str x)
 | any (v : V) : bS Z .any v
 | val (v : V) : bS Z (.val v) v
 | tup {a : Addr} {vs : List V} {ds : List D} : Bw K Z a vs -> aL Z ds vs -> bS Z (.tup ds) (.ref a)
 | lst {a : Addr} {vs : List V} {ds : List D} : rV K Z a vs -> aL Z ds vs -> bS Z (.lst ds) (.ref a)
 | ins {a dx : Addr} {c : Str} {gs : List (Str × V)} {fs : List (Str × D)} : Z a = some (.ins (CL c) dx gs) -> vn Z fs gs -> bS Z (.ins c fs) (.ref a)
 | ve {a : Addr} {gs : List (Key × V)} {fs : List (Key × D)} : Z a = some (.dK gs) -> cg Z fs gs -> bS Z (.ve fs) (.ref a)
 | dct {a : Addr} {gs : List (List Key × V)} {fs : List (List Key × D)} : Z a = some (.dT gs) -> C2 Z fs gs -> bS Z (.dct fs) (.ref a)
inductive aL (Z : Hp) : List D -> List V -> Prop where
 | nil : aL Z [] []
 | cons {d : D} {v : V} {ds : List D} {vs : List V} : bS Z d v -> aL Z ds vs -> aL Z (d :: ds) (v :: vs)
inductive vn (Z : Hp) : List (Str × D) -> List (Str × V) -> Prop where
 | nil : vn Z [] []
 | cons {x : Str} {d : D} {v : V} {ds : List (Str × D)} {vs : List (Str × V)} : bS Z d v -> vn Z ds vs -> vn Z ((x, d) :: ds) ((x, v) :: vs)
inductive cg (Z : Hp) : List (Key × D) -> List (Key × V) -> Prop where
 | nil : cg Z [] []
 | cons {x : Key} {d : D} {v : V} {ds : List (Key × D)} {vs : List (Key × V)} : bS Z d v -> cg Z ds vs -> cg Z ((x, d) :: ds) ((x, v) :: vs)
inductive C2 (Z : Hp) : List (List Key × D) -> List (List Key × V) -> Prop where
 | nil : C2 Z [] []
 | cons {x : List Key} {d : D} {v : V} {ds : List (List Key × D)} {vs : List (List Key × V)} : bS Z d v -> C2 Z ds vs -> C2 Z ((x, d) :: ds) ((x, v) :: vs)
end
mutual
inductive dN (H Z : Hp) : T -> V -> List Addr -> Prop where
 | sh {d : D} {v : V} : bS K CL Z d v -> dN H Z (.sh d) v []
 | tup {a : Addr} {vs : List V} {ts : List T} {fp : List Addr} : Z a = some (.tup vs) -> aZ H Z ts vs fp -> dN H Z (.tup ts) (.ref a) fp
 | lst {a : Addr} {vs : List V} {ts : List T} {fp : List Addr} : H a = some (.lst vs) -> aZ H Z ts vs fp -> dN H Z (.lst ts) (.ref a) (a :: fp)
 | ins {a dx : Addr} {c : Str} {gs : List (Str × V)} {fs : List (Str × T)} {fp : List Addr} : H a = some (.ins (CL c) dx gs) -> fq H Z fs gs fp -> dN H Z (.ins c fs) (.ref a) (a :: fp)
 | ve {a : Addr} {gs : List (Key × V)} {bH : List (Key × D)} : H a = some (.dK gs) -> cg K CL Z bH gs -> dN H Z (.ve bH) (.ref a) [a]
 | dct {a : Addr} {gs : List (List Key × V)} {bH : List (List Key × T)} {fp : List Addr} : H a = some (.dT gs) -> Ba H Z bH gs fp -> dN H Z (.dct bH) (.ref a) (a :: fp)
 | pin {x : Addr} {t : T} {fp : List Addr} : dN H Z t (.ref x) fp -> dN H Z (.pin x t) (.ref x) fp
inductive aZ (H Z : Hp) : List T -> List V -> List Addr -> Prop where
 | nil : aZ H Z [] [] []
 | cons {t : T} {v : V} {ts : List T} {vs : List V} {fp gp : List Addr} : dN H Z t v fp -> aZ H Z ts vs gp -> aZ H Z (t :: ts) (v :: vs) (fp ++ gp)
inductive fq (H Z : Hp) : List (Str × T) -> List (Str × V) -> List Addr -> Prop where
 | nil : fq H Z [] [] []
 | cons {x : Str} {t : T} {v : V} {ts : List (Str × T)} {vs : List (Str × V)} {fp gp : List Addr} : dN H Z t v fp -> fq H Z ts vs gp -> fq H Z ((x, t) :: ts) ((x, v) :: vs) (fp ++ gp)
inductive Ba (H Z : Hp) : List (List Key × T) -> List (List Key × V) -> List Addr -> Prop where
 | nil : Ba H Z [] [] []
 | cons {x : List Key} {t : T} {v : V} {ts : List (List Key × T)} {vs : List (List Key × V)} {fp gp : List Addr} : dN H Z t v fp -> Ba H Z ts vs gp -> Ba H Z ((x, t) :: ts) ((x, v) :: vs) (fp ++ gp)
end
inductive i6 (H Z : Hp) : List (Option T) -> L2.St -> List Addr -> Prop where
 | nil : i6 H Z [] [] []
 | skip {o : Option V} {δ : List (Option T)} {σ : L2.St} {fp : List Addr} : i6 H Z δ σ fp -> i6 H Z (none :: δ) (o :: σ) fp
 | cons {t : T} {v : V} {δ : List (Option T)} {σ : L2.St} {fp gp : List Addr} : dN K CL H Z t v fp -> i6 H Z δ σ gp -> i6 H Z (some t :: δ) (some v :: σ) (fp ++ gp)
section
variable {K : PySem.W.Frag} {CL : Str -> Addr}
theorem aM.sqT {H H' : Hp} {a : Addr} {xs : List V} (e : aM H H') (h : Bw K H a xs) : Bw K H' a xs := by
 rcases h with (h | ⟨o, h⟩) | h
 . exact .inl (.inl (e _ _ h))
 . exact .inl (.inr ⟨o, e _ _ h⟩)
 . exact .inr h
theorem bS.mono {Z Z' : Hp} (e : aM Z Z') {d : D} {v : V} (h : bS K CL Z d v) : bS K CL Z' d v :=
 bS.rec (motive_1 := fun d v _ => bS K CL Z' d v) (motive_2 := fun d v _ => aL K CL Z' d v) (motive_3 := fun d v _ => vn K CL Z' d v) (motive_4 := fun d v _ => cg K CL Z' d v) (motive_5 := fun d v _ => C2 K CL Z' d v)
   .non .bl .int .str .any .val (fun h _ r => .tup (aM.sqT e h) r) (fun h _ r => .lst (e.seq h) r) (fun h _ r => .ins (e _ _ h) r) (fun h _ r => .ve (e _ _ h) r) (fun h _ r => .dct (e _ _ h) r) .nil (fun _ _ h r => .cons h r) .nil (fun _ _ h r => .cons h r) .nil (fun _ _ h r => .cons h r) .nil (fun _ _ h r => .cons h r) h
theorem cg.mono {Z Z' : Hp} (e : aM Z Z') {d : List (Key × D)} {v : List (Key × V)} (h : cg K CL Z d v) : cg K CL Z' d v :=
 cg.rec (motive_1 := fun d v _ => bS K CL Z' d v) (motive_2 := fun d v _ => aL K CL Z' d v) (motive_3 := fun d v _ => vn K CL Z' d v) (motive_4 := fun d v _ => cg K CL Z' d v) (motive_5 := fun d v _ => C2 K CL Z' d v)
   .non .bl .int .str .any .val (fun h _ r => .tup (aM.sqT e h) r) (fun h _ r => .lst (e.seq h) r) (fun h _ r => .ins (e _ _ h) r) (fun h _ r => .ve (e _ _ h) r) (fun h _ r => .dct (e _ _ h) r) .nil (fun _ _ h r => .cons h r) .nil (fun _ _ h r => .cons h r) .nil (fun _ _ h r => .cons h r) .nil (fun _ _ h r => .cons h r) h
theorem dN.mono {H H' Z Z' : Hp} (e : aM Z Z') {t : T} {v : V} {fp : List Addr} (k : ∀ a ∈ fp, H' a = H a) (h : dN K CL H Z t v fp) : dN K CL H' Z' t v fp :=
 dN.rec (motive_1 := fun t v fp _ => (∀ a ∈ fp, H' a = H a) -> dN K CL H' Z' t v fp) (motive_2 := fun t v fp _ => (∀ a ∈ fp, H' a = H a) -> aZ K CL H' Z' t v fp) (motive_3 := fun t v fp _ => (∀ a ∈ fp, H' a = H a) -> fq K CL H' Z' t v fp) (motive_4 := fun t v fp _ => (∀ a ∈ fp, H' a = H a) -> Ba K CL H' Z' t v fp)
   (fun h _ => .sh (h.mono e)) (fun h _ r k => .tup (e _ _ h) (r k)) (fun h _ r k => .lst ((k _ al0).trans h) (r fun a ha => k a (al3 _ ha))) (fun h _ r k => .ins ((k _ al0).trans h) (r fun a ha => k a (al3 _ ha))) (fun h f k => .ve ((k _ al0).trans h) (cg.mono e f)) (fun h _ r k => .dct ((k _ al0).trans h) (r fun a ha => k a (al3 _ ha))) (fun _ r k => .pin (r k)) (fun _ => .nil) (fun _ _ h r k => .cons (h fun a ha => k a (al4 _ ha)) (r fun a ha => k a (alU _ ha))) (fun _ => .nil) (fun _ _ h r k => .cons (h fun a ha => k a (al4 _ ha)) (r fun a ha => k a (alU _ ha))) (fun _ => .nil) (fun _ _ h r k => .cons (h fun a ha => k a (al4 _ ha)) (r fun a ha => k a (alU _ ha))) h k
theorem aZ.mono {H H' Z Z' : Hp} (e : aM Z Z') {t : List T} {v : List V} {fp : List Addr} (k : ∀ a ∈ fp, H' a = H a) (h : aZ K CL H Z t v fp) : aZ K CL H' Z' t v fp :=
 aZ.rec (motive_1 := fun t v fp _ => (∀ a ∈ fp, H' a = H a) -> dN K CL H' Z' t v fp) (motive_2 := fun t v fp _ => (∀ a ∈ fp, H' a = H a) -> aZ K CL H' Z' t v fp) (motive_3 := fun t v fp _ => (∀ a ∈ fp, H' a = H a) -> fq K CL H' Z' t v fp) (motive_4 := fun t v fp _ => (∀ a ∈ fp, H' a = H a) -> Ba K CL H' Z' t v fp)
   (fun h _ => .sh (h.mono e)) (fun h _ r k => .tup (e _ _ h) (r k)) (fun h _ r k => .lst ((k _ al0).trans h) (r fun a ha => k a (al3 _ ha))) (fun h _ r k => .ins ((k _ al0).trans h) (r fun a ha => k a (al3 _ ha))) (fun h f k => .ve ((k _ al0).trans h) (cg.mono e f)) (fun h _ r k => .dct ((k _ al0).trans h) (r fun a ha => k a (al3 _ ha))) (fun _ r k => .pin (r k)) (fun _ => .nil) (fun _ _ h r k => .cons (h fun a ha => k a (al4 _ ha)) (r fun a ha => k a (alU _ ha))) (fun _ => .nil) (fun _ _ h r k => .cons (h fun a ha => k a (al4 _ ha)) (r fun a ha => k a (alU _ ha))) (fun _ => .nil) (fun _ _ h r k => .cons (h fun a ha => k a (al4 _ ha)) (r fun a ha => k a (alU _ ha))) h k
theorem fq.mono {H H' Z Z' : Hp} (e : aM Z Z') {t : List (Str × T)} {v : List (Str × V)} {fp : List Addr} (k : ∀ a ∈ fp, H' a = H a) (h : fq K CL H Z t v fp) : fq K CL H' Z' t v fp :=
 fq.rec (motive_1 := fun t v fp _ => (∀ a ∈ fp, H' a = H a) -> dN K CL H' Z' t v fp) (motive_2 := fun t v fp _ => (∀ a ∈ fp, H' a = H a) -> aZ K CL H' Z' t v fp) (motive_3 := fun t v fp _ => (∀ a ∈ fp, H' a = H a) -> fq K CL H' Z' t v fp) (motive_4 := fun t v fp _ => (∀ a ∈ fp, H' a = H a) -> Ba K CL H' Z' t v fp)
   (fun h _ => .sh (h.mono e)) (fun h _ r k => .tup (e _ _ h) (r k)) (fun h _ r k => .lst ((k _ al0).trans h) (r fun a ha => k a (al3 _ ha))) (fun h _ r k => .ins ((k _ al0).trans h) (r fun a ha => k a (al3 _ ha))) (fun h f k => .ve ((k _ al0).trans h) (cg.mono e f)) (fun h _ r k => .dct ((k _ al0).trans h) (r fun a ha => k a (al3 _ ha))) (fun _ r k => .pin (r k)) (fun _ => .nil) (fun _ _ h r k => .cons (h fun a ha => k a (al4 _ ha)) (r fun a ha => k a (alU _ ha))) (fun _ => .nil) (fun _ _ h r k => .cons (h fun a ha => k a (al4 _ ha)) (r fun a ha => k a (alU _ ha))) (fun _ => .nil) (fun _ _ h r k => .cons (h fun a ha => k a (al4 _ ha)) (r fun a ha => k a (alU _ ha))) h k
theorem dN.there {H Z : Hp} {t : T} {v : V} {fp : List Addr} (h : dN K CL H Z t v fp) : ∀ a ∈ fp, ∃ o, H a = some o :=
 dN.rec (motive_1 := fun t v fp _ => ∀ a ∈ fp, ∃ o, H a = some o) (motive_2 := fun t v fp _ => ∀ a ∈ fp, ∃ o, H a = some o) (motive_3 := fun t v fp _ => ∀ a ∈ fp, ∃ o, H a = some o) (motive_4 := fun t v fp _ => ∀ a ∈ fp, ∃ o, H a = some o)
   (fun _ a ha => absurd ha amC) (fun _ _ r => r) (fun h _ r a ha => (al6.mp ha).elim (fun q => ⟨_, q ▸ h⟩) (r a)) (fun h _ r a ha => (al6.mp ha).elim (fun q => ⟨_, q ▸ h⟩) (r a)) (fun h _ a ha => (al6.mp ha).elim (fun q => ⟨_, q ▸ h⟩) (fun q => absurd q amC)) (fun h _ r a ha => (al6.mp ha).elim (fun q => ⟨_, q ▸ h⟩) (r a)) (fun _ r => r) (fun a ha => absurd ha amC) (fun _ _ h r a ha => (al7.mp ha).elim (h a) (r a)) (fun a ha => absurd ha amC) (fun _ _ h r a ha => (al7.mp ha).elim (h a) (r a)) (fun a ha => absurd ha amC) (fun _ _ h r a ha => (al7.mp ha).elim (h a) (r a)) h
theorem aZ.there {H Z : Hp} {t : List T} {v : List V} {fp : List Addr} (h : aZ K CL H Z t v fp) : ∀ a ∈ fp, ∃ o, H a = some o :=
 aZ.rec (motive_1 := fun t v fp _ => ∀ a ∈ fp, ∃ o, H a = some o) (motive_2 := fun t v fp _ => ∀ a ∈ fp, ∃ o, H a = some o) (motive_3 := fun t v fp _ => ∀ a ∈ fp, ∃ o, H a = some o) (motive_4 := fun t v fp _ => ∀ a ∈ fp, ∃ o, H a = some o)
   (fun _ a ha => absurd ha amC) (fun _ _ r => r) (fun h _ r a ha => (al6.mp ha).elim (fun q => ⟨_, q ▸ h⟩) (r a)) (fun h _ r a ha => (al6.mp ha).elim (fun q => ⟨_, q ▸ h⟩) (r a)) (fun h _ a ha => (al6.mp ha).elim (fun q => ⟨_, q ▸ h⟩) (fun q => absurd q amC)) (fun h _ r a ha => (al6.mp ha).elim (fun q => ⟨_, q ▸ h⟩) (r a)) (fun _ r => r) (fun a ha => absurd ha amC) (fun _ _ h r a ha => (al7.mp ha).elim (h a) (r a)) (fun a ha => absurd ha amC) (fun _ _ h r a ha => (al7.mp ha).elim (h a) (r a)) (fun a ha => absurd ha amC) (fun _ _ h r a ha => (al7.mp ha).elim (h a) (r a)) h
theorem dN.iY {H Z Z' : Hp} (e : aM Z Z') {t : T} {v : V} {fp : List Addr} (k : ∀ a ∈ fp, Z' a = H a) (h : dN K CL H Z t v fp) : bS K CL Z' t.iY v :=
 dN.rec (motive_1 := fun t v fp _ => (∀ a ∈ fp, Z' a = H a) -> bS K CL Z' t.iY v) (motive_2 := fun t v fp _ => (∀ a ∈ fp, Z' a = H a) -> aL K CL Z' (T.gR t) v) (motive_3 := fun t v fp _ => (∀ a ∈ fp, Z' a = H a) -> vn K CL Z' (T.vf t) v) (motive_4 := fun t v fp _ => (∀ a ∈ fp, Z' a = H a) -> C2 K CL Z' (T.Vr t) v)
   (fun h _ => by rw [T.iY]; exact h.mono e) (fun h _ r k => by rw [T.iY]; exact .tup (Bw.of (e _ _ h)) (r k)) (fun h _ r k => by rw [T.iY]; exact .lst (rV.of ((k _ al0).trans h)) (r fun a ha => k a (al3 _ ha))) (fun h _ r k => by rw [T.iY]; exact .ins ((k _ al0).trans h) (r fun a ha => k a (al3 _ ha))) (fun h f k => by rw [T.iY]; exact .ve ((k _ al0).trans h) (cg.mono e f)) (fun h _ r k => by rw [T.iY]; exact .dct ((k _ al0).trans h) (r fun a ha => k a (al3 _ ha))) (fun _ r k => by rw [T.iY]; exact r k) (fun _ => by rw [T.gR]; exact .nil) (fun _ _ h r k => by rw [T.gR]; exact .cons (h fun a ha => k a (al4 _ ha)) (r fun a ha => k a (alU _ ha))) (fun _ => by rw [T.vf]; exact .nil) (fun _ _ h r k => by rw [T.vf]; exact .cons (h fun a ha => k a (al4 _ ha)) (r fun a ha => k a (alU _ ha))) (fun _ => by rw [T.Vr]; exact .nil) (fun _ _ h r k => by rw [T.Vr]; exact .cons (h fun a ha => k a (al4 _ ha)) (r fun a ha => k a (alU _ ha))) h k
theorem aL.ind {Z : Hp} {P : List D -> List V -> Prop} (n : P [] []) (c : ∀ {d : D} {v : V} {ds : List D} {vs : List V}, bS K CL Z d v -> aL K CL Z ds vs -> P ds vs -> P (d :: ds) (v :: vs)) {ds : List D} {vs : List V} (h : aL K CL Z ds vs) : P ds vs :=
 aL.rec (motive_1 := fun _ _ _ => True) (motive_2 := fun d v _ => P d v) (motive_3 := fun _ _ _ => True) (motive_4 := fun _ _ _ => True) (motive_5 := fun _ _ _ => True)
   trivial (fun _ => trivial) (fun _ => trivial) (fun _ => trivial) (fun _ => trivial) (fun _ => trivial) (fun _ _ _ => trivial) (fun _ _ _ => trivial) (fun _ _ _ => trivial) (fun _ _ _ => trivial) (fun _ _ _ => trivial) n (fun a b _ i => c a b i) trivial (fun _ _ _ _ => trivial) trivial (fun _ _ _ _ => trivial) trivial (fun _ _ _ _ => trivial) h
theorem cg.ind {Z : Hp} {P : List (Key × D) -> List (Key × V) -> Prop} (n : P [] []) (c : ∀ {x : Key} {d : D} {v : V} {ds : List (Key × D)} {vs : List (Key × V)}, bS K CL Z d v -> cg K CL Z ds vs -> P ds vs -> P ((x, d) :: ds) ((x, v) :: vs)) {ds : List (Key × D)} {vs : List (Key × V)} (h : cg K CL Z ds vs) : P ds vs :=
 cg.rec (motive_1 := fun _ _ _ => True) (motive_2 := fun _ _ _ => True) (motive_3 := fun _ _ _ => True) (motive_4 := fun d v _ => P d v) (motive_5 := fun _ _ _ => True)
   trivial (fun _ => trivial) (fun _ => trivial) (fun _ => trivial) (fun _ => trivial) (fun _ => trivial) (fun _ _ _ => trivial) (fun _ _ _ => trivial) (fun _ _ _ => trivial) (fun _ _ _ => trivial) (fun _ _ _ => trivial) trivial (fun _ _ _ _ => trivial) trivial (fun _ _ _ _ => trivial) n (fun a b _ i => c a b i) trivial (fun _ _ _ _ => trivial) h
theorem aZ.ind {H Z : Hp} {P : List T -> List V -> List Addr -> Prop} (n : P [] [] []) (c : ∀ {t : T} {v : V} {ts : List T} {vs : List V} {fp gp : List Addr}, dN K CL H Z t v fp -> aZ K CL H Z ts vs gp -> P ts vs gp -> P (t :: ts) (v :: vs) (fp ++ gp)) {ts : List T} {vs : List V} {fp : List Addr} (h : aZ K CL H Z ts vs fp) : P ts vs fp :=
 aZ.rec (motive_1 := fun _ _ _ _ => True) (motive_2 := fun d v f _ => P d v f) (motive_3 := fun _ _ _ _ => True) (motive_4 := fun _ _ _ _ => True)
   (fun _ => trivial) (fun _ _ _ => trivial) (fun _ _ _ => trivial) (fun _ _ _ => trivial) (fun _ _ => trivial) (fun _ _ _ => trivial) (fun _ _ => trivial) n (fun a b _ i => c a b i) trivial (fun _ _ _ _ => trivial) trivial (fun _ _ _ _ => trivial) h
theorem fq.ind {H Z : Hp} {P : List (Str × T) -> List (Str × V) -> List Addr -> Prop} (n : P [] [] []) (c : ∀ {x : Str} {t : T} {v : V} {ts : List (Str × T)} {vs : List (Str × V)} {fp gp : List Addr}, dN K CL H Z t v fp -> fq K CL H Z ts vs gp -> P ts vs gp -> P ((x, t) :: ts) ((x, v) :: vs) (fp ++ gp)) {ts : List (Str × T)} {vs : List (Str × V)} {fp : List Addr} (h : fq K CL H Z ts vs fp) : P ts vs fp :=
 fq.rec (motive_1 := fun _ _ _ _ => True) (motive_2 := fun _ _ _ _ => True) (motive_3 := fun d v f _ => P d v f) (motive_4 := fun _ _ _ _ => True)
   (fun _ => trivial) (fun _ _ _ => trivial) (fun _ _ _ => trivial) (fun _ _ _ => trivial) (fun _ _ => trivial) (fun _ _ _ => trivial) (fun _ _ => trivial) trivial (fun _ _ _ _ => trivial) n (fun a b _ i => c a b i) trivial (fun _ _ _ _ => trivial) h
theorem aL.length {Z : Hp} {d : List D} {v : List V} (h : aL K CL Z d v) : d.length = v.length :=
 aL.ind (P := fun d v => d.length = v.length) rfl (fun _ _ i => congrArg (· + 1) i) h
theorem aZ.length {H Z : Hp} {d : List T} {v : List V} {fp : List Addr} (h : aZ K CL H Z d v fp) : d.length = v.length :=
 aZ.ind (P := fun d v _ => d.length = v.length) rfl (fun _ _ i => congrArg (· + 1) i) h
theorem aL.get {Z : Hp} : ∀ {ds : List D} {vs : List V} {i : Nat} {d : D}, aL K CL Z ds vs -> ds[i]? = some d -> ∃ v, vs[i]? = some v /\ bS K CL Z d v
 | _, _, _, _, .nil, e => by simp at e
 | _, _, 0, _, .cons r _, e => by simp at e; subst e; exact ⟨_, rfl, r⟩
 | _, _, i + 1, d, .cons _ t, e => by
   obtain ⟨u, h1, h2⟩ := aL.get (i := i) (d := d) t (by simpa using e)
   exact ⟨u, by simpa using h1, h2⟩
theorem aL.Yw {Z : Hp} : ∀ {ds : List D} {vs : List V} {i : Nat} {v : V}, aL K CL Z ds vs -> vs[i]? = some v -> ∃ d, ds[i]? = some d /\ bS K CL Z d v
 | _, _, _, _, .nil, e => by simp at e
 | _, _, 0, _, .cons r _, e => by simp at e; subst e; exact ⟨_, rfl, r⟩
 | _, _, i + 1, d, .cons _ t, e => by
   obtain ⟨u, h1, h2⟩ := aL.Yw (i := i) (v := d) t (by simpa using e)
   exact ⟨u, by simpa using h1, h2⟩
theorem aZ.get {H Z : Hp} : ∀ {ds : List T} {vs : List V} {fp : List Addr} {i : Nat} {d : T}, aZ K CL H Z ds vs fp -> ds[i]? = some d -> ∃ v gp, vs[i]? = some v /\ dN K CL H Z d v gp /\ gp.Sublist fp
 | _, _, _, _, _, .nil, e => by simp at e
 | _, _, _, 0, _, .cons r _, e => by simp at e; subst e; exact ⟨_, _, rfl, r, List.sublist_append_left _ _⟩
 | _, _, _, i + 1, d, .cons _ t, e => by
   obtain ⟨u, gp, h1, h2, h3⟩ := aZ.get (i := i) (d := d) t (by simpa using e)
   exact ⟨u, gp, by simpa using h1, h2, h3.trans (List.sublist_append_right _ _)⟩
theorem i6.get {H Z : Hp} : ∀ {δ : List (Option T)} {σ : L2.St} {fp : List Addr} {i : Nat} {t : T}, i6 K CL H Z δ σ fp -> δ[i]? = some (some t) →
   ∃ v f1 f2 f3, σ[i]? = some (some v) /\ fp = f1 ++ (f2 ++ f3) /\ dN K CL H Z t v f2 ∧
     (∀ {H' Z' : Hp} {t' : T} {v' : V} {g : List Addr}, aM Z Z' -> (∀ a ∈ f1 ++ f3, H' a = H a) -> dN K CL H' Z' t' v' g -> i6 K CL H' Z' (δ.set i (some t')) (σ.set i (some v')) (f1 ++ (g ++ f3))) ∧
     (∀ {o : Option V}, i6 K CL H Z (δ.set i none) (σ.set i o) (f1 ++ f3)) := by
 intro δ σ fp i t h
 have mono : ∀ {H H' Z Z' : Hp} {δ : List (Option T)} {σ : L2.St} {fp : List Addr}, aM Z Z' -> (∀ a ∈ fp, H' a = H a) -> i6 K CL H Z δ σ fp -> i6 K CL H' Z' δ σ fp := by
   intro H H' Z Z' δ σ fp e k r
   induction r with
   | nil => exact .nil
   | skip _ ih => exact .skip (ih k)
   | cons r _ ih => exact .cons (r.mono e fun a ha => k a (al4 _ ha)) (ih fun a ha => k a (alU _ ha))
 induction h generalizing i with
 | nil => intro e; simp at e
 | @skip o δ σ fp r ih =>
   cases i with
   | zero => intro e; simp at e
   | succ i =>
     intro e
     obtain ⟨v, f1, f2, f3, h1, h2, h3, h4, h5⟩ := ih (i := i) (by simpa using e)
     exact ⟨v, f1, f2, f3, by simpa using h1, h2, h3, fun e k q => .skip (h4 e k q), .skip h5⟩
 | @cons t0 v0 δ σ fp gp r0 r ih =>
   cases i with
   | zero =>
     intro e
     simp at e
     subst e
     refine ⟨v0, [], fp, gp, rfl, rfl, r0, fun {H' Z' t' v' g} e k q => i6.cons (fp := g) (gp := gp) q (mono (fp := gp) e (fun a ha => k a (by simpa using ha)) r), .skip (by simpa using r)⟩
   | succ i =>
     intro e
     obtain ⟨v, f1, f2, f3, h1, h2, h3, h4, h5⟩ := ih (i := i) (by simpa using e)
     refine ⟨v, fp ++ f1, f2, f3, by simpa using h1, by rw [h2, List.append_assoc], h3, fun {H' Z' t' v' g} e k q => ?_, fun {o} => ?_⟩
     . rw [alZ]
       exact .cons (r0.mono e fun a ha => k a (by simp [ha])) (h4 e (fun a ha => k a (by rw [alZ]; exact alU _ ha)) q)
     . rw [alZ]
       exact .cons r0 h5
theorem i6.mono {H H' Z Z' : Hp} {δ : List (Option T)} {σ : L2.St} {fp : List Addr} (e : aM Z Z') (k : ∀ a ∈ fp, H' a = H a) (r : i6 K CL H Z δ σ fp) : i6 K CL H' Z' δ σ fp := by
 induction r with
 | nil => exact .nil
 | skip _ ih => exact .skip (ih k)
 | cons r _ ih => exact .cons (r.mono e fun a ha => k a (al4 _ ha)) (ih fun a ha => k a (alU _ ha))
theorem i6.there {H Z : Hp} {δ : List (Option T)} {σ : L2.St} {fp : List Addr} (r : i6 K CL H Z δ σ fp) : ∀ a ∈ fp, ∃ o, H a = some o := by
 induction r with
 | nil => intro a ha; cases ha
 | skip _ ih => exact ih
 | cons r _ ih => exact fun a ha => (al7.mp ha).elim (r.there a) (ih a)
theorem i6.put {H Z : Hp} {δ : List (Option T)} {σ : L2.St} {fp : List Addr} (r : i6 K CL H Z δ σ fp) {t : T} {v : V} {g : List Addr} (q : dN K CL H Z t v g) :
   ∀ {i : Nat}, i < δ.length -> ∃ f, i6 K CL H Z (δ.set i (some t)) (σ.set i (some v)) f /\ ∃ f', f'.Sublist fp /\ f.Perm (g ++ f') := by
 induction r with
 | nil => intro i hi; simp at hi
 | @skip o δ σ fp r ih =>
   intro i hi
   cases i with
   | zero => exact ⟨g ++ fp, .cons q r, fp, amD _, anF _⟩
   | succ i =>
     obtain ⟨f, h1, f', h2, h3⟩ := ih (i := i) (by simpa using hi)
     exact ⟨f, .skip h1, f', h2, h3⟩
 | @cons t0 v0 δ σ fp gp r0 r ih =>
   intro i hi
   cases i with
   | zero => exact ⟨g ++ gp, .cons q r, gp, am2 _ _, anF _⟩
   | succ i =>
     obtain ⟨f, h1, f', h2, h3⟩ := ih (i := i) (by simpa using hi)
     refine ⟨fp ++ f, .cons r0 h1, fp ++ f', amF (amD _) h2, ?_⟩
     refine (amt fp h3).trans ?_
     rw [← alZ, ← alZ]
     exact List.Perm.append_right f' amB
end
noncomputable def IQ (X : Cx) (e : Expr) : TE := fun σ H Q => ∀ (pins : List (Addr × Obj)) (s : Shared), Inv X pins σ H s -> wpAny (model X.prog X.w) X.A (eval e X.env) (EP X pins σ Q) X.xe s
noncomputable def Yx (X : Cx) (e : Expr) : TT := fun σ H Q => ∀ (pins : List (Addr × Obj)) (s : Shared), Inv X pins σ H s -> wpAny (model X.prog X.w) X.A (isTrue e X.env (eval e X.env)) (TP X pins σ Q) X.xe s
noncomputable def IU (X : Cx) (es : List Expr) : TA := fun σ H Q => ∀ (pos : Pos) (pins : List (Addr × Obj)) (s : Shared), Inv X pins σ H s -> wpAny (model X.prog X.w) X.A (spliced (backTo pos (starEach es X.env))) (AP X pins σ Q) X.xe s
noncomputable def Yy (X : Cx) (st : Stmt) : TS := fun D σ H => ∀ (pins : List (Addr × Obj)) (s : Shared), Inv X pins σ H s -> wpAny (model X.prog X.w) X.A (exec st X.env) (SP X pins D) X.xe s
noncomputable def Vs (X : Cx) (st : List Stmt) : TS := fun D σ H => ∀ (pins : List (Addr × Obj)) (s : Shared), Inv X pins σ H s -> wpAny (model X.prog X.w) X.A (execs st X.env) (SP X pins D) X.xe s
section
variable {X : Cx}
theorem eU {e : Expr} : PE X e (IQ X e) := fun pins s _ _ _ I h => h pins s I
theorem ptS {e : Expr} : PT X e (Yx X e) := fun pins s _ _ _ I h => h pins s I
theorem XU {e : List Expr} : PA X e (IU X e) := fun pos pins s _ _ _ I h => h pos pins s I
theorem psS {e : Stmt} : PS X e (Yy X e) := fun pins s _ _ _ I h => h pins s I
theorem XW {e : List Stmt} : PJ X e (Vs X e) := fun pins s _ _ _ I h => h pins s I
theorem dw {e : Expr} {t : TE} (h : PE X e t) {σ : L2.St} {H : Hp} {Q : VK} (q : t σ H Q) : IQ X e σ H Q := fun pins s I => h pins s σ H Q I q
theorem EZ {e : Expr} {t : TT} (h : PT X e t) {σ : L2.St} {H : Hp} {Q : Bool -> Hp -> Prop} (q : t σ H Q) : Yx X e σ H Q := fun pins s I => h pins s σ H Q I q
theorem RT {e : List Expr} {t : TA} (h : PA X e t) {σ : L2.St} {H : Hp} {Q : List V -> Hp -> Prop} (q : t σ H Q) : IU X e σ H Q := fun pos pins s I => h pos pins s σ H Q I q
theorem zI {e : Stmt} {t : TS} (h : PS X e t) {σ : L2.St} {H : Hp} {D : Ends} (q : t D σ H) : Yy X e D σ H := fun pins s I => h pins s σ H D I q
theorem abV {e : List Stmt} {t : TS} (h : PJ X e t) {σ : L2.St} {H : Hp} {D : Ends} (q : t D σ H) : Vs X e D σ H := fun pins s I => h pins s σ H D I q
end
noncomputable def notStar : Expr -> Bool
 | .Starred _ _ => false
 | _ => true
theorem cz {e : Expr} {es : List Expr} {env : Env} (h : notStar e = true) : starEach (e :: es) env = (false, eval e env) :: starEach es env := by
 cases e <;> first | rfl | (cases h)
structure Bx where
 B : Hp
 Z : Hp
noncomputable def qc : HO -> Bool
 | .tup _ => true
 | .iY _ _ => true
 | _ => false
noncomputable def P7 (x : Str) : Bool := x.cps[0]? == some 35
noncomputable def ahY (x : Str) : Str := ⟨x.cps.extract 1 x.cps.size⟩
noncomputable def qL (CL : Str -> Addr) (Z : Hp) : Prop := ∀ x, P7 x = true -> CL x ≠ 0 -> Z (CL x) = some (.tabs (ahY x))
structure cy (K : PySem.W.Frag) (CL : Str -> Addr) (b : Bx) (H Z : Hp) (δ : List (Option T)) (σ : L2.St) (ts : List T) (vs : List V) : Prop where
 rep : ∃ fp gp, i6 K CL H Z δ σ fp /\ aZ K CL H Z ts vs gp /\ (fp ++ gp).Nodup /\ ∀ a ∈ fp ++ gp, Z a = none /\ b.B a = none
 bh : aM b.B H
 zz : aM b.Z Z
 zh : aM Z H
 new : ∀ a o, Z a = some o -> b.Z a = none -> b.B a = none
 tp : ∀ a o, H a = some o -> qc o = true -> Z a = some o
 tab : qL CL b.Z
section
variable {K : PySem.W.Frag} {CL : Str -> Addr} {b : Bx} {H H' Z Z' : Hp} {δ δ' : List (Option T)} {σ σ' : L2.St} {ts ts' : List T} {vs vs' : List V} {t : T} {v : V}
theorem qL.mono {A B : Hp} (h : qL CL A) (e : aM A B) : qL CL B := fun x hx h0 => e _ _ (h x hx h0)
theorem cy.aeW (S : cy K CL b H Z δ σ ts vs) : qL CL Z := S.tab.mono S.zz
theorem cy.Vt (S : cy K CL b H Z δ σ ts vs) : qL CL H := S.aeW.mono S.zh
theorem abW {A B : Hp} (e : aM A B) {a : Addr} (h : B a = none) : A a = none := e.free h
theorem aM.upd {H : Hp} {p : Addr} {o : HO} (h : H p = none) : aM H (upd H p o) := fun b u e => by rw [aK (bX e h)]; exact e
theorem cy.view (S : cy K CL b H Z δ σ (t :: ts) (v :: vs)) : bS K CL H t.iY v := by
 obtain ⟨fp, gp, _, r, _, _⟩ := S.rep
 cases r with
 | cons r _ => exact r.iY S.zh fun _ _ => rfl
theorem cy.pop (S : cy K CL b H Z δ σ (t :: ts) (v :: vs)) : cy K CL b H Z δ σ ts vs := by
 obtain ⟨fp, gp, e, r, nd, k⟩ := S.rep
 cases r with
 | @cons _ _ _ _ f1 f2 r1 r2 =>
   refine ⟨⟨fp, f2, e, r2, nd.sublist (amF (amD _) (am2 _ _)), fun a ha => k a ?_⟩, S.bh, S.zz, S.zh, S.new, S.tp, S.tab⟩
   rcases al7.mp ha with h | h
   . exact al4 _ h
   . exact alU _ (alU _ h)
theorem cy.push {d : D} (S : cy K CL b H Z δ σ ts vs) (r : bS K CL Z d v) : cy K CL b H Z δ σ (.sh d :: ts) (v :: vs) := by
 obtain ⟨fp, gp, e, r2, nd, k⟩ := S.rep
 exact ⟨⟨fp, [] ++ gp, e, .cons (.sh r) r2, nd, k⟩, S.bh, S.zz, S.zh, S.new, S.tp, S.tab⟩
theorem cy.Vu (S : cy K CL b H Z δ σ (t :: ts) (v :: vs)) : ∃ Z', aM Z Z' /\ cy K CL b H Z' δ σ (.sh t.iY :: ts) (v :: vs) := by
 classical
 obtain ⟨fp, gp, e, r, nd, k⟩ := S.rep
 cases r with
 | @cons _ _ _ _ f1 f2 r1 r2 =>
   have nZ : ∀ a ∈ f1, Z a = none /\ b.B a = none := fun a ha => k a (alU _ (al4 _ ha))
   have sz : aM Z (fun a => if a ∈ f1 then H a else Z a) := fun a o q => by
     by_cases ha : a ∈ f1
     . rw [(nZ a ha).1] at q; cases q
     . show (if a ∈ f1 then H a else Z a) = some o
       rw [alT ha]; exact q
   have nd1 := amK.mp nd
   have dj : ∀ a ∈ fp ++ f2, a ∉ f1 := fun a ha h1 => by
     rcases al7.mp ha with h | h
     . exact nd1.2.2 a h a (al4 _ h1) rfl
     . exact (amK.mp nd1.2.1).2.2 a h1 a h rfl
   refine ⟨fun a => if a ∈ f1 then H a else Z a, sz, ⟨⟨fp, [] ++ f2, e.mono sz (fun _ _ => rfl), .cons (.sh (r1.iY sz fun a ha => alW ha)) (r2.mono sz fun _ _ => rfl), ?_, fun a ha => ?_⟩, S.bh, S.zz.trans sz, fun a o q => ?_, fun a o q z => ?_, fun a o q i => ?_, S.tab⟩⟩
   . exact nd.sublist (amF (amD _) (am2 _ _))
   . have Vv : a ∈ fp ++ f2 := ha
     refine ⟨?_, (k a ?_).2⟩
     . show (if a ∈ f1 then H a else Z a) = none
       rw [alT (dj a Vv)]
       refine (k a ?_).1
       rcases al7.mp Vv with h | h
       . exact al4 _ h
       . exact alU _ (alU _ h)
     . rcases al7.mp Vv with h | h
       . exact al4 _ h
       . exact alU _ (alU _ h)
   . have q' : (if a ∈ f1 then H a else Z a) = some o := q
     by_cases ha : a ∈ f1
     . rw [alW ha] at q'; exact q'
     . rw [alT ha] at q'; exact S.zh a o q'
   . have q' : (if a ∈ f1 then H a else Z a) = some o := q
     by_cases ha : a ∈ f1
     . exact (nZ a ha).2
     . rw [alT ha] at q'; exact S.new a o q' z
   . exact sz a o (S.tp a o q i)
theorem cy.Yz {i : Nat} (S : cy K CL b H Z δ σ ts vs) (hi : δ[i]? = some (some t)) : ∃ v Z', σ[i]? = some (some v) /\ aM Z Z' /\ cy K CL b H Z' (δ.set i (some (.sh t.iY))) σ (.sh t.iY :: ts) (v :: vs) := by
 classical
 obtain ⟨fp, gp, e, r, nd, k⟩ := S.rep
 obtain ⟨v, f1, f2, f3, hv, sG, rt, put, _⟩ := e.get hi
 subst sG
 have nZ : ∀ a ∈ f2, Z a = none /\ b.B a = none := fun a ha => k a (by simp [ha])
 have sz : aM Z (fun a => if a ∈ f2 then H a else Z a) := fun a o q => by
   by_cases ha : a ∈ f2
   . rw [(nZ a ha).1] at q; cases q
   . show (if a ∈ f2 then H a else Z a) = some o
     rw [alT ha]; exact q
 have dj : ∀ a ∈ (f1 ++ f3) ++ gp, a ∉ f2 := fun a ha h2 => by
   have hp : ((f1 ++ (f2 ++ f3)) ++ gp).Perm (f2 ++ ((f1 ++ f3) ++ gp)) := by
     rw [← alZ, ← alZ]
     refine (List.perm_append_right_iff gp).mpr ?_
     rw [← alZ]
     exact (List.perm_append_right_iff f3).mpr amB
   exact (amK.mp (hp.nodup_iff.mp nd)).2.2 a h2 a ha rfl
 have rF : bS K CL (fun a => if a ∈ f2 then H a else Z a) t.iY v := rt.iY sz fun a ha => alW ha
 have abX : σ.set i (some v) = σ := by
   apply List.ext_getElem?
   intro j
   rw [List.getElem?_set]
   split
   . rename_i h; subst h
     split
     . exact hv.symm
     . rename_i h2; rw [List.getElem?_eq_none (by omega)]
   . rfl
 have e2 : i6 K CL H (fun a => if a ∈ f2 then H a else Z a) (δ.set i (some (.sh t.iY))) σ (f1 ++ ([] ++ f3)) := by
   have := put (H' := H) (t' := .sh t.iY) (v' := v) (g := []) sz (fun _ _ => rfl) (.sh rF)
   rwa [abX] at this
 refine ⟨v, fun a => if a ∈ f2 then H a else Z a, hv, sz, ⟨⟨f1 ++ ([] ++ f3), [] ++ gp, e2, .cons (.sh rF) (r.mono sz fun _ _ => rfl), ?_, fun a ha => ?_⟩, S.bh, S.zz.trans sz, fun a o q => ?_, fun a o q z => ?_, fun a o q i => sz a o (S.tp a o q i), S.tab⟩⟩
 . exact nd.sublist (amF (amF (amD _) (am2 _ _)) (amD _))
 . have Vv : a ∈ (f1 ++ f3) ++ gp := ha
   have hm : a ∈ (f1 ++ (f2 ++ f3)) ++ gp := by
     simp only [al7] at Vv ⊢
     rcases Vv with (h | h) | h
     . exact .inl (.inl h)
     . exact .inl (.inr (.inr h))
     . exact .inr h
   refine ⟨?_, (k a hm).2⟩
   show (if a ∈ f2 then H a else Z a) = none
   rw [alT (dj a Vv)]
   exact (k a hm).1
 . have q' : (if a ∈ f2 then H a else Z a) = some o := q
   by_cases ha : a ∈ f2
   . rw [alW ha] at q'; exact q'
   . rw [alT ha] at q'; exact S.zh a o q'
 . have q' : (if a ∈ f2 then H a else Z a) = some o := q
   by_cases ha : a ∈ f2
   . exact (nZ a ha).2
   . rw [alT ha] at q'; exact S.new a o q' z
theorem cy.move {i : Nat} (S : cy K CL b H Z δ σ ts vs) (hi : δ[i]? = some (some t)) : ∃ v, σ[i]? = some (some v) /\ cy K CL b H Z (δ.set i none) σ (t :: ts) (v :: vs) := by
 obtain ⟨fp, gp, e, r, nd, k⟩ := S.rep
 obtain ⟨v, f1, f2, f3, hv, sG, rt, _, del⟩ := e.get hi
 subst sG
 have abX : σ.set i (some v) = σ := by
   apply List.ext_getElem?
   intro j
   rw [List.getElem?_set]
   split
   . rename_i h; subst h
     split
     . exact hv.symm
     . rename_i h2; rw [List.getElem?_eq_none (by omega)]
   . rfl
 have hp : ((f1 ++ (f2 ++ f3)) ++ gp).Perm ((f1 ++ f3) ++ (f2 ++ gp)) := by
   have h1 : (f2 ++ f3).Perm (f3 ++ f2) := amB
   have h2 := (amt f1 h1).append_right gp
   simp only [alZ] at h2 ⊢
   exact h2
 refine ⟨v, hv, ⟨⟨f1 ++ f3, f2 ++ gp, ?_, .cons rt r, hp.nodup_iff.mp nd, fun a ha => k a (hp.mem_iff.mpr ha)⟩, S.bh, S.zz, S.zh, S.new, S.tp, S.tab⟩⟩
 have := del (o := some v)
 rwa [abX] at this
theorem cy.look {i : Nat} (S : cy K CL b H Z δ σ ts vs) (hi : δ[i]? = some (some t)) : ∃ v, σ[i]? = some (some v) /\ bS K CL H t.iY v := by
 obtain ⟨fp, gp, e, r, nd, k⟩ := S.rep
 obtain ⟨v, f1, f2, f3, hv, sG, rt, _, _⟩ := e.get hi
 exact ⟨v, hv, rt.iY S.zh fun _ _ => rfl⟩
theorem cy.aaA {i : Nat} {d : D} (S : cy K CL b H Z δ σ ts vs) (hi : δ[i]? = some (some (.sh d))) : ∃ v, σ[i]? = some (some v) /\ bS K CL Z d v := by
 obtain ⟨fp, gp, e, r, nd, k⟩ := S.rep
 obtain ⟨v, f1, f2, f3, hv, sG, rt, _, _⟩ := e.get hi
 cases rt with
 | sh h => exact ⟨v, hv, h⟩
theorem cy.set {i : Nat} (S : cy K CL b H Z δ σ (t :: ts) (v :: vs)) (hi : i < δ.length) : cy K CL b H Z (δ.set i (some t)) (σ.set i (some v)) ts vs := by
 obtain ⟨fp, gp, e, r, nd, k⟩ := S.rep
 cases r with
 | @cons _ _ _ _ f1 f2 r1 r2 =>
   obtain ⟨f, h1, f', h2, h3⟩ := e.put r1 hi
   have hp : (f ++ f2).Perm (f' ++ (f1 ++ f2)) := by
     refine (h3.append_right f2).trans ?_
     rw [← alZ]
     exact amB.append_right f2
   have aeY : (f' ++ (f1 ++ f2)).Sublist (fp ++ (f1 ++ f2)) := amF h2 (amD _)
   exact ⟨⟨f, f2, h1, r2, hp.nodup_iff.mpr (nd.sublist aeY), fun a ha => k a (aeY.subset (hp.mem_iff.mp ha))⟩, S.bh, S.zz, S.zh, S.new, S.tp, S.tab⟩
end
mutual
noncomputable def D.rW : D -> Bool
 | .tup ds => D.cM ds
 | .lst _ => false
 | .ins _ _ => false
 | .ve _ => false
 | .dct _ => false
 | .any => false
 | _ => true
noncomputable def D.cM : List D -> Bool
 | [] => true
 | d :: ds => d.rW && D.cM ds
end
mutual
noncomputable def T.clean : T -> Bool
 | .sh d => d.rW
 | .tup ts => T.ef ts
 | .lst ts => T.ef ts
 | .ins _ fs => T.bY fs
 | .ve bH => D.cM (bH.map (·.2))
 | .dct bH => T.F9 bH
 | .pin _ t => t.clean
noncomputable def T.ef : List T -> Bool
 | [] => true
 | t :: ts => t.clean && T.ef ts
noncomputable def T.bY : List (Str × T) -> Bool
 | [] => true
 | (_, t) :: ts => t.clean && T.bY ts
noncomputable def T.F9 : List (List Key × T) -> Bool
 | [] => true
 | (_, t) :: ts => t.clean && T.F9 ts
end
noncomputable def cY (X : Cx) (CL : Str -> Addr) (b : Bx) (e : Expr) (δ : List (Option T)) (t : T) (δ' : List (Option T)) : Prop :=
 ∀ (H Z : Hp) (σ : L2.St) (ts : List T) (vs : List V) (Q : VK), cy X.K CL b H Z δ σ ts vs -> (∀ v H' Z', aM Z Z' -> aM H H' -> cy X.K CL b H' Z' δ' σ (t :: ts) (v :: vs) -> Q v H') -> IQ X e σ H Q
noncomputable def dz (X : Cx) (CL : Str -> Addr) (b : Bx) (e : Expr) (δ : List (Option T)) (d : D) (δ' : List (Option T)) : Prop :=
 ∀ (H Z : Hp) (σ : L2.St) (ts : List T) (vs : List V) (Q : VK), cy X.K CL b H Z δ σ ts vs -> (∀ v H' Z', aM Z Z' -> aM H H' -> cy X.K CL b H' Z' δ' σ ts vs -> bS X.K CL H' d v -> Q v H') -> IQ X e σ H Q
noncomputable def qM (X : Cx) (CL : Str -> Addr) (b : Bx) (e : Expr) (δ : List (Option T)) (p : Bool) (δ' : List (Option T)) : Prop :=
 ∀ (H Z : Hp) (σ : L2.St) (ts : List T) (vs : List V) (Q : Bool -> Hp -> Prop), cy X.K CL b H Z δ σ ts vs -> (∀ H' Z', aM Z Z' -> aM H H' -> cy X.K CL b H' Z' δ' σ ts vs -> Q p H') -> Yx X e σ H Q
noncomputable def P8 (X : Cx) (CL : Str -> Addr) (b : Bx) (es : List Expr) (δ : List (Option T)) (tl : List T) (δ' : List (Option T)) : Prop :=
 ∀ (H Z : Hp) (σ : L2.St) (ts : List T) (vs : List V) (Q : List V -> Hp -> Prop), cy X.K CL b H Z δ σ ts vs →
   (∀ us H' Z', us.length = tl.length -> aM Z Z' -> aM H H' -> cy X.K CL b H' Z' δ' σ (tl.reverse ++ ts) (us.reverse ++ vs) -> Q us H') -> IU X es σ H Q
noncomputable def Vw (X : Cx) (CL : Str -> Addr) (b : Bx) (es : List Expr) (δ : List (Option T)) (ds : List D) (δ' : List (Option T)) : Prop :=
 ∀ (H Z : Hp) (σ : L2.St) (ts : List T) (vs : List V) (Q : List V -> Hp -> Prop), cy X.K CL b H Z δ σ ts vs →
   (∀ us H' Z', aM Z Z' -> aM H H' -> cy X.K CL b H' Z' δ' σ ts vs -> aL X.K CL H' ds us -> Q us H') -> IU X es σ H Q
structure dg where
 nx : List (Option T) -> Prop
 rt : T -> List (Option T) -> Prop
 bk : List (Option T) -> Prop := fun _ => False
 ct : List (Option T) -> Prop := fun _ => False
structure Meets (K : PySem.W.Frag) (CL : Str -> Addr) (b : Bx) (Z : Hp) (ts : List T) (vs : List V) (D : dg) (E : Ends) : Prop where
 nx : ∀ δ' σ' H' Z', aM Z Z' -> cy K CL b H' Z' δ' σ' ts vs -> D.nx δ' -> E.nx σ' H'
 rt : ∀ t v H' Z' δ' σ', aM Z Z' -> cy K CL b H' Z' δ' σ' (t :: ts) (v :: vs) -> D.rt t δ' -> E.rt v H'
 bk : ∀ δ' σ' H' Z', aM Z Z' -> cy K CL b H' Z' δ' σ' ts vs -> D.bk δ' -> E.bk σ' H'
 ct : ∀ δ' σ' H' Z', aM Z Z' -> cy K CL b H' Z' δ' σ' ts vs -> D.ct δ' -> E.ct σ' H'
noncomputable def XY (X : Cx) (CL : Str -> Addr) (b : Bx) (st : Stmt) (δ : List (Option T)) (D : dg) : Prop :=
 ∀ (H Z : Hp) (σ : L2.St) (ts : List T) (vs : List V) (E : Ends), cy X.K CL b H Z δ σ ts vs -> Meets X.K CL b Z ts vs D E -> Yy X st E σ H
noncomputable def gw (X : Cx) (CL : Str -> Addr) (b : Bx) (st : List Stmt) (δ : List (Option T)) (D : dg) : Prop :=
 ∀ (H Z : Hp) (σ : L2.St) (ts : List T) (vs : List V) (E : Ends), cy X.K CL b H Z δ σ ts vs -> Meets X.K CL b Z ts vs D E -> Vs X st E σ H
section
variable {K : PySem.W.Frag} {CL : Str -> Addr} {b : Bx} {H H' Z Z' : Hp} {δ δ' : List (Option T)} {σ σ' : L2.St} {ts ts' : List T} {vs vs' : List V} {t : T} {v : V}
theorem Meets.mono {D : dg} {E : Ends} (M : Meets K CL b Z ts vs D E) (e : aM Z Z') : Meets K CL b Z' ts vs D E :=
 ⟨fun _ _ _ _ s => M.nx _ _ _ _ (e.trans s), fun _ _ _ _ _ _ s => M.rt _ _ _ _ _ _ (e.trans s), fun _ _ _ _ s => M.bk _ _ _ _ (e.trans s), fun _ _ _ _ s => M.ct _ _ _ _ (e.trans s)⟩
theorem P9 {a : Addr} {xs : List V} (zh : ∀ a o, H a = some o -> qc o = true -> Z a = some o) (h : Bw K H a xs) : Bw K Z a xs := by
 rcases h with (h | ⟨o, h⟩) | h
 . exact .inl (.inl (zh _ _ h rfl))
 . exact .inl (.inr ⟨o, zh _ _ h rfl⟩)
 . exact .inr h
theorem bS.rW (zh : ∀ a o, H a = some o -> qc o = true -> Z a = some o) {d : D} {v : V} (k : d.rW = true) (h : bS K CL H d v) : bS K CL Z d v :=
 bS.rec (motive_1 := fun d v _ => d.rW = true -> bS K CL Z d v) (motive_2 := fun d v _ => D.cM d = true -> aL K CL Z d v) (motive_3 := fun d v _ => True) (motive_4 := fun d v _ => True) (motive_5 := fun d v _ => True)
   (fun _ => .non) (fun b _ => .bl b) (fun b _ => .int b) (fun b _ => .str b) (fun _ k => by rw [D.rW] at k; cases k) (fun b _ => .val b) (fun h _ r k => .tup (P9 zh h) (r (by rw [D.rW] at k; exact k))) (fun _ _ _ k => by rw [D.rW] at k; cases k) (fun _ _ _ k => by rw [D.rW] at k; cases k) (fun _ _ _ k => by rw [D.rW] at k; cases k) (fun _ _ _ k => by rw [D.rW] at k; cases k) (fun _ => .nil) (fun _ _ h r k => by rw [D.cM, ame] at k; exact .cons (h k.1) (r k.2)) trivial (fun _ _ _ _ => trivial) trivial (fun _ _ _ _ => trivial) trivial (fun _ _ _ _ => trivial) h k
theorem aL.rW (zh : ∀ a o, H a = some o -> qc o = true -> Z a = some o) {d : List D} {v : List V} (k : D.cM d = true) (h : aL K CL H d v) : aL K CL Z d v :=
 aL.rec (motive_1 := fun d v _ => d.rW = true -> bS K CL Z d v) (motive_2 := fun d v _ => D.cM d = true -> aL K CL Z d v) (motive_3 := fun d v _ => True) (motive_4 := fun d v _ => True) (motive_5 := fun d v _ => True)
   (fun _ => .non) (fun b _ => .bl b) (fun b _ => .int b) (fun b _ => .str b) (fun _ k => by rw [D.rW] at k; cases k) (fun b _ => .val b) (fun h _ r k => .tup (P9 zh h) (r (by rw [D.rW] at k; exact k))) (fun _ _ _ k => by rw [D.rW] at k; cases k) (fun _ _ _ k => by rw [D.rW] at k; cases k) (fun _ _ _ k => by rw [D.rW] at k; cases k) (fun _ _ _ k => by rw [D.rW] at k; cases k) (fun _ => .nil) (fun _ _ h r k => by rw [D.cM, ame] at k; exact .cons (h k.1) (r k.2)) trivial (fun _ _ _ _ => trivial) trivial (fun _ _ _ _ => trivial) trivial (fun _ _ _ _ => trivial) h k
theorem cg.clean {Z1 : Hp} (zi : ∀ {d : D} {v : V}, d.rW = true -> bS K CL Z1 d v -> bS K CL Z d v) {bH : List (Key × D)} {gs : List (Key × V)} (k : D.cM (bH.map (·.2)) = true) (h : cg K CL Z1 bH gs) : cg K CL Z bH gs :=
 cg.ind (P := fun bH gs => D.cM (bH.map (·.2)) = true -> cg K CL Z bH gs) (fun _ => .nil) (fun h _ i k => by rw [amh, D.cM, ame] at k; exact .cons (zi k.1 h) (i k.2)) h k
theorem dN.clean {Z1 : Hp} (zh : ∀ a xs, Z1 a = some (.tup xs) -> Z a = some (.tup xs)) (zi : ∀ {d : D} {v : V}, d.rW = true -> bS K CL Z1 d v -> bS K CL Z d v) {t : T} {v : V} {fp : List Addr} (k : t.clean = true) (h : dN K CL H Z1 t v fp) : dN K CL H Z t v fp :=
 dN.rec (motive_1 := fun t v fp _ => t.clean = true -> dN K CL H Z t v fp) (motive_2 := fun t v fp _ => T.ef t = true -> aZ K CL H Z t v fp) (motive_3 := fun t v fp _ => T.bY t = true -> fq K CL H Z t v fp) (motive_4 := fun t v fp _ => T.F9 t = true -> Ba K CL H Z t v fp)
   (fun h k => .sh (zi (by rw [T.clean] at k; exact k) h)) (fun h _ r k => .tup (zh _ _ h) (r (by rw [T.clean] at k; exact k))) (fun h _ r k => .lst h (r (by rw [T.clean] at k; exact k))) (fun h _ r k => .ins h (r (by rw [T.clean] at k; exact k))) (fun h f k => .ve h (cg.clean zi (by rw [T.clean] at k; exact k) f)) (fun h _ r k => .dct h (r (by rw [T.clean] at k; exact k))) (fun _ r k => .pin (r (by rw [T.clean] at k; exact k))) (fun _ => .nil) (fun _ _ h r k => by rw [T.ef, ame] at k; exact .cons (h k.1) (r k.2)) (fun _ => .nil) (fun _ _ h r k => by rw [T.bY, ame] at k; exact .cons (h k.1) (r k.2)) (fun _ => .nil) (fun _ _ h r k => by rw [T.F9, ame] at k; exact .cons (h k.1) (r k.2)) h k
theorem cy.back {W W' : Hp} {fp : List Addr} (S : cy K CL b H Z δ σ ts vs) (hh : aM H H') (zw : aM Z W) (ww : aM W W') (wh : aM W' H') (new : ∀ a o, W' a = some o -> W a = none -> H a = none)
   (tp : ∀ a o, H' a = some o -> qc o = true -> W' a = some o) (r : dN K CL H' W' t v fp) (nd : fp.Nodup) (own : ∀ a ∈ fp, W' a = none /\ H a = none) (c : W = Z \/ t.clean = true) :
   ∃ Z', aM Z Z' /\ cy K CL b H' Z' δ σ (t :: ts) (v :: vs) := by
 classical
 let Z' : Hp := fun a => if (H a).isSome = true then Z a else W' a
 have zs : ∀ {a : Addr} {o : HO}, H a = some o -> Z' a = Z a := fun {a o} e => by
   show (if (H a).isSome = true then Z a else W' a) = Z a
   rw [alW (by rw [e]; rfl)]
 have zn : ∀ {a : Addr}, H a = none -> Z' a = W' a := fun {a} e => by
   show (if (H a).isSome = true then Z a else W' a) = W' a
   rw [alT (by rw [e]; simp)]
 have sz : aM Z Z' := fun a o q => by rw [zs (S.zh a o q)]; exact q
 have zw' : ∀ a o, Z' a = some o -> W' a = some o := fun a o q => by
   cases e : H a with
   | none => rw [zn e] at q; exact q
   | some u => rw [zs e] at q; exact ww a o (zw a o q)
 have ztp : ∀ a o, H' a = some o -> qc o = true -> Z' a = some o := fun a o q i => by
   cases e : H a with
   | none => rw [zn e]; exact tp a o q i
   | some u =>
     rw [zs e]
     have := hh a u e
     rw [q] at this; cases this
     exact S.tp a o e i
 have r' : dN K CL H' Z' t v fp := by
   rcases c with c | c
   . have : Z' = W' := by
       funext a
       cases e : H a with
       | none => exact zn e
       | some u =>
         rw [zs e]
         cases q : W' a with
         | none =>
           cases q2 : Z a with
           | none => rfl
           | some o => rw [ww a o (zw a o q2)] at q; cases q
         | some o =>
           cases q2 : W a with
           | none => rw [new a o q q2] at e; cases e
           | some o2 =>
             have := ww a o2 q2
             rw [q] at this; cases this
             rw [← c]; exact q2
     rw [this]; exact r
   . refine dN.clean (fun a xs h => ?_) (fun {d v} k h => ?_) c r
     . exact ztp a _ (wh a _ h) rfl
     . exact bS.rW (H := H') ztp k (h.mono wh)
 obtain ⟨f0, g0, e0, r0, nd0, k0⟩ := S.rep
 have old : ∀ a ∈ f0 ++ g0, ∃ o, H a = some o := fun a ha => (al7.mp ha).elim (e0.there a) (r0.there a)
 have keep : ∀ a ∈ f0 ++ g0, H' a = H a := fun a ha => by
   obtain ⟨o, e⟩ := old a ha
   rw [e]; exact hh a o e
 refine ⟨Z', sz, ⟨⟨f0, fp ++ g0, e0.mono sz (fun a ha => keep a (al4 _ ha)), .cons r' (r0.mono sz fun a ha => keep a (alU _ ha)), ?_, fun a ha => ?_⟩, S.bh.trans hh, S.zz.trans sz, fun a o q => wh a o (zw' a o q), fun a o q z => ?_, ztp, S.tab⟩⟩
 . have hp : (f0 ++ (fp ++ g0)).Perm (fp ++ (f0 ++ g0)) := by
     rw [← alZ, ← alZ]
     exact amB.append_right g0
   refine hp.nodup_iff.mpr (amK.mpr ⟨nd, nd0, fun a ha c hc e => ?_⟩)
   subst e
   obtain ⟨o, q⟩ := old a hc
   rw [(own a ha).2] at q; cases q
 . have : a ∈ f0 ++ g0 \/ a ∈ fp := by
     simp only [al7] at ha ⊢
     rcases ha with h | h | h
     . exact .inl (.inl h)
     . exact .inr h
     . exact .inl (.inr h)
   rcases this with h | h
   . obtain ⟨o, q⟩ := old a h
     exact ⟨by rw [zs q]; exact (k0 a h).1, (k0 a h).2⟩
   . exact ⟨by rw [zn (own a h).2]; exact (own a h).1, S.bh.free (own a h).2⟩
 . cases e : H a with
   | none => exact S.bh.free e
   | some u => rw [zs e] at q; exact S.new a o q z
end
section
variable {X : Cx} {CL : Str -> Addr} {b : Bx} {δ δ1 δ2 δ3 : List (Option T)} {e e1 e2 : Expr} {t t1 t2 : T} {d d1 d2 : D} {pos : Pos}
theorem Qa (h : cY X CL b e δ t δ1) : dz X CL b e δ t.iY δ1 := fun H Z σ ts vs Q S k => h H Z σ ts vs Q S fun v H' Z' z s S' => k v H' Z' z s S'.pop S'.view
theorem ah (h : cY X CL b e δ (.sh d) δ1) : dz X CL b e δ d δ1 := by have := Qa h; rwa [T.iY] at this
theorem cS (h : dz X CL b e δ d δ1) (i : d.rW = true) : cY X CL b e δ (.sh d) δ1 := fun H Z σ ts vs Q S k => h H Z σ ts vs Q S fun v H' Z' z s S' r => k v H' Z' z s (S'.push (bS.rW S'.tp i r))
theorem Vx (h : cY X CL b e δ t δ1) : cY X CL b e δ (.sh t.iY) δ1 := fun H Z σ ts vs Q S k => h H Z σ ts vs Q S fun v H' Z' z s S' => by
 obtain ⟨Z2, z2, S2⟩ := S'.Vu
 exact k v H' Z2 (z.trans z2) s S2
theorem ai {i : Int} {j : Nat} : cY X CL b (.Constant (.int i) j pos) δ (.sh (.int i)) δ := fun H Z σ ts vs Q S k => dw LK (k _ _ Z (.refl _) (.refl _) (S.push (.int i)))
theorem cG {i : Bool} {j : Nat} : cY X CL b (.Constant (.bool i) j pos) δ (.sh (.bl i)) δ := fun H Z σ ts vs Q S k => dw aem (k _ _ Z (.refl _) (.refl _) (S.push (.bl i)))
theorem bR {x : Str} {j : Nat} : cY X CL b (.Constant (.str x) j pos) δ (.sh (.str x)) δ := fun H Z σ ts vs Q S k => dw abf (k _ _ Z (.refl _) (.refl _) (S.push (.str x)))
section
variable (i : Nat) {x : Str} (hi : X.N[i]? = some x := by rfl) (hv : Vis X.env.scope x := by first | exact Or.inl rfl | exact Or.inr (Or.inl rfl) | exact Or.inr (Or.inr rfl)) (hd : (x == ("__debug__" : Str)) = false := by decide) (qo : (x == ("__classdict__" : Str)) = false := by decide)
include hi hv hd qo
theorem abY (h : δ[i]? = some (some (.sh d)) := by rfl) : cY X CL b (.Name x pos) δ (.sh d) δ := fun H Z σ ts vs Q S k => by
 obtain ⟨v, e, r⟩ := S.aaA h
 exact dw (nY hi hv hd qo) ⟨v, e, k v H Z (.refl _) (.refl _) (S.push r)⟩
theorem YB (h : δ[i]? = some (some t) := by rfl) : cY X CL b (.Name x pos) δ t (δ.set i none) := fun H Z σ ts vs Q S k => by
 obtain ⟨v, e, S'⟩ := S.move h
 exact dw (nY hi hv hd qo) ⟨v, e, k v H Z (.refl _) (.refl _) S'⟩
theorem abZ (h : δ[i]? = some (some t) := by rfl) : dz X CL b (.Name x pos) δ t.iY δ := fun H Z σ ts vs Q S k => by
 obtain ⟨v, e, r⟩ := S.look h
 exact dw (nY hi hv hd qo) ⟨v, e, k v H Z (.refl _) (.refl _) S r⟩
end
noncomputable def YC : D -> Option V
 | .non => some .non
 | .bl b => some (.bl b)
 | .int i => some (.int i)
 | .str x => some (.str x)
 | _ => none
theorem bS.sc {K : PySem.W.Frag} {Z : Hp} {d : D} {v w : V} (r : bS K CL Z d v) (h : YC d = some w) : v = w := by
 cases r <;> first | (exact amw h) | (cases h)
theorem YD {K : PySem.W.Frag} {Z : Hp} {d : D} {w : V} (h : YC d = some w) : bS K CL Z d w := by
 cases d <;> first | (cases h; constructor) | (cases h)
theorem vG {op : Operator} {r : R2} {w1 w2 w : V} (ho : sC X (binaryOp op) r) (h1 : dz X CL b e1 δ d1 δ1) (h2 : dz X CL b e2 δ1 d2 δ2) (s1 : YC d1 = some w1) (s2 : YC d2 = some w2) (s3 : YC d = some w)
   (hr : ∀ (H : Hp) (Q : VK), Q w H -> r w1 w2 H Q) : cY X CL b (.BinOp e1 op e2 pos) δ (.sh d) δ2 := fun H Z σ ts vs Q S k => by
 refine dw (aaq ho eU eU) (h1 H Z σ ts vs _ S fun v1 H1 Z1 z1 k1 S1 r1 => h2 H1 Z1 σ ts vs _ S1 fun v2 H2 Z2 z2 k2 S2 r2 => ?_)
 rw [r1.sc s1, r2.sc s2]
 exact hr H2 Q (k w H2 Z2 (z1.trans z2) (k1.trans k2) (S2.push (YD s3)))
theorem fU {i j : Int} (h1 : dz X CL b e1 δ (.int i) δ1) (h2 : dz X CL b e2 δ1 (.int j) δ2) : cY X CL b (.BinOp e1 .Add e2 pos) δ (.sh (.int (i + j))) δ2 := vG abz h1 h2 rfl rfl rfl fun _ _ q => ⟨i, j, rfl, rfl, q⟩
theorem gA {i j : Int} (h1 : dz X CL b e1 δ (.int i) δ1) (h2 : dz X CL b e2 δ1 (.int j) δ2) : cY X CL b (.BinOp e1 .Sub e2 pos) δ (.sh (.int (i - j))) δ2 := vG abA h1 h2 rfl rfl rfl fun _ _ q => ⟨i, j, rfl, rfl, q⟩
theorem vH {i j : Int} (h1 : dz X CL b e1 δ (.int i) δ1) (h2 : dz X CL b e2 δ1 (.int j) δ2) (c : Yh i j) : cY X CL b (.BinOp e1 .Mult e2 pos) δ (.sh (.int (i * j))) δ2 := vG abB h1 h2 rfl rfl rfl fun _ _ q => ⟨i, j, rfl, rfl, c, q⟩
theorem aS {i j : Int} (h1 : dz X CL b e1 δ (.int i) δ1) (h2 : dz X CL b e2 δ1 (.int j) δ2) (c : 0 < j) : cY X CL b (.BinOp e1 .Mod e2 pos) δ (.sh (.int (i % j))) δ2 := vG abC h1 h2 rfl rfl rfl fun _ _ q => ⟨i, j, rfl, rfl, c, q⟩
theorem aR {i j : Int} (h1 : dz X CL b e1 δ (.int i) δ1) (h2 : dz X CL b e2 δ1 (.int j) δ2) (c : aeC i j) : cY X CL b (.BinOp e1 .FloorDiv e2 pos) δ (.sh (.int (i / j))) δ2 := vG Yi h1 h2 rfl rfl rfl fun _ _ q => ⟨i, j, rfl, rfl, c, q⟩
theorem dS {i j : Int} (h1 : dz X CL b e1 δ (.int i) δ1) (h2 : dz X CL b e2 δ1 (.int j) δ2) (c : aeD i j) : cY X CL b (.BinOp e1 .Pow e2 pos) δ (.sh (.int (i ^ j.toNat))) δ2 := vG abD h1 h2 rfl rfl rfl fun _ _ q => ⟨i, j, rfl, rfl, c, q⟩
theorem Mi {x y : Str} (h1 : dz X CL b e1 δ (.str x) δ1) (h2 : dz X CL b e2 δ1 (.str y) δ2) (c : x.length + y.length <= sizeLine) : cY X CL b (.BinOp e1 .Add e2 pos) δ (.sh (.str (x ++ y))) δ2 := vG LX h1 h2 rfl rfl rfl fun _ _ q => ⟨x, y, rfl, rfl, c, q⟩
theorem rX {op : CmpOp} {r : R2} {p : Bool} {w1 w2 : V} (ho : sC X (compareOp op) r) (h1 : dz X CL b e1 δ d1 δ1) (h2 : dz X CL b e2 δ1 d2 δ2) (s1 : YC d1 = some w1) (s2 : YC d2 = some w2)
   (hr : ∀ (H : Hp) (Q : VK), Q (.bl p) H -> r w1 w2 H Q) (hm : behindInMarks op e2 = false) : qM X CL b (.Compare e1 [op] [e2] pos) δ p δ2 /\ cY X CL b (.Compare e1 [op] [e2] pos) δ (.sh (.bl p)) δ2 := by
 constructor
 . intro H Z σ ts vs Q S k
   refine EZ (uC ho eU eU hm) (h1 H Z σ ts vs _ S fun v1 H1 Z1 z1 k1 S1 r1 => h2 H1 Z1 σ ts vs _ S1 fun v2 H2 Z2 z2 k2 S2 r2 => ?_)
   rw [r1.sc s1, r2.sc s2]
   exact hr H2 _ ⟨p, rfl, k H2 Z2 (z1.trans z2) (k1.trans k2) S2⟩
 . intro H Z σ ts vs Q S k
   refine dw (uB ho eU eU hm) (h1 H Z σ ts vs _ S fun v1 H1 Z1 z1 k1 S1 r1 => h2 H1 Z1 σ ts vs _ S1 fun v2 H2 Z2 z2 k2 S2 r2 => ?_)
   rw [r1.sc s1, r2.sc s2]
   exact hr H2 _ (k _ H2 Z2 (z1.trans z2) (k1.trans k2) (S2.push (.bl p)))
theorem aeZ {w1 w2 : V} (h1 : dz X CL b e1 δ d1 δ1) (h2 : dz X CL b e2 δ1 d2 δ2) (s1 : YC d1 = some w1) (s2 : YC d2 = some w2) (sc : abF w1 w2 = true) :
   qM X CL b (.Compare e1 [.Eq] [e2] pos) δ (decide (w1 = w2)) δ2 /\ cY X CL b (.Compare e1 [.Eq] [e2] pos) δ (.sh (.bl (decide (w1 = w2)))) δ2 := rX UZ h1 h2 s1 s2 (fun _ _ q => ⟨sc, q⟩) (mK _)
theorem cj {i j : Int} (h1 : dz X CL b e1 δ (.int i) δ1) (h2 : dz X CL b e2 δ1 (.int j) δ2) : qM X CL b (.Compare e1 [.Eq] [e2] pos) δ (decide (i = j)) δ2 /\ cY X CL b (.Compare e1 [.Eq] [e2] pos) δ (.sh (.bl (decide (i = j)))) δ2 :=
 rX UZ h1 h2 rfl rfl (fun _ _ q => ⟨rfl, by rw [show decide (V.int i = V.int j) = decide (i = j) by simp]; exact q⟩) (mK _)
theorem gB {i j : Int} (h1 : dz X CL b e1 δ (.int i) δ1) (h2 : dz X CL b e2 δ1 (.int j) δ2) : qM X CL b (.Compare e1 [.NotEq] [e2] pos) δ (!decide (i = j)) δ2 /\ cY X CL b (.Compare e1 [.NotEq] [e2] pos) δ (.sh (.bl (!decide (i = j)))) δ2 :=
 rX U0 h1 h2 rfl rfl (fun _ _ q => ⟨rfl, by rw [show decide (V.int i = V.int j) = decide (i = j) by simp]; exact q⟩) (mK _)
theorem gC {i j : Str} (h1 : dz X CL b e1 δ (.str i) δ1) (h2 : dz X CL b e2 δ1 (.str j) δ2) : qM X CL b (.Compare e1 [.Eq] [e2] pos) δ (decide (i = j)) δ2 /\ cY X CL b (.Compare e1 [.Eq] [e2] pos) δ (.sh (.bl (decide (i = j)))) δ2 :=
 rX UZ h1 h2 rfl rfl (fun _ _ q => ⟨rfl, by rw [show decide (V.str i = V.str j) = decide (i = j) by simp]; exact q⟩) (mK _)
theorem vI {i j : Str} (h1 : dz X CL b e1 δ (.str i) δ1) (h2 : dz X CL b e2 δ1 (.str j) δ2) : qM X CL b (.Compare e1 [.NotEq] [e2] pos) δ (!decide (i = j)) δ2 /\ cY X CL b (.Compare e1 [.NotEq] [e2] pos) δ (.sh (.bl (!decide (i = j)))) δ2 :=
 rX U0 h1 h2 rfl rfl (fun _ _ q => ⟨rfl, by rw [show decide (V.str i = V.str j) = decide (i = j) by simp]; exact q⟩) (mK _)
theorem vo {i j : Int} (h1 : dz X CL b e1 δ (.int i) δ1) (h2 : dz X CL b e2 δ1 (.int j) δ2) : qM X CL b (.Compare e1 [.Lt] [e2] pos) δ (decide (i < j)) δ2 /\ cY X CL b (.Compare e1 [.Lt] [e2] pos) δ (.sh (.bl (decide (i < j)))) δ2 := rX PV h1 h2 rfl rfl (fun _ _ q => ⟨i, j, rfl, rfl, q⟩) (mK _)
theorem aaB {i j : Int} (h1 : dz X CL b e1 δ (.int i) δ1) (h2 : dz X CL b e2 δ1 (.int j) δ2) : qM X CL b (.Compare e1 [.LtE] [e2] pos) δ (decide (i <= j)) δ2 /\ cY X CL b (.Compare e1 [.LtE] [e2] pos) δ (.sh (.bl (decide (i <= j)))) δ2 := rX aar h1 h2 rfl rfl (fun _ _ q => ⟨i, j, rfl, rfl, q⟩) (mK _)
theorem Fp {i j : Int} (h1 : dz X CL b e1 δ (.int i) δ1) (h2 : dz X CL b e2 δ1 (.int j) δ2) : qM X CL b (.Compare e1 [.Gt] [e2] pos) δ (decide (j < i)) δ2 /\ cY X CL b (.Compare e1 [.Gt] [e2] pos) δ (.sh (.bl (decide (j < i)))) δ2 := rX aeE h1 h2 rfl rfl (fun _ _ q => ⟨i, j, rfl, rfl, q⟩) (mK _)
theorem Vy {i j : Int} (h1 : dz X CL b e1 δ (.int i) δ1) (h2 : dz X CL b e2 δ1 (.int j) δ2) : qM X CL b (.Compare e1 [.GtE] [e2] pos) δ (decide (j <= i)) δ2 /\ cY X CL b (.Compare e1 [.GtE] [e2] pos) δ (.sh (.bl (decide (j <= i)))) δ2 := rX aeF h1 h2 rfl rfl (fun _ _ q => ⟨i, j, rfl, rfl, q⟩) (mK _)
end
section
variable {K : PySem.W.Frag} {CL : Str -> Addr} {H Z : Hp}
theorem aZ.split : ∀ {as bs : List T} {us ws : List V} {gp : List Addr}, as.length = us.length -> aZ K CL H Z (as ++ bs) (us ++ ws) gp -> ∃ g1 g2, gp = g1 ++ g2 /\ aZ K CL H Z as us g1 /\ aZ K CL H Z bs ws g2
 | [], _, [], _, gp, _, r => ⟨[], gp, rfl, .nil, r⟩
 | [], _, _ :: _, _, _, h, _ => by simp at h
 | _ :: _, _, [], _, _, h, _ => by simp at h
 | a :: as, bs, u :: us, ws, gp, h, r => by
   cases r with
   | @cons _ _ _ _ f1 f2 r1 r2 =>
     obtain ⟨g1, g2, e, h1, h2⟩ := aZ.split (as := as) (us := us) (by simpa using h) r2
     exact ⟨f1 ++ g1, g2, by rw [e, alZ], .cons r1 h1, h2⟩
theorem aZ.app {as bs : List T} {us ws : List V} {g1 g2 : List Addr} (h : aZ K CL H Z as us g1) (q : aZ K CL H Z bs ws g2) : aZ K CL H Z (as ++ bs) (us ++ ws) (g1 ++ g2) :=
 aZ.ind (P := fun as us g1 => aZ K CL H Z (as ++ bs) (us ++ ws) (g1 ++ g2)) q (fun r _ i => by rw [alZ]; exact .cons r i) h
theorem aZ.rev : ∀ {as : List T} {us : List V} {g : List Addr}, aZ K CL H Z as.reverse us.reverse g -> ∃ g', aZ K CL H Z as us g' /\ g'.Perm g
 | [], [], g, r => by
   have r' : aZ K CL H Z [] [] g := r
   cases r'
   exact ⟨[], .nil, anF _⟩
 | [], u :: us, g, r => by have := r.length; simp at this
 | a :: as, [], g, r => by have := r.length; simp at this
 | a :: as, u :: us, g, r => by
   rw [amW, amW] at r
   have hl := r.length
   obtain ⟨g1, g2, e, r1, r2⟩ := aZ.split (by simp at hl ⊢; omega) r
   subst e
   obtain ⟨g', r', p⟩ := aZ.rev r1
   cases r2 with
   | @cons _ _ _ _ f1 f2 q1 q2 =>
     cases q2
     refine ⟨f1 ++ g', .cons q1 r', ?_⟩
     rw [amH]
     exact (amt f1 p).trans amB
theorem aZ.ofF : ∀ {ds : List D} {us : List V}, aL K CL Z ds us -> aZ K CL H Z (ds.map T.sh) us []
 | _, _, .nil => .nil
 | _, _, .cons r t => .cons (fp := []) (gp := []) (.sh r) (aZ.ofF t)
theorem qN : ∀ (ds : List D), T.gR (ds.map T.sh) = ds
 | [] => rfl
 | d :: ds => by rw [amh, T.gR, qN ds, T.iY]
end
section
variable {K : PySem.W.Frag} {CL : Str -> Addr} {b : Bx} {H H' Z Z' : Hp} {δ δ' : List (Option T)} {σ σ' : L2.St} {ts tl : List T} {vs us : List V} {t : T} {v : V}
theorem cy.Vz {p : Addr} (S : cy K CL b H Z δ σ (tl.reverse ++ ts) (us.reverse ++ vs)) (hl : us.length = tl.length) (hp : H p = none) :
   aM Z (upd Z p (.tup us)) /\ aM H (upd H p (.tup us)) /\ cy K CL b (upd H p (.tup us)) (upd Z p (.tup us)) δ σ (.tup tl :: ts) (.ref p :: vs) := by
 obtain ⟨fp, gp, e, r, nd, k⟩ := S.rep
 obtain ⟨g1, g2, eg, r1, r2⟩ := aZ.split (by simp [hl]) r
 subst eg
 obtain ⟨g', r', pm⟩ := r1.rev
 have zp : Z p = none := S.zh.free hp
 have sz : aM Z (upd Z p (.tup us)) := aM.upd zp
 have sh : aM H (upd H p (.tup us)) := aM.upd hp
 have keep : ∀ a ∈ fp ++ (g1 ++ g2), a ≠ p := fun a ha => by
   have : ∃ o, H a = some o := by
     rcases al7.mp ha with h | h
     . exact e.there a h
     . exact r.there a h
   obtain ⟨o, q⟩ := this
   exact bX q hp
 have pm2 : (fp ++ (g' ++ g2)).Perm (fp ++ (g1 ++ g2)) := (pm.append_right g2).append_left fp
 have kk : ∀ a ∈ fp ++ (g' ++ g2), a ≠ p := fun a ha => keep a (pm2.mem_iff.mp ha)
 refine ⟨sz, sh, ⟨⟨fp, g' ++ g2, e.mono sz (fun a ha => aK (keep a (al4 _ ha))), .cons (.tup bu (r'.mono sz fun a ha => aK (kk a (by simp [ha])))) (r2.mono sz fun a ha => aK (keep a (by simp [ha]))), pm2.nodup_iff.mpr nd, fun a ha => ?_⟩, S.bh.trans sh, S.zz.trans sz, fun a o q => ?_, fun a o q z => ?_, fun a o q i => ?_, S.tab⟩⟩
 . exact ⟨by rw [aK (kk a ha)]; exact (k a (pm2.mem_iff.mp ha)).1, (k a (pm2.mem_iff.mp ha)).2⟩
 . by_cases ha : a = p
   . subst ha; rw [bu] at q ⊢; exact q
   . rw [aK ha] at q ⊢; exact S.zh a o q
 . by_cases ha : a = p
   . subst ha; exact S.bh.free hp
   . rw [aK ha] at q; exact S.new a o q z
 . by_cases ha : a = p
   . subst ha; rw [bu] at q ⊢; exact q
   . rw [aK ha] at q ⊢; exact S.tp a o q i
theorem cy.zJ {p : Addr} {g0 : List Addr} (S : cy K CL b H Z δ σ (tl.reverse ++ ts) (us.reverse ++ vs)) (hl : us.length = tl.length) (hp : H p = none) :
   aM H (upd H p (.lst us)) /\ cy K CL b (upd H p (.lst us)) Z δ σ (.lst tl :: ts) (.ref p :: vs) := by
 obtain ⟨fp, gp, e, r, nd, k⟩ := S.rep
 obtain ⟨g1, g2, eg, r1, r2⟩ := aZ.split (by simp [hl]) r
 subst eg
 obtain ⟨g', r', pm⟩ := r1.rev
 have zp : Z p = none := S.zh.free hp
 have sh : aM H (upd H p (.lst us)) := aM.upd hp
 have keep : ∀ a ∈ fp ++ (g1 ++ g2), a ≠ p := fun a ha => by
   have : ∃ o, H a = some o := by
     rcases al7.mp ha with h | h
     . exact e.there a h
     . exact r.there a h
   obtain ⟨o, q⟩ := this
   exact bX q hp
 have pm2 : (fp ++ (g' ++ g2)).Perm (fp ++ (g1 ++ g2)) := (pm.append_right g2).append_left fp
 have kk : ∀ a ∈ fp ++ (g' ++ g2), a ≠ p := fun a ha => keep a (pm2.mem_iff.mp ha)
 have pm3 : (fp ++ ((p :: g') ++ g2)).Perm (p :: (fp ++ (g' ++ g2))) := by
   rw [ami]; exact amU
 refine ⟨sh, ⟨⟨fp, (p :: g') ++ g2, e.mono (.refl _) (fun a ha => aK (keep a (al4 _ ha))), .cons (.lst bu (r'.mono (.refl _) fun a ha => aK (kk a (by simp [ha])))) (r2.mono (.refl _) fun a ha => aK (keep a (by simp [ha]))), ?_, fun a ha => ?_⟩, S.bh.trans sh, S.zz, S.zh.trans sh, S.new, fun a o q i => ?_, S.tab⟩⟩
 . refine pm3.nodup_iff.mpr (amO.mpr ⟨fun h => kk p h rfl, pm2.nodup_iff.mpr nd⟩)
 . rcases al6.mp (pm3.mem_iff.mp ha) with h | h
   . subst h; exact ⟨zp, S.bh.free hp⟩
   . exact k a (pm2.mem_iff.mp h)
 . by_cases ha : a = p
   . subst ha; rw [bu] at q; cases q; cases i
   . rw [aK ha] at q; exact S.tp a o q i
end
section
variable {X : Cx} {CL : Str -> Addr} {b : Bx} {δ δ1 δ2 δ3 : List (Option T)} {e e1 e2 e3 : Expr} {es : List Expr} {t t1 t2 : T} {d d1 d2 : D} {tl : List T} {ds : List D} {p q : Bool} {pos : Pos}
theorem dU : P8 X CL b [] δ [] δ := fun H Z σ ts vs Q S k => RT gf (k [] H Z rfl (.refl _) (.refl _) S)
theorem bC (h1 : cY X CL b e δ t δ1) (h2 : P8 X CL b es δ1 tl δ2) (hs : starEach (e :: es) X.env = (false, eval e X.env) :: starEach es X.env := by exact cz rfl) : P8 X CL b (e :: es) δ (t :: tl) δ2 := fun H Z σ ts vs Q S k =>
 RT (c9 eU XU hs) (h1 H Z σ ts vs _ S fun v H1 Z1 z1 k1 S1 => h2 H1 Z1 σ _ _ _ S1 fun us H2 Z2 hl z2 k2 S2 => k (v :: us) H2 Z2 (by simp [hl]) (z1.trans z2) (k1.trans k2) (by
   rw [amW, amW, alZ, alZ]
   exact S2))
theorem aI : Vw X CL b [] δ [] δ := fun H Z σ ts vs Q S k => RT gf (k [] H Z (.refl _) (.refl _) S .nil)
theorem aq (h1 : dz X CL b e δ d δ1) (h2 : Vw X CL b es δ1 ds δ2) (hs : starEach (e :: es) X.env = (false, eval e X.env) :: starEach es X.env := by exact cz rfl) : Vw X CL b (e :: es) δ (d :: ds) δ2 := fun H Z σ ts vs Q S k =>
 RT (c9 eU XU hs) (h1 H Z σ ts vs _ S fun v H1 Z1 z1 k1 S1 r1 => h2 H1 Z1 σ _ _ _ S1 fun us H2 Z2 z2 k2 S2 r2 => k (v :: us) H2 Z2 (z1.trans z2) (k1.trans k2) S2 (.cons (r1.mono k2) r2))
theorem VA {j : Nat} (h : P8 X CL b es δ tl δ1) (hl : tl.length <= sizeLine) : cY X CL b (.Tuple es j pos) δ (.tup tl) δ1 := fun H Z σ ts vs Q S k =>
 dw (abH XU) (h H Z σ ts vs _ S fun us H1 Z1 hu z1 k1 S1 => ⟨by rw [hu]; exact hl, fun p hp => by
   obtain ⟨a, c, S2⟩ := S1.Vz hu hp
   exact k _ _ _ (z1.trans a) (k1.trans c) S2⟩)
theorem ni {j : Nat} (h : P8 X CL b es δ (ds.map T.sh) δ1) (hl : ds.length <= sizeLine) : cY X CL b (.Tuple es j pos) δ (.sh (.tup ds)) δ1 := by
 have := Vx (VA (pos := pos) (j := j) h (by simpa using hl))
 rwa [T.iY, qN] at this
theorem e9 (h : P8 X CL b es δ tl δ1) (hl : tl.length <= sizeLine) : cY X CL b (.List es pos) δ (.lst tl) δ1 := fun H Z σ ts vs Q S k =>
 dw (abI XU) (h H Z σ ts vs _ S fun us H1 Z1 hu z1 k1 S1 => ⟨by rw [hu]; exact hl, fun p hp => by
   obtain ⟨c, S2⟩ := S1.zJ (g0 := []) hu hp
   exact k _ _ _ z1 (k1.trans c) S2⟩)
theorem eG (h : cY X CL b e δ (.sh (.bl p)) δ1) (he : ∀ whole, isTrue e X.env whole = (do let v ← whole; standAt e.pos; holding [v] (truthy v)) := by intro _; rfl) : qM X CL b e δ p δ1 := fun H Z σ ts vs Q S k =>
 EZ (abh eU he) (h H Z σ ts vs _ S fun v H1 Z1 z1 k1 S1 => ⟨p, by have := S1.view; rw [T.iY] at this; exact this.sc rfl, k H1 Z1 z1 k1 S1.pop⟩)
theorem cN (h : qM X CL b e δ p δ1) : qM X CL b (.UnaryOp .Not e pos) δ (!p) δ1 := fun H Z σ ts vs Q S k => EZ (abk ptS) (h H Z σ ts vs _ S fun H1 Z1 z1 k1 S1 => k H1 Z1 z1 k1 S1)
noncomputable def ab0 (X : Cx) (e : Expr) : TT := fun σ H Q => ∀ (whole : Sem Value) (pins : List (Addr × Obj)) (s : Shared), Inv X pins σ H s -> wpAny (model X.prog X.w) X.A (isTrue e X.env whole) (TP X pins σ Q) X.xe s
theorem pwS {e : Expr} : PW X e (ab0 X e) := fun whole pins s _ _ _ I h => h whole pins s I
noncomputable def TWv (X : Cx) (CL : Str -> Addr) (b : Bx) (e : Expr) (δ : List (Option T)) (p : Bool) (δ' : List (Option T)) : Prop :=
 ∀ (H Z : Hp) (σ : L2.St) (ts : List T) (vs : List V) (Q : Bool -> Hp -> Prop), cy X.K CL b H Z δ σ ts vs -> (∀ H' Z', aM Z Z' -> aM H H' -> cy X.K CL b H' Z' δ' σ ts vs -> Q p H') -> ab0 X e σ H Q
theorem YF {t : TT} (h : PW X e t) {σ : L2.St} {H : Hp} {Q : Bool -> Hp -> Prop} (q : t σ H Q) : ab0 X e σ H Q := fun whole pins s I => h whole pins s σ H Q I q
theorem gD (h : TWv X CL b e δ p δ1) : qM X CL b e δ p δ1 := fun H Z σ ts vs Q S k pins s I => h H Z σ ts vs Q S k _ pins s I
theorem lT (h : qM X CL b e δ p δ1) : TWv X CL b (.BoolOp .And [e] pos) δ p δ1 := fun H Z σ ts vs Q S k => YF (Yb ptS) (h H Z σ ts vs _ S k)
theorem gE (h : qM X CL b e δ p δ1) : TWv X CL b (.BoolOp .Or [e] pos) δ p δ1 := fun H Z σ ts vs Q S k => YF (abi ptS) (h H Z σ ts vs _ S k)
theorem gF (h : qM X CL b e δ p δ1) (h2 : p = true -> TWv X CL b (.BoolOp .And (e2 :: es) pos) δ1 q δ1) : TWv X CL b (.BoolOp .And (e :: e2 :: es) pos) δ (p && q) δ1 := fun H Z σ ts vs Q S k =>
 YF (abj ptS pwS) (h H Z σ ts vs _ S fun H1 Z1 z1 k1 S1 => by
   cases p with
   | true => exact Mg (h2 rfl H1 Z1 σ ts vs _ S1 fun H2 Z2 z2 k2 S2 => k H2 Z2 (z1.trans z2) (k1.trans k2) S2)
   | false => exact Mf (k H1 Z1 z1 k1 S1))
theorem fu (h : qM X CL b e δ p δ1) (h2 : p = false -> TWv X CL b (.BoolOp .Or (e2 :: es) pos) δ1 q δ1) : TWv X CL b (.BoolOp .Or (e :: e2 :: es) pos) δ (p || q) δ1 := fun H Z σ ts vs Q S k =>
 YF (aen ptS pwS) (h H Z σ ts vs _ S fun H1 Z1 z1 k1 S1 => by
   cases p with
   | true => exact Mg (k H1 Z1 z1 k1 S1)
   | false => exact Mf (h2 rfl H1 Z1 σ ts vs _ S1 fun H2 Z2 z2 k2 S2 => k H2 Z2 (z1.trans z2) (k1.trans k2) S2))
theorem j7 {op : BoolOp} (h : cY X CL b e δ t δ1) : cY X CL b (.BoolOp op [e] pos) δ t δ1 := fun H Z σ ts vs Q S k => dw (abl eU) (h H Z σ ts vs _ S k)
theorem jD (h : cY X CL b e δ (.sh (.bl p)) δ1) (h2 : p = true -> cY X CL b (.BoolOp .And (e2 :: es) pos) δ1 (.sh (.bl q)) δ1) : cY X CL b (.BoolOp .And (e :: e2 :: es) pos) δ (.sh (.bl (p && q))) δ1 := fun H Z σ ts vs Q S k =>
 dw (abm eU eU) (h H Z σ ts vs _ S fun v H1 Z1 z1 k1 S1 => by
   have hv : v = .bl p := by have := S1.view; rw [T.iY] at this; exact this.sc rfl
   refine ⟨p, hv, ?_⟩
   cases p with
   | true => exact Mg (h2 rfl H1 Z1 σ ts vs _ S1.pop fun v H2 Z2 z2 k2 S2 => k v H2 Z2 (z1.trans z2) (k1.trans k2) S2)
   | false => exact Mf (k _ H1 Z1 z1 k1 (S1.pop.push (.bl false))))
theorem Qc (h : cY X CL b e δ (.sh (.bl p)) δ1) (h2 : p = false -> cY X CL b (.BoolOp .Or (e2 :: es) pos) δ1 (.sh (.bl q)) δ1) : cY X CL b (.BoolOp .Or (e :: e2 :: es) pos) δ (.sh (.bl (p || q))) δ1 := fun H Z σ ts vs Q S k =>
 dw (aep eU eU) (h H Z σ ts vs _ S fun v H1 Z1 z1 k1 S1 => by
   have hv : v = .bl p := by have := S1.view; rw [T.iY] at this; exact this.sc rfl
   refine ⟨p, hv, ?_⟩
   cases p with
   | true => exact Mg (k _ H1 Z1 z1 k1 (S1.pop.push (.bl true)))
   | false => exact Mf (h2 rfl H1 Z1 σ ts vs _ S1.pop fun v H2 Z2 z2 k2 S2 => k v H2 Z2 (z1.trans z2) (k1.trans k2) S2))
theorem ab2 (h : qM X CL b e δ p δ1) (h1 : p = true -> cY X CL b e1 δ1 t δ2) (h2 : p = false -> cY X CL b e2 δ1 t δ2) : cY X CL b (.IfExp e e1 e2 pos) δ t δ2 := fun H Z σ ts vs Q S k =>
 dw (UT ptS eU eU) (h H Z σ ts vs _ S fun H1 Z1 z1 k1 S1 => by
   cases p with
   | true => exact Mg (h1 rfl H1 Z1 σ ts vs _ S1 fun v H2 Z2 z2 k2 S2 => k v H2 Z2 (z1.trans z2) (k1.trans k2) S2)
   | false => exact Mf (h2 rfl H1 Z1 σ ts vs _ S1 fun v H2 Z2 z2 k2 S2 => k v H2 Z2 (z1.trans z2) (k1.trans k2) S2))
theorem Ga {K : PySem.W.Frag} {Z : Hp} {vs : List V} {k : Int} (r : aL K CL Z ds vs) (h : BD ds k = some d) : ∃ v, BD vs k = some v /\ bS K CL Z d v := by
 unfold BD at h ⊢
 rw [← r.length]
 cases e : RL ds.length k with
 | none => rw [e] at h; cases h
 | some j =>
   rw [e] at h
   exact r.get h
theorem aP {k : Int} (h1 : dz X CL b e1 δ (.tup ds) δ1) (h2 : dz X CL b e2 δ1 (.int k) δ2) (hk : BD ds k = some d) (hs : xO e2 := by exact fun _ _ => rfl) : dz X CL b (.Subscript e1 e2 pos) δ d δ2 := fun H Z σ ts vs Q S kk =>
 dw (Fi Vd eU eU hs) (h1 H Z σ ts vs _ S fun v1 H1 Z1 z1 k1 S1 r1 => h2 H1 Z1 σ ts vs _ S1 fun v2 H2 Z2 z2 k2 S2 r2 => by
   have r1' := r1.mono k2
   cases r1' with
   | tup hq rr =>
     obtain ⟨v, hv, rv⟩ := Ga rr hk
     exact ⟨_, _, k, v, rfl, r2.sc rfl, hq, hv, kk v H2 Z2 (z1.trans z2) (k1.trans k2) S2 rv⟩)
theorem aU {k : Int} (h1 : dz X CL b e1 δ (.lst ds) δ1) (h2 : dz X CL b e2 δ1 (.int k) δ2) (hk : BD ds k = some d) (hs : xO e2 := by exact fun _ _ => rfl) : dz X CL b (.Subscript e1 e2 pos) δ d δ2 := fun H Z σ ts vs Q S kk =>
 dw (Fi F5 eU eU hs) (h1 H Z σ ts vs _ S fun v1 H1 Z1 z1 k1 S1 r1 => h2 H1 Z1 σ ts vs _ S1 fun v2 H2 Z2 z2 k2 S2 r2 => by
   have r1' := r1.mono k2
   cases r1' with
   | lst hq rr =>
     obtain ⟨v, hv, rv⟩ := Ga rr hk
     exact ⟨_, _, k, v, rfl, r2.sc rfl, hq, hv, kk v H2 Z2 (z1.trans z2) (k1.trans k2) S2 rv⟩)
theorem VB {k : Int} {x : Str} {c : Nat} (h1 : dz X CL b e1 δ (.str x) δ1) (h2 : dz X CL b e2 δ1 (.int k) δ2) (hl : x.length <= sizeLine) (hk : BD x.cps.toList k = some c) (hs : xO e2 := by exact fun _ _ => rfl) : cY X CL b (.Subscript e1 e2 pos) δ (.sh (.str ⟨#[c]⟩)) δ2 := fun H Z σ ts vs Q S kk =>
 dw (Fi abM eU eU hs) (h1 H Z σ ts vs _ S fun v1 H1 Z1 z1 k1 S1 r1 => h2 H1 Z1 σ ts vs _ S1 fun v2 H2 Z2 z2 k2 S2 r2 =>
   ⟨x, k, c, r1.sc rfl, r2.sc rfl, hl, hk, kk _ H2 Z2 (z1.trans z2) (k1.trans k2) (S2.push (.str _))⟩)
theorem Gb {k : Int} (h1 : cY X CL b e1 δ (.sh (.lst ds)) δ1) (h2 : dz X CL b e2 δ1 (.int k) δ2) (hk : BD ds k = some d) (hs : xO e2 := by exact fun _ _ => rfl) : cY X CL b (.Subscript e1 e2 pos) δ (.sh d) δ2 := fun H Z σ ts vs Q S kk =>
 dw (Fi F5 eU eU hs) (h1 H Z σ ts vs _ S fun v1 H1 Z1 z1 k1 S1 => h2 H1 Z1 σ _ _ _ S1 fun v2 H2 Z2 z2 k2 S2 r2 => by
   obtain ⟨fp, gp, _, r, _, _⟩ := S2.rep
   cases r with
   | cons r _ =>
     cases r with
     | sh r =>
       cases r with
       | lst hq rr =>
         obtain ⟨v, hv, rv⟩ := Ga rr hk
         exact ⟨_, _, k, v, rfl, r2.sc rfl, S2.zh.seq hq, hv, kk v H2 Z2 (z1.trans z2) (k1.trans k2) (S2.pop.push rv)⟩)
end
section
variable {K : PySem.W.Frag} {CL : Str -> Addr} {b : Bx} {H H' Z Z' : Hp} {δ δ' : List (Option T)} {σ σ' : L2.St} {ts tl : List T} {vs us : List V} {t : T} {v : V}
theorem cy.C3 : ∀ {ds : List D} {us : List V} {ts : List T} {vs : List V}, aL K CL Z ds us -> cy K CL b H Z δ σ ts vs -> cy K CL b H Z δ σ ((ds.map T.sh).reverse ++ ts) (us.reverse ++ vs)
 | _, _, _, _, .nil, S => S
 | _, _, ts, vs, .cons (d := d) (v := v) (ds := ds) (vs := us) r t, S => by
   rw [amh, amW, amW, alZ, alZ]
   exact cy.C3 t (S.push r)
end
section
variable {X : Cx} {CL : Str -> Addr} {b : Bx} {δ δ1 δ2 δ3 : List (Option T)} {e e1 e2 e3 : Expr} {es : List Expr} {t t1 t2 : T} {d d1 d2 : D} {tl : List T} {ds : List D} {p q : Bool} {pos pp : Pos}
theorem Qd (hm : X.mg "len" = none) (h : dz X CL b e δ (.lst ds) δ1) (hg : Gl X "len" := by rfl) (hs : starEach [e] X.env = (false, eval e X.env) :: starEach [] X.env := by exact cz rfl) (hpl : (backTo pos (starEach ([] : List Expr) X.env)).any (·.1) = false := by rfl) : cY X CL b (.Call (.Name "len" pp) [e] [] pos) δ (.sh (.int ds.length)) δ1 := fun H Z σ ts vs Q S k =>
 dw (n6 xQ hg hm PySem.boot_len (c9 eU gf hs) (he := hs)) (h H Z σ ts vs _ S fun v H1 Z1 z1 k1 S1 r => by
   cases r with
   | lst hq rr => exact ⟨_, _, rfl, .inl hq, by rw [← rr.length]; exact k _ H1 Z1 z1 k1 (S1.push (.int _))⟩)
theorem Qe (hm : X.mg "len" = none) (h : dz X CL b e δ (.tup ds) δ1) (hg : Gl X "len" := by rfl) (hs : starEach [e] X.env = (false, eval e X.env) :: starEach [] X.env := by exact cz rfl) : cY X CL b (.Call (.Name "len" pp) [e] [] pos) δ (.sh (.int ds.length)) δ1 := fun H Z σ ts vs Q S k =>
 dw (n6 xQ hg hm PySem.boot_len (c9 eU gf hs) (he := hs)) (h H Z σ ts vs _ S fun v H1 Z1 z1 k1 S1 r => by
   cases r with
   | tup hq rr => exact ⟨_, _, rfl, .inr hq, by rw [← rr.length]; exact k _ H1 Z1 z1 k1 (S1.push (.int _))⟩)
theorem Qf {x : Str} (hm : X.mg "len" = none) (h : dz X CL b e δ (.str x) δ1) (hl : x.length <= sizeLine) (hg : Gl X "len" := by rfl) (hs : starEach [e] X.env = (false, eval e X.env) :: starEach [] X.env := by exact cz rfl) : cY X CL b (.Call (.Name "len" pp) [e] [] pos) δ (.sh (.int x.length)) δ1 := fun H Z σ ts vs Q S k =>
 dw (n6 F7 hg hm PySem.boot_len (c9 eU gf hs) (he := hs)) (h H Z σ ts vs _ S fun v H1 Z1 z1 k1 S1 r => ⟨x, by rw [r.sc rfl], hl, k _ H1 Z1 z1 k1 (S1.push (.int _))⟩)
theorem dY (hm : X.mg "list" = none) (h : dz X CL b e δ (.lst ds) δ1) (hi : D.cM ds = true) (hg : Gl X "list" := by rfl) (hv : bootBuiltins "list" = some (.type "list") := by rfl) (hs : starEach [e] X.env = (false, eval e X.env) :: starEach [] X.env := by exact cz rfl) : cY X CL b (.Call (.Name "list" pp) [e] [] pos) δ (.lst (ds.map T.sh)) δ1 := fun H Z σ ts vs Q S k =>
 dw (qq F8 hg hm hv (c9 eU gf hs) (he := hs)) (h H Z σ ts vs _ S fun v H1 Z1 z1 k1 S1 r => by
   cases r with
   | lst hq rr =>
     refine ⟨_, _, rfl, .inl hq, fun l hl => ?_⟩
     obtain ⟨c, S2⟩ := (cy.C3 (aL.rW S1.tp hi rr) S1).zJ (g0 := []) (by simp [rr.length]) hl
     exact k _ _ _ z1 (k1.trans c) S2)
noncomputable def nT (K : PySem.W.Frag) (CL : Str -> Addr) {A : Type} (n : Nat) (arg : A -> List D) (Pre : A -> Prop) (res : A -> T) : Sp := fun vs H Q _ =>
 ∃ (W : Hp) (a : A), aM W H /\ (∀ c o, H c = some o -> qc o = true -> W c = some o) /\ aL K CL W (arg a) vs /\ (arg a).length = n /\ Pre a /\ qL CL W ∧
   ∀ v H' W' fp, aM H H' -> aM W W' -> aM W' H' -> (∀ c o, W' c = some o -> W c = none -> H c = none) -> (∀ c o, H' c = some o -> qc o = true -> W' c = some o) →
     dN K CL H' W' (res a) v fp -> fp.Nodup -> (∀ c ∈ fp, W' c = none /\ H c = none) -> Q v H'
section
variable {A : Type} {k n : Nat} {f : Addr} {fd : FuncData} {ps : List Str} {arg : A -> List D} {Pre : A -> Prop} {res : A -> T} {x : Str}
theorem YG (a : A) (F : cJ X.prog X.w X.K X.mg X.base lF k f fd ps (nT X.K CL n arg Pre res)) (hr : jk k X.A) (hm : X.mg x = some (.ref f)) (hk : PySem.W.keepIn X.K (.ref f) = true) (hb : Binds X.K fd ps [])
   (h : Vw X CL b (e :: es) δ (arg a) δ1) (hn : (arg a).length = n) (hp : Pre a) (hc : (res a).clean = true) (hg : Gl X x)
   (CZ : (x == ("__debug__" : Str)) = false := by decide) (he : starEach (e :: es) X.env = (false, eval e X.env) :: starEach es X.env := by exact cz rfl) (hpl : (backTo pos (starEach es X.env)).any (·.1) = false := by rfl) :
   cY X CL b (.Call (.Name x pp) (e :: es) [] pos) δ (res a) δ1 := fun H Z σ ts vs Q S kk =>
 dw (Yl F hr hg hm hk hb .nil P5 XU CZ he hpl) (h H Z σ ts vs _ S fun us H1 Z1 z1 k1 S1 r => by
   rw [amH]
   refine ⟨H1, a, .refl _, fun _ _ q _ => q, r, hn, hp, S1.Vt, fun v H' W' fp hh ww wh nw tp rt nd own => ?_⟩
   obtain ⟨Z', z', S'⟩ := S1.back hh S1.zh ww wh nw tp rt nd own (.inr hc)
   exact kk v H' Z' (z1.trans z') (k1.trans hh) S')
end
variable {D D' : dg} {st : Stmt} {eW ae1 : List Stmt}
theorem Meets.to {K : PySem.W.Frag} {Z : Hp} {ts : List T} {vs : List V} {E : Ends} (M : Meets K CL b Z ts vs D E) (h1 : ∀ δ, D'.nx δ -> D.nx δ) (h2 : ∀ t δ, D'.rt t δ -> D.rt t δ) (h3 : ∀ δ, D'.bk δ -> D.bk δ) (h4 : ∀ δ, D'.ct δ -> D.ct δ) : Meets K CL b Z ts vs D' E :=
 ⟨fun _ _ _ _ s S k => M.nx _ _ _ _ s S (h1 _ k), fun _ _ _ _ _ _ s S k => M.rt _ _ _ _ _ _ s S (h2 _ _ k), fun _ _ _ _ s S k => M.bk _ _ _ _ s S (h3 _ k), fun _ _ _ _ s S k => M.ct _ _ _ _ s S (h4 _ k)⟩
theorem az (h : D.nx δ) : gw X CL b [] δ D := fun H Z σ ts vs E S M => abV Yc (M.nx δ σ H Z (.refl _) S h)
theorem dD (h : XY X CL b st δ { D with nx := fun δ1 => gw X CL b eW δ1 D }) : gw X CL b (st :: eW) δ D := fun H Z σ ts vs E S M =>
 abV (Iz psS XW) (h H Z σ ts vs _ S ⟨fun δ' σ' H' Z' s S' k => k H' Z' σ' ts vs E S' (M.mono s), M.rt, M.bk, M.ct⟩)
theorem ab3 (h : cY X CL b e δ t δ1) (k : D.rt t δ1) : XY X CL b (.Return (some e) pos) δ D := fun H Z σ ts vs E S M => zI (abn eU) (h H Z σ ts vs _ S fun v H1 Z1 z1 k1 S1 => M.rt t v H1 Z1 δ1 σ z1 S1 k)
theorem ae2 (h : qM X CL b e δ p δ1) (h1 : p = true -> gw X CL b eW δ1 D) (h2 : p = false -> gw X CL b ae1 δ1 D) : XY X CL b (.If e eW ae1 pos) δ D := fun H Z σ ts vs E S M =>
 zI (aes ptS XW XW) (h H Z σ ts vs _ S fun H1 Z1 z1 k1 S1 => by
   cases p with
   | true => exact Mg (h1 rfl H1 Z1 σ ts vs E S1 (M.mono z1))
   | false => exact Mf (h2 rfl H1 Z1 σ ts vs E S1 (M.mono z1)))
theorem Mj (i : Nat) {x : Str} {pos' : Pos} (h : cY X CL b e δ t δ1) (k : D.nx (δ1.set i (some t))) (hl : i < δ1.length := by decide) (hN : X.N.Nodup := by assumption) (hi : X.N[i]? = some x := by rfl) (hx : Loc X.env.scope x := by first | exact .inl rfl | exact .inr rfl)
   (hs : swapsWith e (some (.Name x pos')) pos.line X.env = pure false := by rfl) (hf : X.fn x = true \/ X.env.scope.names.lookup x = some .local := by first | exact .inl rfl | exact .inr rfl | assumption) : XY X CL b (.Assign [.Name x pos'] e pos) δ D := fun H Z σ ts vs E S M =>
 zI (UU hN hi hx eU hs hf) (h H Z σ ts vs _ S fun v H1 Z1 z1 k1 S1 => M.nx _ _ H1 Z1 z1 (S1.set hl) k)
end
noncomputable def entry (N : List Str) (ds : List D) : List (Option T) := ds.map (fun d => some (T.sh d)) ++ List.replicate (N.length - ds.length) none
theorem n8 {K : PySem.W.Frag} {CL : Str -> Addr} {H Z : Hp} : ∀ {ds : List D} {vs : List V} (n : Nat), aL K CL Z ds vs -> i6 K CL H Z (ds.map (fun d => some (T.sh d)) ++ List.replicate n none) (vs.map some ++ List.replicate n none) []
 | _, _, 0, .nil => .nil
 | _, _, n + 1, .nil => .skip (n8 (ds := []) (vs := []) n .nil)
 | _, _, n, .cons r t => .cons (fp := []) (gp := []) (.sh r) (n8 n t)
theorem bx {P : Program} {w : World} {K : PySem.W.Frag} {mg : Str -> Option Value} {base : Heap} {CL : Str -> Addr} {x qual : Str} {st : Stmt} {f : Addr} {fd : FuncData} {N ps : List Str} {k : Nat} {A : Type} {arg : A -> List D} {Pre : A -> Prop} {res : A -> T} (F : nS K x qual st f fd) (S : aT N ps (aA st))
   (hb : ∀ (gu : Value) (Ar : Around) (outer : List Env) (s : Shared) (H : Hp) (E : XK) (b : Bx) (a : A), jk k (Ar.deeper (envOfC qual (aA st) s.heap.objs.size f gu)) -> Pre a →
     gw (EW lF P w K mg base N qual (aA st) f gu Ar outer s H E).nox CL b (iZ st) (entry N (arg a)) { nx := fun _ => res a = .sh .non, rt := fun t _ => t = res a }) :
   cJ P w K mg base lF (k + 1) f fd ps (nT K CL ps.length arg Pre res) := by
 refine F.ok S (fun vs H Q E h => ?_) (fun gu Ar outer s H vs Q E hr h => ?_)
 . obtain ⟨W, a, _, _, r, hl, _⟩ := h
   rw [← r.length]; exact hl
 . obtain ⟨W, a, wh, tp, r, hl, hp, tb, kk⟩ := h
   refine ⟨_, XW, hb gu Ar outer s H E ⟨H, W⟩ a hr hp H W _ [] [] _ ⟨⟨[], [], ?_, .nil, am7, fun a ha => by cases ha⟩, .refl _, .refl _, wh, fun a o q z => ?_, tp, tb⟩ ⟨fun δ' σ' H' Z' s' S' e => ?_, fun t v H' Z' δ' σ' s' S' e => ?_, fun _ _ _ _ _ _ e => e.elim, fun _ _ _ _ _ _ e => e.elim⟩⟩
   . unfold entry L2.start
     rw [← r.length]
     exact n8 _ r
   . have q' : W a = some o := q
     have z' : W a = none := z
     rw [q'] at z'; cases z'
   . exact kk .non H' Z' [] S'.bh S'.zz S'.zh S'.new S'.tp (by rw [show res a = .sh .non from e]; exact .sh .non) am7 fun a ha => by cases ha
   . have e' : t = res a := e
     subst e'
     obtain ⟨fp, gp, _, r', nd, own⟩ := S'.rep
     cases r' with
     | @cons _ _ _ _ f1 f2 r1 r2 =>
       have h1 := (amK.mp nd).2.1
       exact kk v H' Z' f1 S'.bh S'.zz S'.zh S'.new S'.tp r1 (amK.mp h1).1 fun a ha => own a (alU _ (al4 _ ha))
section
variable {prog : Program} {w : World} {A : Around} {R : Result -> Shared -> Prop} {s : Shared}
theorem Gd {elt target iter : Expr} {ifs : List Expr} {scope : Scope} {pos : Pos} {it acc : Value} {env : Env} (I : Nat -> Shared -> Prop)
   (turn : ∀ n s, I n s -> wpAny (model prog w) A (pyNext it) (fun r s₁ => match r with
     | none => R (.ok .next) s₁
     | some v => wpAny (model prog w) A (letOwnedTupleGo target it v) (fun _ s₁' => wpAny (model prog w) A (assign target env v) (fun _ s₂ =>
         wpAny (model prog w) A (forIn ifs true fun c r => if r = true then do let ok ← isTrue c env (eval c env); pure (ForInStep.yield ok) else pure (ForInStep.yield r)) (fun ok s₃ =>
           if ok = true then wpAny (model prog w) A (eval elt env) (fun x s₄ =>
             wpAny (model prog w) A (call (.builtin "list.append") [acc, x]) (fun _ s₅ => ∃ m, m < n /\ I m s₅) (fun _ _ => False) s₄) (fun _ _ => False) s₃
           else ∃ m, m < n /\ I m s₃) (fun _ _ => False) s₂) (fun _ _ => False) s₁') (fun _ _ => False) s₁) (fun _ _ => False) s)
   (n : Nat) (h : I n s) :
   codeAny (model prog w) A (.compLoop (.ListComp elt [⟨target, iter, ifs, 0⟩] scope pos) 0 it acc env) R s := by
 refine codeAny_loop rfl I (fun n s hI => ?_) n h
 show wpAny _ A ((compTurn (.ListComp elt [⟨target, iter, ifs, 0⟩] scope pos) 0 it acc env).onRaise (fun x => do noteFrame x env; theTreesLotGoes x)) _ _ s
 refine wpAny_noted ?_
 rw [compTurn_list]
 refine amq (wpAny_standAt (amq (amV (turn n s hI) (fun r s₁ h₁ => ?_) fun _ _ h' => h'.elim)))
 cases r with
 | none => exact amL h₁
 | some v =>
   refine amq (amV h₁ (fun _ s₁' h₁' => ?_) fun _ _ h' => h'.elim)
   refine amq (amV h₁' (fun _ s₂ h₂ => amq (amV h₂ (fun ok s₃ h₃ => ?_) fun _ _ h' => h'.elim)) fun _ _ h' => h'.elim)
   cases ok with
   | false => exact amL ⟨rfl, h₃⟩
   | true =>
     exact amq (amq (amV h₃ (fun x s₄ h₄ => amq (amV h₄ (fun _ s₅ h₅ => amL (amL ⟨rfl, h₅⟩)) fun _ _ h' => h'.elim)) fun _ _ h' => h'.elim))
end
noncomputable def j8 (env : Env) : List (Str × NameKind) -> List (Str × Addr) -> List (Str × Addr)
 | [], cs => cs
 | (n, k) :: r, cs => j8 env r (if k == .free then (n, (env.cells.lookup n).getD 0) :: cs else cs)
theorem E1 {scope : Scope} {env : Env} (h : ∀ x ∈ scope.names, x.2 = .free -> ∃ c, env.cells.lookup x.1 = some c) : closureFor scope env = pure (j8 env scope.names []) := by
 have go : ∀ (l : List (Str × NameKind)) (cs : List (Str × Addr)), (∀ x ∈ l, x.2 = .free -> ∃ c, env.cells.lookup x.1 = some c) →
     (forIn l cs fun x r => match x with | (name, kind) => if (kind == NameKind.free) = true then do let a ← cellOf env name; pure (ForInStep.yield ((name, a) :: r)) else pure (ForInStep.yield r) : Sem (List (Str × Addr))) = pure (j8 env l cs) := by
   intro l
   induction l with
   | nil => intro cs _; rfl
   | cons x r ih =>
     intro cs hx
     obtain ⟨n, k⟩ := x
     rw [List.forIn_cons]
     by_cases hk : k = .free
     . subst hk
       obtain ⟨c, hc⟩ := hx (n, .free) al0 rfl
       have e : cellOf env n = pure c := by unfold cellOf; rw [hc]
       simp only [beq_self_eq_true, if_true, e, pure_bind]
       rw [ih _ fun y hy => hx y (al3 _ hy)]
       simp only [j8, beq_self_eq_true, if_true]
       rw [hc]; rfl
     . have hb : (k == NameKind.free) = false := by simpa using hk
       simp only [hb, Bool.false_eq_true, if_false, pure_bind]
       rw [ih _ fun y hy => hx y (al3 _ hy)]
       simp only [j8, hb, Bool.false_eq_true, if_false]
 unfold closureFor
 have := go scope.names [] h
 simp only [bind_pure] at this ⊢
 exact this
theorem vJ {env : Env} : ∀ {l : List (Str × NameKind)} {cs : List (Str × Addr)} {y : Str} {c : Addr}, (∀ x ∈ l, x.2 = .free -> ∃ c, env.cells.lookup x.1 = some c) -> (∀ y c, cs.lookup y = some c -> env.cells.lookup y = some c) →
   (j8 env l cs).lookup y = some c -> env.cells.lookup y = some c
 | [], cs, y, c, _, h, e => h y c e
 | (n, k) :: r, cs, y, c, hx, h, e => by
   refine vJ (l := r) (fun z hz => hx z (al3 _ hz)) (fun z d hz => ?_) e
   by_cases hk : k = .free
   . subst hk
     obtain ⟨c', hc⟩ := hx (n, .free) al0 rfl
     simp only [beq_self_eq_true, if_true, hc, Option.getD_some, amG] at hz
     by_cases hzn : (z == n) = true
     . rw [hzn] at hz
       have : z = n := by simpa using hzn
       subst this
       cases hz
       exact hc
     . have : (z == n) = false := by simpa using hzn
       rw [this] at hz
       exact h z d hz
   . have hb : (k == NameKind.free) = false := by simpa using hk
     rw [hb] at hz
     exact h z d hz
theorem Bb {env : Env} {y : Str} : ∀ {l : List (Str × NameKind)} {cs : List (Str × Addr)}, (∃ c, cs.lookup y = some c) -> ∃ c, (j8 env l cs).lookup y = some c
 | [], cs, h => h
 | (n, k) :: r, cs, h => by
   refine Bb (l := r) ?_
   by_cases hk : (k == NameKind.free) = true
   . rw [alW hk, amG]
     by_cases hy : (y == n) = true
     . rw [hy]; exact ⟨_, rfl⟩
     . have : (y == n) = false := by simpa using hy
       rw [this]; exact h
   . rw [alT hk]; exact h
theorem vK {env : Env} {y : Str} : ∀ {l : List (Str × NameKind)} {cs : List (Str × Addr)}, l.lookup y = some .free -> ∃ c, (j8 env l cs).lookup y = some c
 | [], _, h => by simp at h
 | (n, k) :: r, cs, h => by
   rw [amG] at h
   by_cases hy : (y == n) = true
   . rw [hy] at h
     cases h
     refine Bb (l := r) ?_
     rw [alW (by rfl), amG, hy]
     exact ⟨_, rfl⟩
   . have : (y == n) = false := by simpa using hy
     rw [this] at h
     exact vK (l := r) h
noncomputable def fc (X : Cx) (scope : Scope) (Nc : List Str) (C : Addr) (s : Shared) (H : Hp) (fp : List Addr) : Cx where
 prog := X.prog
 w := X.w
 K := X.K
 mg := X.mg
 base := X.base
 A := X.A
 N := Nc
 s₀ := s
 H₀ := H
 env := compEnvC scope (j8 X.env scope.names []) C X.env
 outer := X.stack
 stack := X.stack
 ex := fp
 fn := fun _ => false
 calm := X.calm
 pn := []
 xe := fun _ _ => False
structure qt (X : Cx) (scope : Scope) (x : Str) (Nc : List Str) (ix : List Nat) : Prop where
 kind : scope.kind = .function
 Ge : ∀ y ∈ scope.names, y.2 ≠ .cell
 nd : Nc.Nodup
 names : ∀ y ∈ scope.names, y.2 = .local -> scope.names.lookup y.1 = some .local
 own : scope.names.lookup x = some .local
 frees : ∀ y ∈ scope.names, y.2 = .free -> scope.names.lookup y.1 = some .free /\ (X.env.kindOf y.1 = some .cell \/ X.env.kindOf y.1 = some .free)
 hd : Nc = x :: ix.filterMap (X.N[·]?)
 ixs : ∀ i ∈ ix, ∃ y, X.N[i]? = some y /\ scope.names.lookup y = some .free
theorem iM {env : Env} : ∀ {names : List (Str × NameKind)} {x : Str} {k : NameKind}, names.lookup x = some k -> 
   (names.map fun (n, k) => if (k == NameKind.free && env.scope.kind == .function && env.kindOf n == some .cell) then (n, NameKind.cell) else (n, k)).lookup x = some (if (k == NameKind.free && env.scope.kind == .function && env.kindOf x == some .cell) then .cell else k)
 | [], _, _, h => by simp at h
 | (n, k') :: r, x, k, h => by
   have ih := @iM env r x k
   show List.lookup x ((if (k' == NameKind.free && env.scope.kind == .function && env.kindOf n == some .cell) = true then (n, NameKind.cell) else (n, k')) :: _) = _
   cases hx : x == n with
   | true =>
     simp only [amG, hx] at h
     cases h
     have e : x = n := by simpa using hx
     subst e
     split <;> simp [amG]
   | false =>
     simp only [amG, hx] at h
     split
     . simp only [amG, hx]; exact ih h
     . simp only [amG, hx]; exact ih h
theorem m8 {env : Env} : ∀ {names : List (Str × NameKind)} {x : Str}, names.lookup x = none -> 
   (names.map fun (n, k) => if (k == NameKind.free && env.scope.kind == .function && env.kindOf n == some .cell) then (n, NameKind.cell) else (n, k)).lookup x = none
 | [], _, _ => rfl
 | (n, k') :: r, x, h => by
   have ih := @m8 env r x
   show List.lookup x ((if (k' == NameKind.free && env.scope.kind == .function && env.kindOf n == some .cell) = true then (n, NameKind.cell) else (n, k')) :: _) = _
   cases hx : x == n with
   | true => simp only [amG, hx] at h; cases h
   | false =>
     simp only [amG, hx] at h
     split
     . simp only [amG, hx]; exact ih h
     . simp only [amG, hx]; exact ih h
section
variable {X : Cx} {scope : Scope} {x : Str} {Nc : List Str} {ix : List Nat} {pins : List (Addr × Obj)} {σ : L2.St} {H : Hp} {s : Shared}
theorem RV {fp : List Addr} {Iq : List (Addr × Obj)} {σ' : L2.St} {H' : Hp} {s' : Shared} {h'' : Heap} (I : Inv X pins σ H s) (sG : ∀ b ∈ fp, By X pins H b)
   (J : Inv (fc X scope Nc s.heap.objs.size s H fp) Iq σ' H' s') (hs : Heap.SameBut s.heap.objs.size s'.heap h'') : Inv X pins σ H' { s' with heap := h'' } := by
 have un : Un (uA X.stack) fp H H' s.heap s'.heap := J.base
 have un2 : Un (uA X.stack) fp H H' s.heap h'' := by
   have ne : ∀ b o, s.heap.get? b = some o -> b ≠ s.heap.objs.size := fun b o e => amA (amb e)
   refine ⟨fun b o e n hb hx => (hs.2 b (ne b o e)).trans (un.keep b o e n hb hx), fun b o e n hb hx => ?_, un.free, fun b o e hx => ?_, un.EL, un.gR, un.ER⟩
   . obtain ⟨sl, q⟩ := un.slot b o e n hb hx
     exact ⟨sl, (hs.2 b (ne b o e)).trans q⟩
   . obtain ⟨o', q⟩ := un.there b o e hx
     exact ⟨o', (hs.2 b (ne b o e)).trans q⟩
 have nC : H' s.heap.objs.size = none := J.free
 have fS : uz X.prog X.w H' h'' := fun b u e => by
   refine (J.fS b u e).Ip (fun c v hc q => (hs.2 c ?_).trans q) (fun _ q => q) fun _ _ q => q
   rintro rfl
   rcases hc with z | z
   . subst z; rw [nC] at e; cases e
   . rw [nC] at z; cases z
 obtain ⟨hh, g, d, t, os'⟩ := s'
 obtain rfl : os' = s.os := J.os
 show L2.Inv X pins σ H' { s with heap := h'', gens := g, drawn := d, toks := t }
 exact I.call (h' := h'') (g' := g) (d' := d) (t' := t) (ch := fp) un2 fS J.bare fun b hb => ⟨(sG b hb).2.2.2.1, (sG b hb).2.1, (sG b hb).2.2.2.2.1, (sG b hb).2.2.2.2.2⟩
noncomputable def ab4 (X : Cx) : List Expr -> TT
 | [] => fun _ H Q => Q true H
 | [c] => Yx X c
 | _ => fun _ _ _ => False
theorem VC {ifs : List Expr} {Q : Bool -> Hp -> Prop} (I : Inv X pins σ H s) (h : ab4 X ifs σ H Q) (hx : X.xe = fun _ _ => False) :
   wpAny (model X.prog X.w) X.A (forIn ifs true fun c r => if r = true then do let ok ← isTrue c X.env (eval c X.env); pure (ForInStep.yield ok) else pure (ForInStep.yield r)) (TP X pins σ Q) (fun _ _ => False) s := by
 match ifs, h with
 | [], h => exact wpAny_tests_nil ⟨H, I, h⟩
 | [c], h =>
   have := h pins s I
   rw [hx] at this
   exact wpAny_tests_one this
end
noncomputable def TIv (X : Cx) (CL : Str -> Addr) (b : Bx) (ifs : List Expr) (δ : List (Option T)) (p : Bool) : Prop :=
 match ifs with
 | [] => p = true
 | [c] => qM X CL b c δ p δ
 | _ => False
theorem TIv.sem {X : Cx} {CL : Str -> Addr} {b : Bx} {ifs : List Expr} {δ : List (Option T)} {p : Bool} (h : TIv X CL b ifs δ p) {H Z : Hp} {σ : L2.St} {Q : Bool -> Hp -> Prop} (S : cy X.K CL b H Z δ σ [] [])
   (k : ∀ H' Z', aM Z Z' -> aM H H' -> cy X.K CL b H' Z' δ σ [] [] -> Q p H') : ab4 X ifs σ H Q := by
 match ifs, h with
 | [], h =>
   have e : p = true := h
   subst e
   exact k H Z (.refl _) (.refl _) S
 | [c], h => exact (show qM X CL b c δ p δ from h) H Z σ [] [] Q S k
theorem qu {ts : List T} : (T.lst ts).clean = T.ef ts := by rw [T.clean]
theorem C4 {g : D -> T} : ∀ {ds : List D}, (∀ d ∈ ds, (g d).clean = true) -> T.ef (ds.map g) = true
 | [], _ => by rw [anw, T.ef]
 | d :: ds, h => by
   rw [amh, T.ef, h d al0, C4 fun e he => h e (al3 _ he)]
   rfl
section
variable {X : Cx} {CL : Str -> Addr} {b : Bx} {H Z W1 : Hp} {δ δc : List (Option T)} {σ : L2.St} {ts : List T} {vs us : List V} {ds : List D} {scope : Scope} {Nc : List Str} {ix : List Nat} {elt : Expr} {ifs : List Expr} {p : D -> Bool} {g : D -> T} {J : It}
end
section
variable {K : PySem.W.Frag} {CL : Str -> Addr} {b : Bx} {H H' Z Z' : Hp} {δ δ' : List (Option T)} {σ σ' : L2.St} {ts tl : List T} {vs us : List V} {t : T} {v : V}
theorem aZ.at : ∀ {tl : List T} {us : List V} {fp : List Addr} {j : Nat} {t : T}, aZ K CL H Z tl us fp -> tl[j]? = some t -> ∃ v f1 f2 f3, us[j]? = some v /\ fp = f1 ++ (f2 ++ f3) /\ dN K CL H Z t v f2 ∧
   ∀ {H' : Hp} {t' : T} {v' : V} {g : List Addr}, (∀ a ∈ f1 ++ f3, H' a = H a) -> dN K CL H' Z t' v' g -> aZ K CL H' Z (tl.set j t') (us.set j v') (f1 ++ (g ++ f3))
 | _, _, _, _, _, .nil, e => by simp at e
 | _, _, _, 0, _, .cons (fp := fp) (gp := gp) r q, e => by
   simp at e
   subst e
   exact ⟨_, [], fp, gp, rfl, rfl, r, fun {H' t' v' g} k r' => aZ.cons (fp := g) (gp := gp) r' (aZ.mono (fp := gp) (.refl _) (fun a ha => k a (by simpa using ha)) q)⟩
 | _, _, _, j + 1, t, .cons (fp := fp) (gp := gp) r q, e => by
   obtain ⟨v, f1, f2, f3, h1, h2, h3, h4⟩ := aZ.at (j := j) (t := t) q (by simpa using e)
   refine ⟨v, fp ++ f1, f2, f3, by simpa using h1, by rw [h2, List.append_assoc], h3, fun k r' => ?_⟩
   rw [alZ]
   exact .cons (r.mono (.refl _) fun a ha => k a (by simp [ha])) (h4 (fun a ha => k a (by rw [alZ]; exact alU _ ha)) r')
theorem jl {α : Type} {l : List α} {i : Nat} {x : α} (h : l[i]? = some x) : l.set i x = l := by
 apply List.ext_getElem?
 intro j
 rw [List.getElem?_set]
 split
 . rename_i e; subst e
   split
   . exact h.symm
   . rename_i h2; rw [List.getElem?_eq_none (by omega)]
 . rfl
theorem cy.write {a : Addr} {xs : List V} {f1 f2 f3 g gp gp' : List Addr} {δ2 : List (Option T)} (S : cy K CL b H Z δ σ ts vs) (nd : ((f1 ++ (f2 ++ f3)) ++ gp).Nodup) (own : ∀ c ∈ (f1 ++ (f2 ++ f3)) ++ gp, Z c = none /\ b.B c = none) (ha : a ∈ f2)
   (hH : ∃ o, H a = some o) (e' : i6 K CL (upd H a (.lst xs)) Z δ2 σ (f1 ++ (g ++ f3))) (r' : aZ K CL (upd H a (.lst xs)) Z tl us gp') (pm : ((f1 ++ (g ++ f3)) ++ gp').Nodup) (sub : ∀ c ∈ (f1 ++ (g ++ f3)) ++ gp', c ∈ (f1 ++ (f2 ++ f3)) ++ gp) :
   cy K CL b (upd H a (.lst xs)) Z δ2 σ tl us := by
 have oa := own a (by simp [ha])
 refine ⟨⟨_, _, e', r', pm, fun c hc => own c (sub c hc)⟩, fun c o q => ?_, S.zz, fun c o q => ?_, S.new, fun c o q i => ?_, S.tab⟩
 . rw [aK (bX q oa.2)]; exact S.bh c o q
 . rw [aK (bX q oa.1)]; exact S.zh c o q
 . by_cases hc : c = a
   . subst hc; rw [bu] at q; cases q; cases i
   . rw [aK hc] at q; exact S.tp c o q i
theorem cy.append {i : Nat} (S : cy K CL b H Z δ σ (t :: ts) (v :: vs)) (hi : δ[i]? = some (some (.lst tl))) :
   ∃ a us, σ[i]? = some (some (.ref a)) /\ H a = some (.lst us) /\ us.length = tl.length /\ cy K CL b (upd H a (.lst (us ++ [v]))) Z (δ.set i (some (.lst (tl ++ [t])))) σ ts vs := by
 obtain ⟨fp, gp, e, r, nd, k⟩ := S.rep
 obtain ⟨v0, f1, f2, f3, hv, sG, rt, put, _⟩ := e.get hi
 subst sG
 cases rt with
 | @lst a us _ g ha rs =>
   cases r with
   | @cons _ _ _ _ ft gr q1 q2 =>
     have ne : ∀ c ∈ (f1 ++ (g ++ f3)) ++ (ft ++ gr), c ≠ a := fun c hc e => by
       subst e
       have hp : ((f1 ++ ((c :: g) ++ f3)) ++ (ft ++ gr)).Perm (c :: ((f1 ++ (g ++ f3)) ++ (ft ++ gr))) := by
         rw [ami, ← ami]
         exact (amU.append_right _)
       exact (amO.mp (hp.nodup_iff.mp nd)).1 hc
     refine ⟨a, us, hv, ha, rs.length.symm, ?_⟩
     have r1 : dN K CL (upd H a (.lst (us ++ [v]))) Z (.lst (tl ++ [t])) (.ref a) (a :: (g ++ (ft ++ []))) :=
       .lst bu (aZ.app (rs.mono (.refl _) fun c hc => aK (ne c (by simp [hc]))) (.cons (q1.mono (.refl _) fun c hc => aK (ne c (by simp [hc]))) .nil))
     have e2 := put (H' := upd H a (.lst (us ++ [v]))) (.refl _) (fun c hc => aK (ne c (by
       rcases al7.mp hc with h | h
       . simp [h]
       . simp [h]))) r1
     rw [jl hv] at e2
     have hp : ((f1 ++ ((a :: (g ++ (ft ++ []))) ++ f3)) ++ gr).Perm ((f1 ++ ((a :: g) ++ f3)) ++ (ft ++ gr)) := by
       simp only [amH, ami, alZ]
       refine amt f1 (List.Perm.cons a (amt g ?_))
       rw [← alZ, ← alZ]
       exact amB.append_right gr
     exact S.write nd k (al0) ⟨_, ha⟩ e2 (q2.mono (.refl _) fun c hc => aK (ne c (by simp [hc]))) (hp.nodup_iff.mpr nd) fun c hc => hp.mem_iff.mp hc
theorem cy.setAt {i j : Nat} (S : cy K CL b H Z δ σ (t :: ts) (v :: vs)) (hi : δ[i]? = some (some (.lst tl))) (hj : j < tl.length) :
   ∃ a us, σ[i]? = some (some (.ref a)) /\ H a = some (.lst us) /\ us.length = tl.length /\ cy K CL b (upd H a (.lst (us.set j v))) Z (δ.set i (some (.lst (tl.set j t)))) σ ts vs := by
 obtain ⟨fp, gp, e, r, nd, k⟩ := S.rep
 obtain ⟨v0, f1, f2, f3, hv, sG, rt, put, _⟩ := e.get hi
 subst sG
 cases rt with
 | @lst a us _ g ha rs =>
   cases r with
   | @cons _ _ _ _ ft gr q1 q2 =>
     have ne : ∀ c ∈ (f1 ++ (g ++ f3)) ++ (ft ++ gr), c ≠ a := fun c hc e => by
       subst e
       have hp : ((f1 ++ ((c :: g) ++ f3)) ++ (ft ++ gr)).Perm (c :: ((f1 ++ (g ++ f3)) ++ (ft ++ gr))) := by
         rw [ami, ← ami]
         exact (amU.append_right _)
       exact (amO.mp (hp.nodup_iff.mp nd)).1 hc
     refine ⟨a, us, hv, ha, rs.length.symm, ?_⟩
     obtain ⟨vj, g1, g2, g3, _, hg, _, set⟩ := rs.at (amm hj)
     subst hg
     have r1 : dN K CL (upd H a (.lst (us.set j v))) Z (.lst (tl.set j t)) (.ref a) (a :: (g1 ++ (ft ++ g3))) :=
       .lst bu (set (fun c hc => aK (ne c (by
         rcases al7.mp hc with h | h
         . simp [h]
         . simp [h]))) (q1.mono (.refl _) fun c hc => aK (ne c (by simp [hc]))))
     have e2 := put (H' := upd H a (.lst (us.set j v))) (.refl _) (fun c hc => aK (ne c (by
       rcases al7.mp hc with h | h
       . simp [h]
       . simp [h]))) r1
     rw [jl hv] at e2
     have hp : ((f1 ++ ((a :: (g1 ++ (ft ++ g3))) ++ f3)) ++ gr).Perm ((f1 ++ ((a :: (g1 ++ g3)) ++ f3)) ++ (ft ++ gr)) := by
       simp only [ami, alZ]
       refine amt f1 (List.Perm.cons a (amt g1 ?_))
       have := (amB (l₁ := ft) (l₂ := g3 ++ f3)).append_right gr
       simp only [alZ] at this
       exact this
     have sb : ((f1 ++ ((a :: (g1 ++ g3)) ++ f3)) ++ (ft ++ gr)).Sublist ((f1 ++ ((a :: (g1 ++ (g2 ++ g3))) ++ f3)) ++ (ft ++ gr)) := by
       refine amF (amF (amD _) (amF (List.Sublist.cons₂ a ?_) (amD _))) (amD _)
       exact amF (amD _) (am2 _ _)
     exact S.write nd k (al0) ⟨_, ha⟩ e2 (q2.mono (.refl _) fun c hc => aK (ne c (by simp [hc]))) (hp.nodup_iff.mpr (nd.sublist sb)) fun c hc => sb.subset (hp.mem_iff.mp hc)
end
section
variable {X : Cx} {CL : Str -> Addr} {b : Bx} {δ δ1 δ2 : List (Option T)} {e e2 : Expr} {t : T} {tl Qg tt tt0 : List T} {D : dg} {pos pp pa pb : Pos}
theorem ab6 (i : Nat) {x : Str} (h0 : δ[i]? = some (some (.lst Qg))) (h : cY X CL b e δ t δ1) (h1 : δ1[i]? = some (some (.lst tl))) (hl : tl.length < sizeLine) (k : D.nx (δ1.set i (some (.lst (tl ++ [t])))))
   (hi : X.N[i]? = some x := by rfl) (hv : Vis X.env.scope x := by first | exact Or.inl rfl | exact Or.inr (Or.inl rfl) | exact Or.inr (Or.inr rfl)) (hd : (x == ("__debug__" : Str)) = false := by decide) (qo : (x == ("__classdict__" : Str)) = false := by decide)
   (mw : attributeBase (.Name x pp) "append" X.env (eval (.Name x pp) X.env) = eval (.Name x pp) X.env := by rfl)
   (C1 : ((backTo pb (starEach [e] X.env)).all (fun x => !x.1) && (backToKw pb (keywordEach [] X.env)).all (fun x => x.1.isSome) && decide ([e].length + ([] : List Keyword).length + (if ([] : List Keyword).isEmpty then 0 else 1) < 30)) = true := by rfl)
   (hline : (pa.endLine == pb.line) = true := by rfl) (hs : starEach [e] X.env = (false, eval e X.env) :: starEach [] X.env := by exact cz rfl) (Ml : swapsWith (.Call (.Attribute (.Name x pp) "append" pa) [e] [] pb) none pos.line X.env = pure false := by rfl) :
   XY X CL b (.Expr (.Call (.Attribute (.Name x pp) "append" pa) [e] [] pb) pos) δ D := fun H Z σ ts vs E S M =>
 zI (FY (P1 anl PySem.F.slot_list_append PySem.F.type_list_append Fj (nY hi hv hd qo) (c9 eU gf hs) mw C1 hline hs rfl) Ml) (by
   obtain ⟨v0, e0, r0⟩ := S.look h0
   refine ⟨v0, e0, ?_, ?_⟩
   . rw [T.iY] at r0
     cases r0 with
     | lst hq _ => exact .inl ⟨rfl, _, hq⟩
   . refine h H Z σ ts vs _ S fun v H1 Z1 z1 k1 S1 => ?_
     obtain ⟨a, us, ea, ha, hu, S2⟩ := S1.append h1
     rw [e0] at ea
     cases ea
     exact ⟨a, us, v, rfl, rfl, ha, by rw [hu]; exact hl, M.nx _ σ _ Z1 z1 S2 k⟩)
end
noncomputable def ae5 : Option (Option T) -> Option T
 | some (some t) => some (.sh t.iY)
 | _ => none
noncomputable def shO : Option (Option T) -> Option T
 | some (some (T.sh d)) => some (.sh d)
 | _ => none
noncomputable def IV (δ : List (Option T)) (ix : List Nat) : List (Option T) := ix.map fun i => ae5 δ[i]?
noncomputable def IW (δ : List (Option T)) (ix : List Nat) : List (Option T) := ix.map fun i => shO δ[i]?
section
variable {K : PySem.W.Frag} {CL : Str -> Addr} {b : Bx} {H Z : Hp} {δ : List (Option T)} {σ : L2.St} {ts : List T} {vs : List V}
theorem IX (S : cy K CL b H Z δ σ ts vs) : ∀ (ix : List Nat) (H' : Hp), i6 K CL H' H (IV δ ix) (ix.map fun i => (σ[i]?).getD none) []
 | [], _ => .nil
 | i :: r, H' => by
   have ih := IX S r H'
   show i6 K CL H' H (ae5 δ[i]? :: IV δ r) (((σ[i]?).getD none) :: r.map fun i => (σ[i]?).getD none) []
   cases e : δ[i]? with
   | none => exact .skip ih
   | some o =>
     cases o with
     | none => exact .skip ih
     | some t =>
       obtain ⟨v, hv, rv⟩ := S.look e
       rw [hv]
       exact .cons (fp := []) (gp := []) (.sh rv) ih
theorem IY (S : cy K CL b H Z δ σ ts vs) : ∀ (ix : List Nat) (H' : Hp), i6 K CL H' Z (IW δ ix) (ix.map fun i => (σ[i]?).getD none) []
 | [], _ => .nil
 | i :: r, H' => by
   have ih := IY S r H'
   show i6 K CL H' Z (shO δ[i]? :: IW δ r) (((σ[i]?).getD none) :: r.map fun i => (σ[i]?).getD none) []
   cases e : δ[i]? with
   | none => exact .skip ih
   | some o =>
     cases o with
     | none => exact .skip ih
     | some t =>
       cases t with
       | sh d =>
         obtain ⟨v, hv, rv⟩ := S.aaA e
         rw [hv]
         exact .cons (fp := []) (gp := []) (.sh rv) ih
       | tup _ => exact .skip ih
       | lst _ => exact .skip ih
       | ins _ _ => exact .skip ih
       | ve _ => exact .skip ih
       | dct _ => exact .skip ih
       | pin _ _ => exact .skip ih
end
section
variable {X : Cx} {CL : Str -> Addr} {b : Bx} {δ δ1 : List (Option T)} {scope : Scope} {x : Str} {Nc : List Str} {ix : List Nat} {elt iter : Expr} {ifs : List Expr} {px pos : Pos} {ds : List D}
structure Comes (X : Cx) (CL : Str -> Addr) (b : Bx) (δ1 : List (Option T)) (σ : L2.St) (ts : List T) (vs : List V) (Z H : Hp) (ds : List D) (J : It) (H1 : Hp) : Prop where
 ex : ∃ Z1 us, aM Z Z1 /\ aM H H1 /\ cy X.K CL b H1 Z1 δ1 σ ts vs /\ aL X.K CL Z1 ds us /\ (∀ i H2, aM Z1 H2 -> i < ds.length -> J.go i H2) ∧
   (∀ i H2 x H', aM Z1 H2 -> i < ds.length -> J.yld i H2 x H' -> H' = H2 /\ us[i]? = some x) /\ (∀ H2, aM Z1 H2 -> J.stop ds.length H2)
noncomputable def XZ (X : Cx) (CL : Str -> Addr) (b : Bx) (tg e : Expr) (δ : List (Option T)) (ds : List D) (δ1 : List (Option T)) : Prop :=
 ∃ wi, PI X tg e wi /\ ∀ (H Z : Hp) (σ : L2.St) (ts : List T) (vs : List V) (R : It -> Hp -> Prop), cy X.K CL b H Z δ σ ts vs -> (∀ J H1, Comes X CL b δ1 σ ts vs Z H ds J H1 -> R J H1) -> wi σ H R
theorem j9 {tg : Expr} (h : cY X CL b iter δ (.sh (.lst ds)) δ1) : XZ X CL b tg iter δ ds δ1 := by
 refine ⟨_, Ye eU, fun H Z σ ts vs R S k => h H Z σ ts vs _ S fun v H1 Z1 z1 k1 S1 => ?_⟩
 obtain ⟨fp, gp, _, r, _, _⟩ := S1.rep
 cases r with
 | cons r _ =>
   cases r with
   | sh r =>
     cases r with
     | @lst a us _ hq rr =>
       refine ⟨a, rfl, ⟨us, S1.zh.seq hq⟩, k _ _ ⟨Z1, us, z1, k1, S1.pop, rr, fun i H2 s hi => ?_, fun i H2 y H' s hi hy => ⟨hy.1, hy.2 us (s.seq hq)⟩, fun H2 s => ⟨us, s.seq hq, by rw [rr.length]; exact al9 _⟩⟩⟩
       have VD : i < us.length := by rw [← rr.length]; exact hi
       exact ⟨us, us[i], s.seq hq, by simp [VD]⟩
theorem Gf {tg : Expr} (h : cY X CL b iter δ (.sh (.tup ds)) δ1) : XZ X CL b tg iter δ ds δ1 := by
 refine ⟨_, abx eU, fun H Z σ ts vs R S k => h H Z σ ts vs _ S fun v H1 Z1 z1 k1 S1 => ?_⟩
 obtain ⟨fp, gp, _, r, _, _⟩ := S1.rep
 cases r with
 | cons r _ =>
   cases r with
   | sh r =>
     cases r with
     | @tup a us _ hq rr =>
       refine ⟨a, rfl, ⟨us, aM.sqT S1.zh hq⟩, k _ _ ⟨Z1, us, z1, k1, S1.pop, rr, fun i H2 s hi => ?_, fun i H2 y H' s hi hy => ⟨hy.1, hy.2 us (aM.sqT s hq)⟩, fun H2 s => ⟨us, aM.sqT s hq, by rw [rr.length]; exact al9 _⟩⟩⟩
       have VD : i < us.length := by rw [← rr.length]; exact hi
       exact ⟨us, us[i], aM.sqT s hq, by simp [VD]⟩
noncomputable def bZ (lo : Int) (n : Nat) : List D := (List.range n).map fun (i : Nat) => D.int (lo + i)
theorem IZ {K : PySem.W.Frag} {Z : Hp} (lo : Int) (n : Nat) : aL K CL Z (bZ lo n) ((List.range n).map fun (i : Nat) => V.int (lo + i)) := by
 unfold bZ
 generalize List.range n = l
 induction l with
 | nil => exact .nil
 | cons i r ih => exact .cons (.int _) ih
theorem gS {tg : Expr} {pr pc : Pos} {n : Int} (hm : X.mg "range" = none) (h : dz X CL b iter δ (.int n) δ1) (hn : -(2 ^ 62) <= n /\ n < 2 ^ 62) (hg : Gl X "range") (qH : starEach [iter] X.env = [(false, eval iter X.env)] := by rfl) (RW : starEach [iter] X.env = (false, eval iter X.env) :: starEach [] X.env := by exact cz rfl) :
   XZ X CL b tg (.Call (.Name "range" pr) [iter] [] pc) δ (bZ 0 n.toNat) δ1 := by
 refine ⟨_, Rx hg hm (c9 eU gf RW) qH, fun H Z σ ts vs R S k => h H Z σ ts vs _ S fun v H1 Z1 z1 k1 S1 r => ⟨n, by rw [r.sc rfl], hn.1, hn.2, k _ _ ⟨Z1, _, z1, k1, S1, IZ 0 n.toNat, fun i H2 s hi => ?_, fun i H2 y H' s hi hy => ?_, fun H2 s => ?_⟩⟩⟩
 . show i < n.toNat
   have : (bZ 0 n.toNat).length = n.toNat := by simp [bZ]
   omega
 . have VD : i < n.toNat := by simpa [bZ] using hi
   refine ⟨hy.1, ?_⟩
   rw [aml, ana VD, hy.2]
   rfl
 . show n.toNat <= (bZ 0 n.toNat).length
   simp [bZ]
theorem Fq {tg : Expr} {pr pc : Pos} {e1 e2 : Expr} {δ2 : List (Option T)} {m n : Int} (hm : X.mg "range" = none) (h1 : dz X CL b e1 δ (.int m) δ1) (h2 : dz X CL b e2 δ1 (.int n) δ2) (hn : -(2 ^ 62) <= m /\ m < 2 ^ 62 /\ -(2 ^ 62) <= n /\ n < 2 ^ 62) (hg : Gl X "range")
   (qH : starEach [e1, e2] X.env = [(false, eval e1 X.env), (false, eval e2 X.env)] := by rfl) (RW : starEach [e2] X.env = [(false, eval e2 X.env)] := by rfl) (ah1 : starEach [e1, e2] X.env = (false, eval e1 X.env) :: starEach [e2] X.env := by rfl) (ah2 : starEach [e2] X.env = (false, eval e2 X.env) :: starEach [] X.env := by rfl) :
   XZ X CL b tg (.Call (.Name "range" pr) [e1, e2] [] pc) δ (bZ m (n - m).toNat) δ2 := by
 refine ⟨_, Ry hg hm (c9 eU (c9 eU gf ah2) ah1) qH RW, fun H Z σ ts vs R S k => h1 H Z σ ts vs _ S fun v H1 Z1 z1 k1 S1 r => h2 H1 Z1 σ ts vs _ S1 fun v2 H2 Z2 z2 k2 S2 r2 => ⟨m, n, by rw [r.sc rfl, r2.sc rfl], hn, k _ _ ⟨Z2, _, z1.trans z2, k1.trans k2, S2, IZ m (n - m).toNat, fun i H2 s hi => ?_, fun i H2 y H' s hi hy => ?_, fun H2 s => ?_⟩⟩⟩
 . show i < (n - m).toNat
   have : (bZ m (n - m).toNat).length = (n - m).toNat := by simp [bZ]
   omega
 . have VD : i < (n - m).toNat := by simpa [bZ] using hi
   refine ⟨hy.1, ?_⟩
   rw [aml, ana VD, hy.2]
   rfl
 . show (n - m).toNat <= (bZ m (n - m).toNat).length
   simp [bZ]
theorem ab7 {D : dg} {eW : List Stmt} (i : Nat) {pos' : Pos} (P : Nat -> List (Option T) -> Prop) (h : XZ X CL b (.Name x pos') iter δ ds δ1) (h0 : P 0 δ1) (hl : ∀ j δ, P j δ -> i < δ.length)
   (hs : ∀ j d δ, ds[j]? = some d -> P j δ -> gw X CL b eW (δ.set i (some (.sh d))) { nx := P (j + 1), rt := D.rt, bk := D.nx, ct := P (j + 1) }) (hd : ∀ δ, P ds.length δ -> D.nx δ)
   (hp : PassesOwn (model X.prog X.w) X.A X.env X.xe) (hc : X.calm = true) (hN : X.N.Nodup) (hi : X.N[i]? = some x) (hx : Loc X.env.scope x) (hf : X.fn x = true \/ X.env.scope.names.lookup x = some .local) (hq : ∀ x, foldedSetIterable iter X.env x = pure x := by intro _; rfl) :
   XY X CL b (.For (.Name x pos') iter eW [] pos) δ D := fun H Z σ ts vs E S M => by
 obtain ⟨wi, pi, hw⟩ := h
 refine zI (UX hp hc pi (xM hN hi hx hf) XW hq) (hw H Z σ ts vs _ S fun J H1 zz => ?_)
 obtain ⟨Z1, us, z1, k1, S1, rr, go, yl, st⟩ := zz
 refine ⟨fun j m σ H2 => m = ds.length - j /\ j <= ds.length /\ ∃ Z2 δ2, aM Z1 Z2 /\ cy X.K CL b H2 Z2 δ2 σ ts vs /\ P j δ2, ⟨_, rfl, amu _, Z1, δ1, .refl _, S1, h0⟩, ?_⟩
 rintro j m σ H2 ⟨rfl, hj, Z2, δ2, s, S2, p2⟩
 by_cases EK : j < ds.length
 . refine .inr ⟨go j H2 (s.trans S2.zh) EK, fun σ' H' => ∃ Z2 δ2, aM Z1 Z2 /\ cy X.K CL b H' Z2 δ2 σ' ts vs /\ P (j + 1) δ2, fun σ' H' h => ⟨ds.length - (j + 1), by omega, rfl, EK, h⟩, fun y H' hy => ?_⟩
   obtain ⟨e, hu⟩ := yl j H2 y H' (s.trans S2.zh) EK hy
   subst e
   obtain ⟨d, hd', rd⟩ := rr.Yw hu
   have S3 := (S2.push (rd.mono s)).set (hl j δ2 p2)
   exact hs j d δ2 hd' p2 _ Z2 _ ts vs _ S3 ⟨fun δ' σ' H' Z' s' S' k => ⟨Z', δ', s.trans s', S', k⟩, fun t v H' Z' δ' σ' s' S' k => M.rt t v H' Z' δ' σ' (z1.trans (s.trans s')) S' k, fun δ' σ' H' Z' s' S' k => M.nx δ' σ' H' Z' (z1.trans (s.trans s')) S' k, fun δ' σ' H' Z' s' S' k => ⟨Z', δ', s.trans s', S', k⟩⟩
 . have e : j = ds.length := by omega
   subst e
   exact .inl ⟨st H2 (s.trans S2.zh), M.nx δ2 σ H2 Z2 (z1.trans s) S2 (hd δ2 p2)⟩
noncomputable def Block (X : Cx) (CL : Str -> Addr) (scope : Scope) (Nc : List Str) (ifs : List Expr) (elt : Expr) (δc : List (Option T)) (ds : List D) (p : D -> Bool) (g : D -> T) : Prop :=
 ∀ C s0 H0 f0 b' d, d ∈ ds -> TIv (fc X scope Nc C s0 H0 f0) CL b' ifs (some (.sh d) :: δc) (p d) /\ (p d = true -> cY (fc X scope Nc C s0 H0 f0) CL b' elt (some (.sh d) :: δc) (g d) (some (.sh d) :: δc))
variable {p : D -> Bool} {g : D -> T} {δc : List (Option T)}
end
section
variable {X : Cx} {CL : Str -> Addr} {b : Bx} {δ δ1 : List (Option T)} {scope : Scope} {x : Str} {Nc : List Str} {ix : List Nat} {elt iter : Expr} {ifs : List Expr} {px pos : Pos} {ds : List D} {p : D -> Bool} {g : D -> T} {δc : List (Option T)}
end
theorem aH {n : Nat} (h : Nat.ble n 1000 = true) : n <= sizeLine := amo (bE (alY h))
structure Vn (X : Cx) (i : Nat) (x : Str) : Prop where
 hi : X.N[i]? = some x
 hv : Vis X.env.scope x
 hd : (x == ("__debug__" : Str)) = false
 qo : (x == ("__classdict__" : Str)) = false
structure Ln (X : Cx) (i : Nat) (x : Str) : Prop extends Vn X i x where
 loc : Loc X.env.scope x
 hf : X.fn x = true \/ X.env.scope.names.lookup x = some .local
structure Gx (X : Cx) : Prop where
 nd : X.N.Nodup
 calm : X.calm = true
 xe : PassesOwn (model X.prog X.w) X.A X.env X.xe
structure Fc (X : Cx) (CL : Str -> Addr) (x : Str) (k n : Nat) {A : Type} (arg : A -> List D) (Pre : A -> Prop) (res : A -> T) : Prop where
 ex : ∃ f fd ps, cJ X.prog X.w X.K X.mg X.base lF k f fd ps (nT X.K CL n arg Pre res) /\ X.mg x = some (.ref f) /\ PySem.W.keepIn X.K (.ref f) = true /\ Binds X.K fd ps []
 room : jk k X.A
section
variable {X : Cx} {CL : Str -> Addr} {b : Bx} {δ δ1 δ2 : List (Option T)} {e e1 e2 : Expr} {es : List Expr} {d : L3.D} {t : T} {i : Nat} {x : Str} {pos pp : Pos} {D : dg} {eW : List Stmt} {ds : List L3.D}
theorem v_ (n : Vn X i x) (h : δ[i]? = some (some (.sh d)) := by rfl) : cY X CL b (.Name x pos) δ (.sh d) δ := abY i n.hi n.hv n.hd n.qo h
theorem vM (n : Vn X i x) (h : δ[i]? = some (some t) := by rfl) : cY X CL b (.Name x pos) δ t (δ.set i none) := YB i n.hi n.hv n.hd n.qo h
theorem vB (n : Vn X i x) (h : δ[i]? = some (some t) := by rfl) : dz X CL b (.Name x pos) δ t.iY δ := abZ i n.hi n.hv n.hd n.qo h
theorem dh {k : Int} (h : dz X CL b e δ (.int k) δ1) : cY X CL b (.UnaryOp .USub e pos) δ (.sh (.int (-k))) δ1 := fun H Z σ ts vs Q S kk =>
 dw (aeA abE eU) (h H Z σ ts vs _ S fun v H1 Z1 z1 k1 S1 r => ⟨k, r.sc rfl, kk _ H1 Z1 z1 k1 (S1.push (.int _))⟩)
theorem vL (n : Vn X i x) (h : δ[i]? = some (some (.lst (ds.map T.sh))) := by rfl) : dz X CL b (.Name x pos) δ (.lst ds) δ := by
 have := vB (CL := CL) (b := b) (pos := pos) n h
 rwa [T.iY, qN] at this
theorem c_ {k n : Nat} {A : Type} {arg : A -> List L3.D} {Pre : A -> Prop} {res : A -> T} (a : A) (F : Fc X CL x k n arg Pre res) (hg : Gl X x) (h : Vw X CL b (e :: es) δ (arg a) δ1) (hp : Pre a) (hc : (res a).clean = true) (hn : (arg a).length = n := by rfl)
   (CZ : (x == ("__debug__" : Str)) = false := by decide) (he : starEach (e :: es) X.env = (false, eval e X.env) :: starEach es X.env := by exact cz rfl) (hpl : (backTo pos (starEach es X.env)).any (·.1) = false := by rfl) :
   cY X CL b (.Call (.Name x pp) (e :: es) [] pos) δ (res a) δ1 := by
 obtain ⟨f, fd, ps, F1, m, k, b⟩ := F.ex
 exact YG a F1 F.room m k b h hn hp hc hg CZ he hpl
theorem aY {pos' : Pos} (g : Gx X) (n : Ln X i x) (h : cY X CL b e δ t δ1) (k : gw X CL b eW (δ1.set i (some t)) D) (hl : i < δ1.length := by exact alY rfl) (hs : swapsWith e (some (.Name x pos')) pos.line X.env = pure false := by rfl) :
   gw X CL b (.Assign [.Name x pos'] e pos :: eW) δ D := dD (Mj i h k hl g.nd n.hi n.loc hs n.hf)
theorem aN (h : cY X CL b e δ t δ1) (k : D.rt t δ1) : gw X CL b (.Return (some e) pos :: eW) δ D := dD (ab3 h k)
theorem bO {p : Bool} {a c : List Stmt} (h : qM X CL b e δ p δ1) (h1 : p = true -> gw X CL b a δ1 { D with nx := fun δ2 => gw X CL b eW δ2 D }) (h2 : p = false -> gw X CL b c δ1 { D with nx := fun δ2 => gw X CL b eW δ2 D }) : gw X CL b (.If e a c pos :: eW) δ D := dD (ae2 h h1 h2)
theorem gw.to {D' : dg} (h : gw X CL b eW δ D') (h1 : ∀ δ, D'.nx δ -> D.nx δ) (h2 : ∀ t δ, D'.rt t δ -> D.rt t δ) (h3 : ∀ δ, D'.bk δ -> D.bk δ) (h4 : ∀ δ, D'.ct δ -> D.ct δ) : gw X CL b eW δ D := fun H Z σ ts vs E S M => h H Z σ ts vs E S (M.to h1 h2 h3 h4)
theorem vp {p : Bool} {a c : List Stmt} (J : List (Option T) -> Prop) (h : qM X CL b e δ p δ1) (h1 : p = true -> gw X CL b a δ1 { D with nx := J }) (h2 : p = false -> gw X CL b c δ1 { D with nx := J }) (k : ∀ δ2, J δ2 -> gw X CL b eW δ2 D) : gw X CL b (.If e a c pos :: eW) δ D :=
 bO h (fun hp => gw.to (h1 hp) k (fun _ _ q => q) (fun _ q => q) (fun _ q => q)) (fun hp => gw.to (h2 hp) k (fun _ _ q => q) (fun _ q => q) (fun _ q => q))
theorem lG {body : List Stmt} {pos' : Pos} (g : Gx X) (n : Ln X i x) (P : Nat -> List (Option T) -> Prop) (h : XZ X CL b (.Name x pos') e δ ds δ1) (h0 : P 0 δ1) (hl : ∀ j δ, P j δ -> i < δ.length)
   (hs : ∀ j d δ, ds[j]? = some d -> P j δ -> gw X CL b body (δ.set i (some (.sh d))) { nx := P (j + 1), rt := D.rt, bk := fun δ2 => gw X CL b eW δ2 D, ct := P (j + 1) }) (hd : ∀ δ, P ds.length δ -> gw X CL b eW δ D) (hq : ∀ x, foldedSetIterable e X.env x = pure x := by intro _; rfl) :
   gw X CL b (.For (.Name x pos') e body [] pos :: eW) δ D :=
 dD (ab7 (D := { D with nx := fun δ1 => gw X CL b eW δ1 D }) i P h h0 hl hs hd g.xe g.calm g.nd n.hi n.loc n.hf hq)
theorem C5 {e : Expr} {o : Option Expr} {l : Nat} {env : Env} (h : ∃ c, swapsWith e o l env = pure c) : swapsWith e o l env = pure true \/ swapsWith e o l env = pure false := by
 obtain ⟨c, h⟩ := h
 cases c
 . exact .inr h
 . exact .inl h
theorem gi {scope : Scope} {Nc : List Str} {C : Addr} {s : Shared} {H : Hp} {fp : List Addr} (h1 : Nc[i]? = some x) (h2 : scope.names.lookup x = some .local) (hd : (x == ("__debug__" : Str)) = false := by decide) (qo : (x == ("__classdict__" : Str)) = false := by decide) : Vn (fc X scope Nc C s H fp) i x :=
 ⟨h1, .inl (lookup_relabel_local h2), hd, qo⟩
theorem g7 {scope : Scope} {Nc : List Str} {C : Addr} {s : Shared} {H : Hp} {fp : List Addr} (h1 : Nc[i]? = some x) (h2 : scope.names.lookup x = some .free) (hd : (x == ("__debug__" : Str)) = false := by decide) (qo : (x == ("__classdict__" : Str)) = false := by decide) : Vn (fc X scope Nc C s H fp) i x := by
 refine ⟨h1, ?_, hd, qo⟩
 have q := iM (env := X.env) h2
 show (relabel scope X.env).names.lookup x = some .local \/ (relabel scope X.env).names.lookup x = some .cell \/ (relabel scope X.env).names.lookup x = some .free
 rw [show (relabel scope X.env).names.lookup x = _ from q]
 split
 . exact .inr (.inl rfl)
 . exact .inr (.inr rfl)
theorem kg {scope : Scope} {Nc : List Str} {C : Addr} {s : Shared} {H : Hp} {fp : List Addr} (h2 : scope.names.lookup x = some .globalImplicit) : Gl (fc X scope Nc C s H fp) x := by
 have q := iM (env := X.env) h2
 show (relabel scope X.env).names.lookup x = some .globalImplicit
 rw [show (relabel scope X.env).names.lookup x = _ from q]
 rfl
theorem lU {scope : Scope} {Nc : List Str} {C : Addr} {s : Shared} {H : Hp} {fp : List Addr} {k n : Nat} {A : Type} {arg : A -> List L3.D} {Pre : A -> Prop} {res : A -> T} (F : Fc X CL x k n arg Pre res) : Fc (fc X scope Nc C s H fp) CL x k n arg Pre res := ⟨F.ex, F.room⟩
end
section
variable {X : Cx} {CL : Str -> Addr} {b : Bx} {δ δ1 δ2 : List (Option T)} {e e1 e2 : Expr} {es : List Expr} {ds : List L3.D} {pos : Pos}
theorem VF {i j : Bool} (h1 : dz X CL b e1 δ (.bl i) δ1) (h2 : dz X CL b e2 δ1 (.bl j) δ2) : qM X CL b (.Compare e1 [.NotEq] [e2] pos) δ (!decide (i = j)) δ2 /\ cY X CL b (.Compare e1 [.NotEq] [e2] pos) δ (.sh (.bl (!decide (i = j)))) δ2 :=
 rX U0 h1 h2 rfl rfl (fun _ _ q => ⟨rfl, by rw [show decide (V.bl i = V.bl j) = decide (i = j) by simp]; exact q⟩) (mK _)
end
section
variable {X : Cx} {CL : Str -> Addr} {b : Bx} {δ δ1 : List (Option T)} {e : Expr} {d : L3.D} {t : String} {pos pp pq : Pos}
theorem RX : bootBuiltins "int" = some (.type "int") := by decide +kernel
theorem cE : bootBuiltins "list" = some (.type "list") := by decide +kernel
theorem I0 : bootBuiltins "tuple" = some (.type "tuple") := by decide +kernel
end
noncomputable def oW (sc : Scope) (l : List (Str × NameKind)) : Bool := l.all fun p => sc.names.lookup p.1 == some p.2
theorem fz {sc : Scope} {l : List (Str × NameKind)} (h : oW sc l = true) (i : Nat) {x : Str} {k : NameKind} (hi : l[i]? = some (x, k)) : sc.names.lookup x = some k := by
 unfold oW at h
 rw [List.all_eq_true] at h
 exact beq_iff_eq.mp (h _ (amr hi))
inductive YH (X : Cx) : List Nat -> List Str -> Prop where
 | nil : YH X [] []
 | cons {i : Nat} {y : Str} {ix : List Nat} {ys : List Str} (n : Vn X i y) (k : X.env.kindOf y = some .cell \/ X.env.kindOf y = some .free) (r : YH X ix ys) : YH X (i :: ix) (y :: ys)
noncomputable def VG (scope : Scope) (x : Str) (Ja : List Str) : Bool :=
 scope.kind == .function && scope.names.lookup x == some .local && Ja.all (fun y => scope.names.lookup y == some .free) && decide ((x :: Ja).Nodup) &&
   scope.names.all fun y => y.2 != .cell && (y.2 != .local || scope.names.lookup y.1 == some .local) && (y.2 != .free || (Ja.contains y.1 && scope.names.lookup y.1 == some .free))
theorem cF {X : Cx} {scope : Scope} {x : Str} {ix : List Nat} {Ja : List Str} (c : YH X ix Ja) (ok : VG scope x Ja = true) : qt X scope x (x :: Ja) ix := by
 unfold VG at ok
 simp only [ame, List.all_eq_true, amQ, beq_iff_eq] at ok
 obtain ⟨⟨⟨⟨h1, h2⟩, h3⟩, h4⟩, h5⟩ := ok
 have kc : ∀ y ∈ Ja, X.env.kindOf y = some .cell \/ X.env.kindOf y = some .free := by
   clear h3 h4 h5
   induction c with
   | nil => intro y hy; cases hy
   | cons n k r ih =>
     intro y hy
     rcases al6.mp hy with e | hy
     . subst e; exact k
     . exact ih y hy
 refine ⟨h1, fun y hy e => ?_, h4, fun y hy e => ?_, h2, fun y hy e => ?_, ?_, fun i hi => ?_⟩
 . have := (h5 y hy).1.1
   rw [e] at this
   simp at this
 . have := (h5 y hy).1.2
   rw [e] at this
   simpa using this
 . have := (h5 y hy).2
   rw [e] at this
   simp at this
   exact ⟨this.2, kc _ this.1⟩
 . congr 1
   clear h3 h4 h5 kc
   induction c with
   | nil => rfl
   | cons n k r ih => rw [am1, n.hi, ← ih]
 . clear h4 h5 kc
   induction c with
   | nil => cases hi
   | @cons i' y ix ys n k r ih =>
     rcases al6.mp hi with e | hi
     . subst e; exact ⟨y, n.hi, h3 y al0⟩
     . exact ih (fun z hz => h3 z (al3 _ hz)) hi
noncomputable def D.UJ : D -> Int
 | .int i => i
 | _ => 0
noncomputable def D.toS : D -> Str
 | .str x => x
 | _ => Str.empty
theorem eX {bs : List Int} {k : Int} (h0 : 0 <= k) (h1 : k < bs.length) : BD (bs.map D.int) k = some (.int (bs.getD k.toNat 0)) := by
 obtain ⟨j, rfl⟩ : ∃ j : Nat, k = j := ⟨k.toNat, by omega⟩
 refine aD ?_
 have hl : j < bs.length := by omega
 rw [aml, amm hl]
 simp [List.getD, hl]
theorem jm : ∀ (bs : List Int), D.cM (bs.map D.int) = true
 | [] => rfl
 | i :: r => by rw [amh, D.cM, jm r]; rfl
theorem mz {lo : Int} {n j : Nat} {d : D} (h : (bZ lo n)[j]? = some d) : d = .int (lo + j) /\ j < n := by
 have hl : j < n := by
   have := (amj.mp h).1
   simpa [bZ] using this
 refine ⟨?_, hl⟩
 unfold bZ at h
 rw [aml, ana hl] at h
 exact (amw h).symm
theorem ck {α : Type} (l : List α) : l.filter (fun _ => true) = l := by simp
theorem Jb {K : PySem.W.Frag} {CL : Str -> Addr} {Z : Hp} : ∀ (ns : List Int), aL K CL Z (ns.map D.int) (ns.map V.int)
 | [] => .nil
 | n :: r => .cons (.int n) (Jb r)
theorem ab8 {K : PySem.W.Frag} {CL : Str -> Addr} {H : Hp} {a : Addr} {arg : List Int -> List D} {pre : List Int -> Prop} {res : List Int -> T} {ns : List Int} (ha : arg ns = [.lst (ns.map D.int)]) (hp : pre ns) (hr : res ns = .sh (.bl true)) (hS : rV K H a (ns.map V.int)) (h0 : ∀ x, P7 x = true -> CL x = 0 := by intros; rfl) :
   nT K CL 1 arg pre res [.ref a] H (fun v _ => v = .bl true) fun _ _ _ => False :=
 ⟨H, ns, .refl _, fun _ _ q _ => q, by rw [ha]; exact .cons (.lst hS (Jb ns)) .nil, by rw [ha]; rfl, hp, fun x hx e => absurd (h0 x hx) e, fun v H' W' fp _ _ _ _ _ r _ _ => by
   rw [hr] at r
   cases r with
   | sh r => exact r.sc rfl⟩
mutual
noncomputable def D.toPy : D -> PyData
 | .non => .none
 | .bl b => .bool b
 | .int i => .int i
 | .str x => .str x
 | .tup ds => .tuple (D.j0 ds)
 | .lst ds => .list (D.j0 ds)
 | .ins _ _ => .none
 | .ve _ => .none
 | .dct _ => .none
 | .any => .none
 | .val _ => .none
noncomputable def D.j0 : List D -> List PyData
 | [] => []
 | d :: ds => d.toPy :: D.j0 ds
end
inductive xK : Nat -> D -> Prop where
 | non (n : Nat) : xK n .non
 | bl (n : Nat) (b : Bool) : xK n (.bl b)
 | int (n : Nat) (i : Int) : xK n (.int i)
 | str (n : Nat) (x : Str) (h : PyData.strOk x = true) : xK n (.str x)
 | tup {n : Nat} {ds : List D} (h : ∀ d ∈ ds, xK n d) : xK (n + 1) (.tup ds)
 | lst {n : Nat} {ds : List D} (h : ∀ d ∈ ds, xK n d) : xK (n + 1) (.lst ds)
noncomputable def Qh (a b : D) : Bool := PyData.eqv a.toPy b.toPy
theorem xK.ab9 {n : Nat} : ∀ {ds : List D}, (∀ d ∈ ds, d.toPy.canLay0 = true /\ d.toPy.depth <= n) -> PyData.canLayAll0 (D.j0 ds) = true /\ PyData.depthAll (D.j0 ds) <= n
 | [], _ => ⟨by rw [D.j0, PyData.canLayAll0], by rw [D.j0, PyData.depthAll]; exact amu _⟩
 | d :: ds, h => by
   have h1 := h d al0
   have h2 := xK.ab9 (ds := ds) fun e he => h e (al3 _ he)
   rw [D.j0, PyData.canLayAll0, PyData.depthAll, h1.1, h2.1]
   exact ⟨rfl, Nat.max_le.mpr ⟨h1.2, h2.2⟩⟩
theorem xK.lay {n : Nat} {d : D} (h : xK n d) : d.toPy.canLay0 = true /\ d.toPy.depth <= n := by
 induction h with
 | non n => exact ⟨by rw [D.toPy, PyData.canLay0], by rw [D.toPy, PyData.depth]; exact amu _⟩
 | bl n b => exact ⟨by rw [D.toPy, PyData.canLay0], by rw [D.toPy, PyData.depth]; exact amu _⟩
 | int n i => exact ⟨by rw [D.toPy, PyData.canLay0], by rw [D.toPy, PyData.depth]; exact amu _⟩
 | str n x hx => exact ⟨by rw [D.toPy, PyData.canLay0]; exact hx, by rw [D.toPy, PyData.depth]; exact amu _⟩
 | @tup n ds _ ih =>
   have := xK.ab9 ih
   rw [D.toPy, PyData.canLay0, PyData.depth]
   exact ⟨this.1, by omega⟩
 | @lst n ds _ ih =>
   have := xK.ab9 ih
   rw [D.toPy, PyData.canLay0, PyData.depth]
   exact ⟨this.1, by omega⟩
section
variable {X : Cx} {CL : Str -> Addr} {pins : List (Addr × Obj)} {σ : L2.St} {H : Hp} {s : Shared}
theorem Gg (I : L2.Inv X pins σ H s) {n : Nat} {d : D} {v : V} {u : Value} (hd : xK n d) (q : bS X.K CL H d v) (r : RelV v u) : ∃ as, Reads s.heap u d.toPy as := by
 refine bS.rec (motive_1 := fun d v _ => ∀ (n : Nat) (u : Value), xK n d -> RelV v u -> ∃ as, Reads s.heap u d.toPy as)
   (motive_2 := fun ds vs _ => ∀ (n : Nat) (us : List Value), (∀ d ∈ ds, xK n d) -> Vals vs us -> ∃ as, ReadsAll s.heap us (D.j0 ds) as) (motive_3 := fun _ _ _ => True) (motive_4 := fun _ _ _ => True) (motive_5 := fun _ _ _ => True)
   (fun _ _ _ r => ?non) (fun b _ _ _ r => ?bl) (fun i _ _ _ r => ?int) (fun x _ _ _ r => ?str) (fun _ _ _ hd _ => by cases hd) (fun _ _ _ hd _ => by cases hd) (fun hq _ ih n u hd r => ?tup) (fun hq _ ih n u hd r => ?lst) (fun _ _ _ _ _ hd _ => by cases hd) (fun _ _ _ _ _ hd _ => by cases hd) (fun _ _ _ _ _ hd _ => by cases hd)
   (fun _ _ _ r => ?nil) (fun _ _ ih ihs n us h r => ?cons) trivial (fun _ _ _ _ => trivial) trivial (fun _ _ _ _ => trivial) trivial (fun _ _ _ _ => trivial) q n u hd r
 case non => cases r; rw [D.toPy]; exact ⟨[], .none⟩
 case bl => cases r; rw [D.toPy]; exact ⟨[], .bool b⟩
 case int => obtain ⟨t, rfl⟩ := r; rw [D.toPy]; exact ⟨[], .int i t⟩
 case str => obtain ⟨t, rfl⟩ := r; rw [D.toPy]; exact ⟨[], .str x t⟩
 case tup =>
   cases hd with
   | tup hd =>
     cases r
     obtain ⟨its, rv, ⟨o, e, c, k, dt⟩, _⟩ := I.tuple hq
     obtain ⟨as, ra⟩ := ih _ _ hd rv
     rw [D.toPy]
     exact ⟨as, .tuple e c dt (by simpa using ra)⟩
 case lst =>
   cases hd with
   | lst hd =>
     cases r
     obtain ⟨its, rv, ⟨o, k, e, c, _, dt⟩, _⟩ := I.list hq
     obtain ⟨as, ra⟩ := ih _ _ hd rv
     rw [D.toPy]
     exact ⟨_, .list e c dt (by simpa using ra)⟩
 case nil => cases r; rw [D.j0]; exact ⟨[], .nil⟩
 case cons =>
   cases r with
   | cons r rs =>
     obtain ⟨as, ra⟩ := ih n _ (h _ al0) r
     obtain ⟨bs, rb⟩ := ihs n _ (fun e he => h e (al3 _ he)) rs
     rw [D.j0]
     exact ⟨as ++ bs, .cons ra rb⟩
end
section
variable {X : Cx} {CL : Str -> Addr} {b : Bx} {δ δ1 δ2 δ3 : List (Option T)} {e e1 e2 e3 : Expr} {d1 d2 : D} {ds : List D} {pos p2 pp : Pos} {n m : Nat} {i : Nat} {x : Str} {t : T} {eW : List Stmt} {DD : dg}
theorem acd (hu : X.A.units + 64 < cLine) : sC X (compareOp .Eq) (fun x y H Q => ∃ a c, bS X.K CL H a x /\ bS X.K CL H c y /\ xK 60 a /\ xK 60 c /\ Q (.bl (Qh a c)) H) := by
 intro pins s σ H x y v u Q I rx ry h
 obtain ⟨a, c, ra, rc, da, dc, q⟩ := h
 obtain ⟨as, r1⟩ := Gg I da ra rx
 obtain ⟨bs, r2⟩ := Gg I dc rc ry
 exact SeqAt.rcAt_reads r1 r2 da.lay.1 dc.lay.1 (by have := da.lay.2; omega) X.prog X.w X.xe _ ⟨.bl _, H, I, rfl, q⟩
theorem ace (hu : X.A.units + 64 < cLine) : sC X (compareOp .NotEq) (fun x y H Q => ∃ a c, bS X.K CL H a x /\ bS X.K CL H c y /\ xK 60 a /\ xK 60 c /\ Q (.bl (!Qh a c)) H) := by
 intro pins s σ H x y v u Q I rx ry h
 obtain ⟨a, c, ra, rc, da, dc, q⟩ := h
 obtain ⟨as, r1⟩ := Gg I da ra rx
 obtain ⟨bs, r2⟩ := Gg I dc rc ry
 exact SeqAt.rcNeAt_reads r1 r2 da.lay.1 dc.lay.1 (by have := da.lay.2; omega) X.prog X.w X.xe _ ⟨.bl _, H, I, rfl, q⟩
theorem ae6 {op : CmpOp} {f : Bool -> Bool} (ho : sC X (compareOp op) (fun x y H Q => ∃ a c, bS X.K CL H a x /\ bS X.K CL H c y /\ xK 60 a /\ xK 60 c /\ Q (.bl (f (Qh a c))) H)) (h1 : dz X CL b e1 δ d1 δ1) (h2 : dz X CL b e2 δ1 d2 δ2) (k1 : xK 60 d1) (k2 : xK 60 d2)
   (hm : behindInMarks op e2 = false) : qM X CL b (.Compare e1 [op] [e2] pos) δ (f (Qh d1 d2)) δ2 /\ cY X CL b (.Compare e1 [op] [e2] pos) δ (.sh (.bl (f (Qh d1 d2)))) δ2 := by
 constructor
 . intro H Z σ ts vs Q S k
   refine EZ (uC ho eU eU hm) (h1 H Z σ ts vs _ S fun v1 H1 Z1 z1 k1' S1 r1 => h2 H1 Z1 σ ts vs _ S1 fun v2 H2 Z2 z2 k2' S2 r2 => ?_)
   exact ⟨d1, d2, r1.mono k2', r2, k1, k2, _, rfl, k H2 Z2 (z1.trans z2) (k1'.trans k2') S2⟩
 . intro H Z σ ts vs Q S k
   refine dw (uB ho eU eU hm) (h1 H Z σ ts vs _ S fun v1 H1 Z1 z1 k1' S1 r1 => h2 H1 Z1 σ ts vs _ S1 fun v2 H2 Z2 z2 k2' S2 r2 => ?_)
   exact ⟨d1, d2, r1.mono k2', r2, k1, k2, k _ H2 Z2 (z1.trans z2) (k1'.trans k2') (S2.push (.bl _))⟩
theorem acf (hu : X.A.units + 64 < cLine) (h1 : dz X CL b e1 δ d1 δ1) (h2 : dz X CL b e2 δ1 d2 δ2) (k1 : xK 60 d1) (k2 : xK 60 d2) : qM X CL b (.Compare e1 [.Eq] [e2] pos) δ (Qh d1 d2) δ2 /\ cY X CL b (.Compare e1 [.Eq] [e2] pos) δ (.sh (.bl (Qh d1 d2))) δ2 :=
 ae6 (f := fun b => b) (acd hu) h1 h2 k1 k2 (mK _)
theorem Mm (hu : X.A.units + 64 < cLine) (h1 : dz X CL b e1 δ d1 δ1) (h2 : dz X CL b e2 δ1 d2 δ2) (k1 : xK 60 d1) (k2 : xK 60 d2) : qM X CL b (.Compare e1 [.NotEq] [e2] pos) δ (!Qh d1 d2) δ2 /\ cY X CL b (.Compare e1 [.NotEq] [e2] pos) δ (.sh (.bl (!Qh d1 d2))) δ2 :=
 ae6 (f := fun b => !b) (ace hu) h1 h2 k1 k2 (mK _)
noncomputable def cutD {α : Type} (xs : List α) (lo hi : Option Int) : List α := (xs.drop (HT.zG xs.length 0 lo)).take (HT.zG xs.length xs.length hi - HT.zG xs.length 0 lo)
theorem aL.drop {K : PySem.W.Frag} {Z : Hp} : ∀ {ds : List L3.D} {vs : List V} (n : Nat), aL K CL Z ds vs -> aL K CL Z (ds.drop n) (vs.drop n)
 | _, _, 0, r => r
 | _, _, _ + 1, .nil => .nil
 | _, _, n + 1, .cons _ t => aL.drop n t
theorem aL.take {K : PySem.W.Frag} {Z : Hp} : ∀ {ds : List L3.D} {vs : List V} (n : Nat), aL K CL Z ds vs -> aL K CL Z (ds.take n) (vs.take n)
 | _, _, 0, _ => .nil
 | _, _, _ + 1, .nil => .nil
 | _, _, n + 1, .cons r t => .cons r (aL.take n t)
theorem aL.cut {K : PySem.W.Frag} {Z : Hp} {ds : List L3.D} {vs : List V} (r : aL K CL Z ds vs) (lo hi : Option Int) : aL K CL Z (cutD ds lo hi) (RK vs lo hi) := by
 unfold cutD RK
 rw [r.length]
 exact (r.drop _).take _
theorem Jc : ∀ {ds : List L3.D}, D.cM ds = true -> ∀ d ∈ ds, d.rW = true
 | [], _, _, h => by cases h
 | d :: ds, k, e, h => by
   rw [D.cM, ame] at k
   rcases al6.mp h with h | h
   . subst h; exact k.1
   . exact Jc k.2 e h
theorem Qi : ∀ {ds : List L3.D}, (∀ d ∈ ds, d.rW = true) -> D.cM ds = true
 | [], _ => rfl
 | d :: ds, h => by rw [D.cM, h d al0, Qi fun e he => h e (al3 _ he)]; rfl
theorem YJ {α : Type} {xs : List α} {lo hi : Option Int} {x : α} (h : x ∈ cutD xs lo hi) : x ∈ xs := List.mem_of_mem_drop (List.mem_of_mem_take h)
noncomputable def TOv (X : Cx) (CL : Str -> Addr) (b : Bx) (e : Option Expr) (δ : List (Option T)) (k : Option Int) (δ' : List (Option T)) : Prop :=
 ∃ t, PO X e t /\ ∀ (H Z : Hp) (σ : L2.St) (ts : List T) (vs : List V) (Q : Option Int -> Hp -> Prop), cy X.K CL b H Z δ σ ts vs -> (∀ H' Z', aM Z Z' -> aM H H' -> cy X.K CL b H' Z' δ' σ ts vs -> Q k H') -> t σ H Q
theorem Cm : TOv X CL b none δ none δ := ⟨_, Yn, fun H Z σ ts vs Q S k => k H Z (.refl _) (.refl _) S⟩
theorem Cp {k : Int} (h : dz X CL b e δ (.int k) δ1) : TOv X CL b (some e) δ (some k) δ1 := ⟨_, Yo eU, fun H Z σ ts vs Q S kk => h H Z σ ts vs _ S fun v H1 Z1 z1 k1 S1 r => ⟨k, r.sc rfl, kk H1 Z1 z1 k1 S1⟩⟩
theorem C6 {lo hi : Option Expr} {l h : Option Int} (h1 : dz X CL b e δ (.lst ds) δ1) (hi1 : D.cM ds = true) (h2 : TOv X CL b lo δ1 l δ2) (h3 : TOv X CL b hi δ2 h δ3) : cY X CL b (.Subscript e (.Slice lo hi none p2) pos) δ (.lst ((cutD ds l h).map T.sh)) δ3 := fun H Z σ ts vs Q S k => by
 obtain ⟨t2, po2, w2⟩ := h2
 obtain ⟨t3, po3, w3⟩ := h3
 refine dw (II Yp eU po2 po3) (h1 H Z σ ts vs _ S fun v H1 Z1 z1 k1 S1 r => w2 H1 Z1 σ ts vs _ S1 fun H2 Z2 z2 k2 S2 => w3 H2 Z2 σ ts vs _ S2 fun H3 Z3 z3 k3 S3 => ?_)
 have r' := r.mono (k2.trans k3)
 cases r' with
 | lst hq rr =>
   refine ⟨_, _, rfl, hq, fun p hp => ?_⟩
   have rc := aL.rW S3.tp (Qi fun d hd => Jc hi1 d (YJ hd)) (rr.cut l h)
   obtain ⟨c, S4⟩ := (cy.C3 rc S3).zJ (g0 := []) (by simp [rc.length]) hp
   exact k _ _ _ (z1.trans (z2.trans z3)) (k1.trans (k2.trans (k3.trans c))) S4
theorem zK (hm : X.mg "tuple" = none) (h : dz X CL b e δ (.lst ds) δ1) (hi : D.cM ds = true) (hg : Gl X "tuple") (hs : starEach [e] X.env = (false, eval e X.env) :: starEach [] X.env := by exact cz rfl) : cY X CL b (.Call (.Name "tuple" pp) [e] [] pos) δ (.sh (.tup ds)) δ1 := fun H Z σ ts vs Q S k =>
 dw (qq EY hg hm I0 (c9 eU gf hs) (he := hs)) (h H Z σ ts vs _ S fun v H1 Z1 z1 k1 S1 r => by
   cases r with
   | lst hq rr =>
     refine ⟨_, _, rfl, .inl ⟨hq, fun l hl => ?_⟩⟩
     obtain ⟨a, c, S2⟩ := (cy.C3 (aL.rW S1.tp hi rr) S1).Vz (by simp [rr.length]) hl
     obtain ⟨Z3, z3, S3⟩ := S2.Vu
     rw [T.iY, qN] at S3
     exact k _ _ Z3 (z1.trans (a.trans z3)) (k1.trans c) S3)
theorem Bc {tl Qg : List T} {pa pb : Pos} (n : Vn X i x) (h0 : δ[i]? = some (some (.lst Qg))) (h : cY X CL b e δ t δ1) (h1 : δ1[i]? = some (some (.lst tl))) (hl : tl.length <= 1000000) (k : gw X CL b eW (δ1.set i (some (.lst (tl ++ [t])))) DD)
   (mw : attributeBase (.Name x pp) "append" X.env (eval (.Name x pp) X.env) = eval (.Name x pp) X.env := by rfl)
   (C1 : ((backTo pb (starEach [e] X.env)).all (fun x => !x.1) && (backToKw pb (keywordEach [] X.env)).all (fun x => x.1.isSome) && decide ([e].length + ([] : List Keyword).length + (if ([] : List Keyword).isEmpty then 0 else 1) < 30)) = true := by rfl)
   (hline : (pa.endLine == pb.line) = true := by rfl) (hs : starEach [e] X.env = (false, eval e X.env) :: starEach [] X.env := by exact cz rfl) (Ml : swapsWith (.Call (.Attribute (.Name x pp) "append" pa) [e] [] pb) none pos.line X.env = pure false := by rfl) :
   gw X CL b (.Expr (.Call (.Attribute (.Name x pp) "append" pa) [e] [] pb) pos :: eW) δ DD :=
 dD (ab6 i h0 h h1 (anB hl (by rw [anb]; decide)) k n.hi n.hv n.hd n.qo mw C1 hline hs Ml)
theorem VH {tl : List T} {k : Int} {j : Nat} {ps : Pos} (n : Vn X i x) (h : cY X CL b e δ t δ1) (h2 : dz X CL b e2 δ1 (.int k) δ1) (h1 : δ1[i]? = some (some (.lst tl))) (hk : RL tl.length k = some j) (kk : gw X CL b eW (δ1.set i (some (.lst (tl.set j t)))) DD)
   (ha : ∀ v, assign (.Subscript (.Name x pp) e2 ps) X.env v = (do
     let ov ← holding [v] (eval (.Name x pp) X.env)
     let iv ← holding [v, ov] (eval e2 X.env)
     standAt ps
     holding [v, ov, iv] (setItem ov iv v)
     release [v, ov, iv] []) := by intro _; rfl)
   (hs : swapsWithSole [.Subscript (.Name x pp) e2 ps] e pos.line X.env = pure false := by rfl) (hw : swappedStores [.Subscript (.Name x pp) e2 ps] e X.env = pure none := by rfl) (ha1 : (assignEach [.Subscript (.Name x pp) e2 ps] X.env).map (·.2) = [assign (.Subscript (.Name x pp) e2 ps) X.env] := by rfl) :
   gw X CL b (.Assign [.Subscript (.Name x pp) e2 ps] e pos :: eW) δ DD := by
 refine dD fun H Z σ ts vs E S M => zI (abv eU (abu (nY n.hi n.hv n.hd n.qo) eU set_list ha) hs hw ha1) (h H Z σ ts vs _ S fun v H1 Z1 z1 k1 S1 => ?_)
 have hj : j < tl.length := (F3 hk).2.1
 obtain ⟨v0, e0, _⟩ := S1.look h1
 refine ⟨v0, e0, ?_⟩
 refine h2 H1 Z1 σ _ _ _ S1 fun v2 H2 Z2 z2 k2 S2 r2 => ?_
 obtain ⟨a, us, ea, Vv, hu, S3⟩ := S2.setAt h1 hj
 rw [e0] at ea
 cases ea
 exact ⟨a, us, k, j, rfl, r2.sc rfl, Vv, by rw [hu]; exact hk, M.nx _ σ _ Z2 (z1.trans z2) S3 kk⟩
theorem cH {n : Nat} (hn : ds.length = n) (hm : X.mg "len" = none) (h : dz X CL b e δ (.lst ds) δ1) (hg : Gl X "len") (hs : starEach [e] X.env = (false, eval e X.env) :: starEach [] X.env := by exact cz rfl) : cY X CL b (.Call (.Name "len" pp) [e] [] pos) δ (.sh (.int n)) δ1 := by
 subst hn
 exact Qd hm h hg hs
theorem aQ (h : cY X CL b e δ (.lst (ds.map T.sh)) δ1) : dz X CL b e δ (.lst ds) δ1 := by
 have := Qa h
 rwa [T.iY, qN] at this
end
theorem sH {α : Type} {f : α -> D} {l : List α} {k : Int} (z : α) (h0 : 0 <= k) (h1 : k < l.length) : BD (l.map f) k = some (f (l.getD k.toNat z)) := by
 obtain ⟨j, rfl⟩ : ∃ j : Nat, k = j := ⟨k.toNat, by omega⟩
 refine aD ?_
 have hl : j < l.length := by omega
 rw [aml, amm hl]
 simp [List.getD, hl]
theorem c5 {α : Type} {f : α -> D} (h : ∀ a, (f a).rW = true) : ∀ (l : List α), D.cM (l.map f) = true
 | [] => rfl
 | a :: l => by rw [amh, D.cM, h a, c5 h l]; rfl
section
variable {X : Cx} {CL : Str -> Addr} {b : Bx} {δ δ1 δ2 δ3 : List (Option T)} {e e1 e2 e3 : Expr} {es : List Expr} {d d1 d2 : D} {ds : List D} {pos p2 pp : Pos} {n m : Nat} {i : Nat} {x : Str} {t : T} {eW : List Stmt} {DD : dg}
theorem YK {k : Int} {u : Tok} (hm : X.mg x = some (.int k u)) (hg : Gl X x) (hd : (x == ("__debug__" : Str)) = false := by decide) : cY X CL b (.Name x pos) δ (.sh (.int k)) δ := fun H Z σ ts vs Q S kk =>
 dw (FW (v := .int k) hg hm ⟨u, rfl⟩ hd) (kk _ H Z (.refl _) (.refl _) (S.push (.int k)))
theorem jn {k : Int} (hm : ∃ u, X.mg x = some (.int k u)) (hg : Gl X x) (hd : (x == ("__debug__" : Str)) = false := by decide) : cY X CL b (.Name x pos) δ (.sh (.int k)) δ := by
 obtain ⟨u, hm⟩ := hm
 exact YK hm hg hd
theorem vE (n : Vn X i x) (h : δ[i]? = some (some t)) (e : t.iY = d) : dz X CL b (.Name x pos) δ d δ := e ▸ vB n h
theorem qO (x : Str) : ∀ l : List Str, inV (.str x) (l.map V.str) = decide (x ∈ l)
 | [] => by simp [inV]
 | y :: l => by
   have ih := qO x l
   unfold inV at ih ⊢
   rw [amh, am3, ih]
   have e : ∀ a c : Str, Ve (.str a) (.str c) = (a == c) := fun _ _ => rfl
   rw [e]
   by_cases h : y = x
   . subst h; simp
   . have h' : ¬ x = y := fun e => h e.symm
     simp [h, h']
theorem aL.strs {K : PySem.W.Frag} {Z : Hp} : ∀ {l : List Str} {vs : List V}, aL K CL Z (l.map D.str) vs -> vs = l.map V.str
 | [], _, r => by
   have r' : aL K CL Z [] _ := r
   cases r'; rfl
 | y :: l, _, r => by
   have r' : aL K CL Z (D.str y :: l.map D.str) _ := r
   cases r' with
   | cons r1 r2 => rw [r1.sc rfl, aL.strs r2]; rfl
theorem gG : ∀ l : List Str, (l.map V.str).all vm = true
 | [] => rfl
 | y :: l => by rw [amh, amX, gG l]; rfl
theorem ae8 {l : List Str} (h1 : dz X CL b e1 δ (.str x) δ1) (h2 : dz X CL b e2 δ1 (.tup (l.map .str)) δ2) (hm : behindInMarks .In e2 = false) :
   qM X CL b (.Compare e1 [.In] [e2] pos) δ (decide (x ∈ l)) δ2 /\ cY X CL b (.Compare e1 [.In] [e2] pos) δ (.sh (.bl (decide (x ∈ l)))) δ2 := by
 constructor
 . intro H Z σ ts vs Q S k
   refine EZ (uC uD eU eU hm) (h1 H Z σ ts vs _ S fun v1 H1 Z1 z1 k1 S1 r1 => h2 H1 Z1 σ ts vs _ S1 fun v2 H2 Z2 z2 k2 S2 r2 => ?_)
   cases r2 with
   | tup hq rr =>
     have e := rr.strs
     subst e
     refine ⟨_, _, rfl, .inr hq, by rw [r1.sc rfl]; rfl, gG l, _, rfl, ?_⟩
     rw [alT amc, r1.sc rfl, qO]
     exact k H2 Z2 (z1.trans z2) (k1.trans k2) S2
 . intro H Z σ ts vs Q S k
   refine dw (uB uD eU eU hm) (h1 H Z σ ts vs _ S fun v1 H1 Z1 z1 k1 S1 r1 => h2 H1 Z1 σ ts vs _ S1 fun v2 H2 Z2 z2 k2 S2 r2 => ?_)
   cases r2 with
   | tup hq rr =>
     have e := rr.strs
     subst e
     refine ⟨_, _, rfl, .inr hq, by rw [r1.sc rfl]; rfl, gG l, ?_⟩
     rw [alT amc, r1.sc rfl, qO]
     exact k _ H2 Z2 (z1.trans z2) (k1.trans k2) (S2.push (.bl _))
theorem VJ {l : List Str} {j : Nat} (h1 : dz X CL b e1 δ (.str x) δ1) (h2 : P8 X CL b es δ1 ((l.map D.str).map T.sh) δ2) (hl : (l.map D.str).length <= sizeLine := by exact aH rfl) :
   qM X CL b (.Compare e1 [.In] [.Tuple es j p2] pos) δ (decide (x ∈ l)) δ2 /\ cY X CL b (.Compare e1 [.In] [.Tuple es j p2] pos) δ (.sh (.bl (decide (x ∈ l)))) δ2 := ae8 h1 (ah (ni h2 hl)) rfl
theorem Cq {p : Bool} (hm : X.mg "int" = none) (h : dz X CL b e δ (.bl p) δ1) (hg : Gl X "int") (hs : starEach [e] X.env = (false, eval e X.env) :: starEach [] X.env := by exact cz rfl) : cY X CL b (.Call (.Name "int" pp) [e] [] pos) δ (.sh (.int (if p then 1 else 0))) δ1 := fun H Z σ ts vs Q S k =>
 dw (qq RC hg hm RX (c9 eU gf hs) (he := hs)) (h H Z σ ts vs _ S fun v H1 Z1 z1 k1 S1 r => .inr ⟨p, by rw [r.sc rfl], k _ H1 Z1 z1 k1 (S1.push (.int _))⟩)
noncomputable def C7 : Expr -> Option Str
 | .Constant (.str x) _ _ => some x
 | _ => none
noncomputable def zL : List Expr -> Option (List Str)
 | [] => some []
 | e :: es => (C7 e).bind fun x => (zL es).map (x :: ·)
theorem Jd {e : Expr} {x : Str} (h : C7 e = some x) : ∃ j p, e = .Constant (.str x) j p := by
 unfold C7 at h
 split at h
 . cases h; exact ⟨_, _, rfl⟩
 . cases h
theorem cP : ∀ {es : List Expr} {l : List Str}, zL es = some l -> P8 X CL b es δ ((l.map D.str).map T.sh) δ
 | [], l, h => by
   have e : l = [] := (amw h).symm
   subst e
   exact dU
 | e :: es, l, h => by
   rw [zL] at h
   obtain ⟨x, hx, h⟩ := Option.bind_eq_some_iff.mp h
   obtain ⟨l', hl, rfl⟩ := amv.mp h
   obtain ⟨j, p, rfl⟩ := Jd hx
   exact bC bR (cP hl)
theorem ae9 {st1 : Stmt} (J : List (Option T) -> Prop) (k : ∀ δ2, J δ2 -> gw X CL b eW δ2 DD) (h : (∀ δ2, J δ2 -> gw X CL b eW δ2 DD) -> gw X CL b (st1 :: eW) δ DD) : gw X CL b (st1 :: eW) δ DD := h k
end
theorem VL {α : Type} {l : List α} {k : Int} (z : α) (h0 : 0 <= k) (h1 : k < l.length) : BD l k = some (l.getD k.toNat z) := by
 obtain ⟨j, rfl⟩ : ∃ j : Nat, k = j := ⟨k.toNat, by omega⟩
 refine aD ?_
 have hl : j < l.length := by omega
 rw [amm hl]
 simp [List.getD, hl]
theorem Mp {n : Nat} {k : Int} (h0 : 0 <= k) (h1 : k < n) : RL n k = some k.toNat := by
 unfold RL
 rw [alW h0, alW h1]
theorem str_len (x y : Str) : (x ++ y).length = x.length + y.length := by
 show (x.cps ++ y.cps).size = _
 rw [Array.size_append]; rfl
theorem Bd (l : List Int) : T.ef ((l.map D.int).map T.sh) = true := by
 rw [al5]
 induction l with
 | nil => rfl
 | cons i r ih => rw [amh, T.ef, ih]; rfl
section
variable {X : Cx} {tg : Expr}
end
section
variable {X : Cx} {CL : Str -> Addr} {b : Bx} {δ δ1 : List (Option T)} {e : Expr} {ds : List D} {tg : Expr} {pr pc : Pos}
end
section
variable {K : PySem.W.Frag} {CL : Str -> Addr} {b : Bx} {H Z : Hp} {δ : List (Option T)} {σ : L2.St} {ts tt : List T} {vs : List V} {t : T}
theorem cy.acg {i j : Nat} (S : cy K CL b H Z δ σ ts vs) (hi : δ[i]? = some (some (.tup tt))) (hj : tt[j]? = some t) :
   ∃ a0 Mq v, σ[i]? = some (some (.ref a0)) /\ Z a0 = some (.tup Mq) /\ Mq[j]? = some v /\ cy K CL b H Z (δ.set i (some (.tup (tt.set j (.sh .any))))) σ (t :: ts) (v :: vs) := by
 obtain ⟨fp, gp, e, r, nd, k⟩ := S.rep
 obtain ⟨v0, f1, f2, f3, hv, sG, rt, put, _⟩ := e.get hi
 subst sG
 cases rt with
 | @tup a0 Mq _ _ hq r0 =>
   obtain ⟨vj, g1, g2, g3, X3, hg, rj, set⟩ := r0.at hj
   subst hg
   have r2 := set (H' := H) (t' := .sh .any) (v' := vj) (g := []) (fun _ _ => rfl) (.sh (.any vj))
   rw [jl X3] at r2
   have e2 := put (H' := H) (.refl _) (fun _ _ => rfl) (dN.tup hq r2)
   rw [jl hv] at e2
   have hp : ((f1 ++ ((g1 ++ ([] ++ g3)) ++ f3)) ++ (g2 ++ gp)).Perm ((f1 ++ ((g1 ++ (g2 ++ g3)) ++ f3)) ++ gp) := by
     simp only [anp, alZ]
     refine amt f1 (amt g1 ?_)
     have := (amB (l₁ := g3 ++ f3) (l₂ := g2)).append_right gp
     simp only [alZ] at this
     exact this
   exact ⟨a0, Mq, vj, hv, hq, X3, ⟨⟨_, g2 ++ gp, e2, .cons rj r, hp.nodup_iff.mpr nd, fun a ha => k a (hp.mem_iff.mp ha)⟩, S.bh, S.zz, S.zh, S.new, S.tp, S.tab⟩⟩
end
section
variable {X : Cx} {CL : Str -> Addr} {b : Bx} {δ : List (Option T)} {tt : List T} {t : T} {i : Nat} {x : Str} {pp pc ps : Pos} {kj : Nat}
theorem Qj (j : Nat) (n : Vn X i x) (h : δ[i]? = some (some (.tup tt))) (hj : tt[j]? = some t) : cY X CL b (.Subscript (.Name x pp) (.Constant (.int j) kj pc) ps) δ t (δ.set i (some (.tup (tt.set j (.sh .any))))) := fun H Z σ ts vs Q S k => by
 obtain ⟨a0, Mq, v, hv, hq, X3, S'⟩ := S.acg h hj
 exact dw (Fi Vd (nY n.hi n.hv n.hd n.qo) LK (fun _ _ => rfl)) ⟨_, hv, a0, Mq, j, v, rfl, rfl, Bw.of (S.zh _ _ hq), aD X3, k v H Z (.refl _) (.refl _) S'⟩
end
section
variable {X : Cx} {CL : Str -> Addr} {b : Bx} {δ δ1 : List (Option T)} {e : Expr} {ds : List D} {t : T} {i : Nat} {x : Str} {pos pp p2 : Pos} {kj : Nat}
end
section
variable {K : PySem.W.Frag} {CL : Str -> Addr} {b : Bx} {H H' Z Z' : Hp} {δ δ' : List (Option T)} {σ σ' : L2.St} {ts tl : List T} {vs us : List V} {t : T} {v : V}
theorem vn.get : ∀ {fs : List (Str × D)} {gs : List (Str × V)} {f : Str} {d : D}, vn K CL Z fs gs -> fs.lookup f = some d -> ∃ v, gs.lookup f = some v /\ bS K CL Z d v
 | _, _, _, _, .nil, e => by simp at e
 | _, _, f, d, .cons (x := x) r t, e => by
   rw [amG] at e ⊢
   cases h : f == x with
   | true => rw [h] at e; cases e; exact ⟨_, rfl, r⟩
   | false => rw [h] at e; exact vn.get t e
noncomputable def E2 (f : Str) (t : T) : List (Str × T) -> List (Str × T)
 | [] => [(f, t)]
 | (g, x) :: r => if g = f then (g, t) :: r else (g, x) :: E2 f t r
theorem fq.length {fs : List (Str × T)} {gs : List (Str × V)} {fp : List Addr} (h : fq K CL H Z fs gs fp) : fs.length = gs.length :=
 fq.ind (P := fun d v _ => d.length = v.length) rfl (fun _ _ i => congrArg (· + 1) i) h
theorem fq.put {f : Str} {g : List Addr} (q : dN K CL H Z t v g) : ∀ {fs : List (Str × T)} {gs : List (Str × V)} {fp : List Addr}, fq K CL H Z fs gs fp →
   ∃ Qk f', fq K CL H Z (E2 f t fs) (n5 f v gs) Qk /\ f'.Sublist fp /\ Qk.Perm (g ++ f')
 | _, _, _, .nil => ⟨g ++ [], [], .cons q .nil, amD _, anF _⟩
 | _, _, _, .cons (x := x) (fp := fp) (gp := gp) r rs => by
   rw [E2, n5]
   by_cases h : x = f
   . rw [alW h, alW h]
     exact ⟨g ++ gp, gp, .cons q rs, am2 _ _, anF _⟩
   . rw [alT h, alT h]
     obtain ⟨p, p', h1, h2, h3⟩ := fq.put (f := f) q rs
     refine ⟨fp ++ p, fp ++ p', .cons r h1, amF (amD _) h2, (amt fp h3).trans ?_⟩
     rw [← alZ, ← alZ]
     exact amB.append_right p'
theorem cy.VM {a : Addr} {o : HO} {Qk gp fp gp' : List Addr} {δ2 : List (Option T)} (hm : qc o = false) (S : cy K CL b H Z δ σ ts vs) (own : ∀ c ∈ fp ++ gp, Z c = none /\ b.B c = none) (ha : a ∈ fp ++ gp)
   (e' : i6 K CL (upd H a o) Z δ2 σ Qk) (r' : aZ K CL (upd H a o) Z tl us gp') (pm : (Qk ++ gp').Nodup) (sub : ∀ c ∈ Qk ++ gp', c ∈ fp ++ gp) :
   cy K CL b (upd H a o) Z δ2 σ tl us := by
 have oa := own a ha
 refine ⟨⟨_, _, e', r', pm, fun c hc => own c (sub c hc)⟩, fun c u q => ?_, S.zz, fun c u q => ?_, S.new, fun c u q i => ?_, S.tab⟩
 . rw [aK (bX q oa.2)]; exact S.bh c u q
 . rw [aK (bX q oa.1)]; exact S.zh c u q
 . by_cases hc : c = a
   . subst hc; rw [bu] at q; cases q; rw [hm] at i; cases i
   . rw [aK hc] at q; exact S.tp c u q i
theorem cy.setField {i : Nat} {x : Addr} {c f : Str} {fs : List (Str × T)} (S : cy K CL b H Z δ σ (t :: ts) (v :: vs)) (hi : δ[i]? = some (some (.pin x (.ins c fs)))) :
   ∃ dx gs, σ[i]? = some (some (.ref x)) /\ H x = some (.ins (CL c) dx gs) /\ gs.length = fs.length /\ cy K CL b (upd H x (.ins (CL c) dx (n5 f v gs))) Z (δ.set i (some (.pin x (.ins c (E2 f t fs))))) σ ts vs := by
 obtain ⟨fp, gp, e, r, nd, k⟩ := S.rep
 obtain ⟨v0, f1, f2, f3, hv, sG, rt, put, _⟩ := e.get hi
 subst sG
 cases rt with
 | pin rt =>
 cases rt with
 | @ins a dx _ gs _ g ha rs =>
   cases r with
   | @cons _ _ _ _ ft gr q1 q2 =>
     have ne : ∀ c ∈ (f1 ++ (g ++ f3)) ++ (ft ++ gr), c ≠ x := fun c hc e => by
       subst e
       have hp : ((f1 ++ ((c :: g) ++ f3)) ++ (ft ++ gr)).Perm (c :: ((f1 ++ (g ++ f3)) ++ (ft ++ gr))) := by
         rw [ami, ← ami]
         exact (amU.append_right _)
       exact (amO.mp (hp.nodup_iff.mp nd)).1 hc
     refine ⟨dx, gs, hv, ha, rs.length.symm, ?_⟩
     have q1' := q1.mono (H' := upd H x (.ins (CL c) dx (n5 f v gs))) (.refl _) fun c hc => aK (ne c (by simp [hc]))
     have rs' := rs.mono (H' := upd H x (.ins (CL c) dx (n5 f v gs))) (.refl _) fun c hc => aK (ne c (by simp [hc]))
     obtain ⟨p, p', h1, h2, h3⟩ := fq.put (f := f) q1' rs'
     have r1 : dN K CL (upd H x (.ins (CL c) dx (n5 f v gs))) Z (.pin x (.ins c (E2 f t fs))) (.ref x) (x :: p) := .pin (.ins bu h1)
     have e2 := put (H' := upd H x (.ins (CL c) dx (n5 f v gs))) (.refl _) (fun c hc => aK (ne c (by
       rcases al7.mp hc with h | h
       . simp [h]
       . simp [h]))) r1
     rw [jl hv] at e2
     have hp : ((f1 ++ ((x :: p) ++ f3)) ++ gr).Perm ((f1 ++ ((x :: p') ++ f3)) ++ (ft ++ gr)) := by
       have h4 : ((f1 ++ ((x :: p) ++ f3)) ++ gr).Perm ((f1 ++ ((x :: (ft ++ p')) ++ f3)) ++ gr) := ((h3.cons x).append_right f3).append_left f1 |>.append_right gr
       refine h4.trans ?_
       simp only [ami, alZ]
       refine amt f1 (List.Perm.cons x ?_)
       have := (amB (l₁ := ft) (l₂ := p' ++ f3)).append_right gr
       simp only [alZ] at this
       exact this
     have sb : ((f1 ++ ((x :: p') ++ f3)) ++ (ft ++ gr)).Sublist ((f1 ++ ((x :: g) ++ f3)) ++ (ft ++ gr)) :=
       amF (amF (amD _) (amF (List.Sublist.cons₂ x h2) (amD _))) (amD _)
     exact S.VM rfl k (by simp) e2 (q2.mono (.refl _) fun c hc => aK (ne c (by simp [hc]))) (hp.nodup_iff.mpr (nd.sublist sb)) fun c hc => sb.subset (hp.mem_iff.mp hc)
end
section
variable {X : Cx} {CL : Str -> Addr} {b : Bx} {δ δ1 δ2 : List (Option T)} {e : Expr} {es : List Expr} {t : T} {d : D} {c f x : Str} {fs : List (Str × D)} {pos pp : Pos} {DD : dg} {i : Nat}
theorem c6 (hc : zF X.K (CL c)) (n : bq X.K (CL c) f) (h : dz X CL b e δ (.ins c fs) δ1) (hl : fs.lookup f = some d) (hb : attributeBase e f X.env (eval e X.env) = eval e X.env := by rfl) :
   dz X CL b (.Attribute e f pos) δ d δ1 := fun H Z σ ts vs Q S k =>
 dw (U6 eU hb) (h H Z σ ts vs _ S fun v H' Z' z s S' r => by
   cases r with
   | @ins a dx _ gs _ ha rf =>
     obtain ⟨w, hw, rw'⟩ := rf.get hl
     exact ⟨a, CL c, dx, gs, w, rfl, ha, hc, n, hw, k w H' Z' z s S' rw'⟩)
theorem C8 (hc : zF X.K (CL c)) (n : bq X.K (CL c) f) (h : cY X CL b e δ (.sh (.ins c fs)) δ1) (hl : fs.lookup f = some d) (hb : attributeBase e f X.env (eval e X.env) = eval e X.env := by rfl) :
   cY X CL b (.Attribute e f pos) δ (.sh d) δ1 := fun H Z σ ts vs Q S k =>
 dw (U6 eU hb) (h H Z σ ts vs _ S fun v H' Z' z s S' => by
   obtain ⟨fp, gp, _, r, _, _⟩ := S'.rep
   cases r with
   | cons r _ =>
     cases r with
     | sh r =>
       cases r with
       | @ins a dx _ gs _ ha rf =>
         obtain ⟨w, hw, rw'⟩ := rf.get hl
         exact ⟨a, CL c, dx, gs, w, rfl, S'.zh _ _ ha, hc, n, hw, k w H' Z' z s (S'.pop.push rw')⟩)
theorem xT {eW : List Stmt} {a : Addr} {gs : List (Str × T)} {pa pb pc : Pos} (hc : zF X.K (CL c)) (n : bq X.K (CL c) f) (nm : Vn X i x) (h : cY X CL b e δ t δ1) (h1 : δ1[i]? = some (some (.pin a (.ins c gs)))) (hl : gs.length < 1000)
   (k : gw X CL b eW (δ1.set i (some (.pin a (.ins c (E2 f t gs))))) DD) (hs : swapsWith e (some (.Attribute (.Name x pa) f pb)) pc.line X.env = pure false := by rfl) :
   gw X CL b (.Assign [.Attribute (.Name x pa) f pb] e pc :: eW) δ DD := dD fun H Z σ ts vs E S M =>
 zI (abG (nY nm.hi nm.hv nm.hd nm.qo) eU hs) (h H Z σ ts vs _ S fun v H' Z' z s S' => by
   obtain ⟨dx, ws, hv, hx, hlen, S2⟩ := S'.setField (f := f) h1
   exact ⟨.ref a, hv, a, CL c, dx, ws, rfl, hx, hc, n, by rw [hlen]; exact hl, M.nx _ σ _ Z' z S2 k⟩)
end
noncomputable def spI (K : PySem.W.Frag) (CL : Str -> Addr) {A : Type} (c : Str) (n : Nat) (arg : A -> List D) (Pre : A -> Prop) (res : A -> List (Str × T)) : Sp := fun vs H Q _ =>
 ∃ (W H0 : Hp) (a : A) (x dx : Addr) (us : List V), vs = .ref x :: us /\ H0 x = none /\ H0 dx = none /\ dx ≠ x /\ H = upd (upd H0 dx (.own x)) x (.ins (CL c) dx []) ∧
   aM W H0 /\ (∀ c o, H0 c = some o -> qc o = true -> W c = some o) /\ aL K CL W (arg a) us /\ (arg a).length + 1 = n /\ Pre a /\ qL CL W ∧
   ∀ H' W' fp, aM H0 H' -> aM W W' -> aM W' H' -> (∀ c o, W' c = some o -> W c = none -> H0 c = none) -> (∀ c o, H' c = some o -> qc o = true -> W' c = some o) →
     dN K CL H' W' (.ins c (res a)) (.ref x) fp -> fp.Nodup -> (∀ c ∈ fp, W' c = none /\ H0 c = none) -> Q .non H'
section
variable {X : Cx} {CL : Str -> Addr} {b : Bx} {δ δ1 δ2 : List (Option T)} {e o : Expr} {es : List Expr} {pos pp apos : Pos}
variable {A : Type} {k n : Nat} {f : Addr} {fd : FuncData} {ps : List Str} {arg : A -> List D} {Pre : A -> Prop} {x c m : Str}
theorem YL {res : A -> List (Str × T)} (a : A) (M : Mk X.K (CL c) f) (F : cJ X.prog X.w X.K X.mg X.base lF k f fd ps (spI X.K CL c n arg Pre res)) (hr : jk (k + 1) X.A) (hm : X.mg x = some (.ref (CL c))) (hb : Binds X.K fd ps [])
   (h : Vw X CL b (e :: es) δ (arg a) δ1) (hn : (arg a).length + 1 = n) (hp : Pre a) (hc : T.bY (res a) = true) (hg : Gl X x)
   (CZ : (x == ("__debug__" : Str)) = false := by decide) (he : starEach (e :: es) X.env = (false, eval e X.env) :: starEach es X.env := by exact cz rfl) (hpl : (backTo pos (starEach es X.env)).any (·.1) = false := by rfl) :
   cY X CL b (.Call (.Name x pp) (e :: es) [] pos) δ (.ins c (res a)) δ1 := fun H Z σ ts vs Q S kk =>
 dw (PZ M F hr hg hm hb .nil P5 XU CZ he hpl) (h H Z σ ts vs _ S fun us H1 Z1 z1 k1 S1 r x dx hx hdx ne => by
   rw [amH]
   refine ⟨H1, H1, a, x, dx, us, rfl, hx, hdx, ne, rfl, .refl _, fun _ _ q _ => q, r, hn, hp, S1.Vt, fun H' W' fp hh ww wh nw tp rt nd own => ⟨rfl, ?_⟩⟩
   obtain ⟨Z', z', S'⟩ := S1.back hh S1.zh ww wh nw tp rt nd own (.inr (by rw [T.clean]; exact hc))
   exact kk _ H' Z' (z1.trans z') (k1.trans hh) S')
end
theorem Ql {P : Program} {w : World} {K : PySem.W.Frag} {mg : Str -> Option Value} {base : Heap} {CL : Str -> Addr} {x qual c : Str} {st : Stmt} {f : Addr} {fd : FuncData} {N ps : List Str} {k : Nat} {A : Type} {arg : A -> List D} {Pre : A -> Prop} {res : A -> List (Str × T)} (F : nS K x qual st f fd) (S : aT N ps (aA st))
   (hb : ∀ (gu : Value) (Ar : Around) (outer : List Env) (s : Shared) (H : Hp) (E : XK) (b : Bx) (a : A) (y : Addr), jk k (Ar.deeper (envOfC qual (aA st) s.heap.objs.size f gu)) -> Pre a →
     gw (EW lF P w K mg base N qual (aA st) f gu Ar outer s H E).nox CL b (iZ st) (some (.pin y (.ins c [])) :: ((arg a).map (fun d => some (T.sh d)) ++ List.replicate (N.length - ((arg a).length + 1)) none))
       { nx := fun δ => δ[0]? = some (some (.pin y (.ins c (res a)))), rt := fun _ _ => False }) :
   cJ P w K mg base lF (k + 1) f fd ps (spI K CL c ps.length arg Pre res) := by
 refine F.ok S (fun vs H Q E h => ?_) (fun gu Ar outer s H vs Q E hr h => ?_)
 . obtain ⟨W, H0, a, y, dx, us, rfl, _, _, _, _, _, _, r, hl, _⟩ := h
   rw [amT, ← r.length]; exact hl
 . obtain ⟨W, H0, a, y, dx, us, rfl, hy, hdx, ne, rfl, wh, tp, r, hl, hp, tb, kk⟩ := h
   have old : ∀ {d : Addr} {o : HO}, H0 d = some o -> upd (upd H0 dx (.own y)) y (.ins (CL c) dx []) d = some o := fun {d o} q => by
     rw [aK (bX q hy), aK (bX q hdx)]; exact q
   refine ⟨_, XW, hb gu Ar outer s _ E ⟨H0, W⟩ a y hr hp _ W _ [] [] _ ⟨⟨[y] ++ [], [], ?_, .nil, by simp, fun d hd => ?_⟩, fun d o q => old q, .refl _, fun d o q => old (wh d o q), fun d o q z => ?_, fun d o q i => ?_, tb⟩ ⟨fun δ' σ' H' Z' s' S' e => ?_, fun t v H' Z' δ' σ' s' S' e => e.elim, fun _ _ _ _ _ _ e => e.elim, fun _ _ _ _ _ _ e => e.elim⟩⟩
   . unfold L2.start
     rw [amh, amT, ami, ← r.length]
     exact .cons (.pin (.ins bu .nil)) (n8 _ r)
   . have : d = y := by simpa using hd
     subst this
     exact ⟨abW wh hy, hy⟩
   . have q' : W d = some o := q
     have z' : W d = none := z
     rw [q'] at z'; cases z'
   . by_cases h1 : d = y
     . subst h1; rw [bu] at q; cases q; cases i
     . rw [aK h1] at q
       by_cases h2 : d = dx
       . subst h2; rw [bu] at q; cases q; cases i
       . rw [aK h2] at q; exact tp d o q i
   . obtain ⟨fp, gp, eE, _, nd, own⟩ := S'.rep
     obtain ⟨v, f1, f2, f3, hv, sG, rt, _, _⟩ := eE.get e
     subst sG
     cases rt with
     | pin rt =>
       refine kk H' Z' f2 S'.bh S'.zz S'.zh S'.new S'.tp rt ?_ fun d hd => own d (by simp [hd])
       have h1 := (amK.mp nd).1
       exact (amK.mp (amK.mp h1).2.1).1
section
variable {X : Cx} {CL : Str -> Addr} {b : Bx} {δ δ1 δ2 : List (Option T)} {e e1 e2 : Expr} {es : List Expr} {t : T} {d : D} {ds Qm : List D} {x : Str} {pos pp : Pos} {DD : dg} {i : Nat} {eW body : List Stmt}
theorem Qn (g : Gx X) (P : Nat -> List (Option T) -> Prop) (m : Nat) (h0 : P m δ)
   (hs : ∀ m δ, P m δ -> ∃ p δ1, qM X CL b e δ p δ1 ∧
     (p = true -> gw X CL b body δ1 { nx := fun δ2 => ∃ m', m' < m /\ P m' δ2, rt := DD.rt, bk := fun δ2 => gw X CL b eW δ2 DD, ct := fun δ2 => ∃ m', m' < m /\ P m' δ2 }) /\ (p = false -> gw X CL b eW δ1 DD)) :
   gw X CL b (.While e body [] pos :: eW) δ DD := dD fun H Z σ ts vs E S M =>
 zI (UW g.xe ptS XW) (by
   refine ⟨fun m σ H => ∃ Z2 δ2, aM Z Z2 /\ cy X.K CL b H Z2 δ2 σ ts vs /\ P m δ2, ⟨m, Z, δ, .refl _, S, h0⟩, ?_⟩
   rintro m σ H ⟨Z2, δ2, z2, S2, p2⟩
   obtain ⟨p, δ3, ht, h1, h2⟩ := hs m δ2 p2
   refine ht H Z2 σ ts vs _ S2 fun H3 Z3 z3 k3 S3 => ?_
   cases p with
   | true =>
     rw [alW rfl]
     refine ⟨fun σ' H' => ∃ m', m' < m /\ ∃ Z2 δ2, aM Z Z2 /\ cy X.K CL b H' Z2 δ2 σ' ts vs /\ P m' δ2, fun σ' H' q => q, ?_⟩
     refine h1 rfl H3 Z3 σ ts vs _ S3 ⟨fun δ' σ' H' Z' s' S' ⟨m', l, q⟩ => ⟨m', l, Z', δ', z2.trans (z3.trans s'), S', q⟩, fun t v H' Z' δ' σ' s' S' q => M.rt t v H' Z' δ' σ' (z2.trans (z3.trans s')) S' q,
       fun δ' σ' H' Z' s' S' q => M.nx δ' σ' H' Z' (z2.trans (z3.trans s')) S' q, fun δ' σ' H' Z' s' S' ⟨m', l, q⟩ => ⟨m', l, Z', δ', z2.trans (z3.trans s'), S', q⟩⟩
   | false =>
     rw [alT (by decide)]
     exact M.nx δ3 σ H3 Z3 (z2.trans z3) S3 (h2 rfl))
noncomputable def afd (K : PySem.W.Frag) : R2 := fun x y H Q => ∃ l b xs zs, x = .ref l /\ y = .ref b /\ rV K H l xs /\ rV K H b zs /\ xs.length + zs.length <= sizeLine /\ ∀ p, H p = none -> Q (.ref p) (upd H p (.lst (xs ++ zs)))
theorem YM : sC X (binaryOp .Add) (afd X.K) := by
 intro pins s σ H x y v u Q I rx ry h
 obtain ⟨l, b, xs, zs, rfl, rfl, hH, hB, hz, q⟩ := h
 cases rx
 cases ry
 obtain ⟨its, r, pl, _⟩ := I.list hH
 obtain ⟨Je, r2, pl2, _⟩ := I.list hB
 have e1 := r.length
 have e2 := r2.length
 obtain ⟨⟨c1, dd, da1, sl⟩, ho, hc, n, hd⟩ := pl.isList
 obtain ⟨⟨c2, dd2, da2, sl2⟩, ho2, hc2, n2, hd2⟩ := pl2.isList
 cases hc; cases hc2; cases hd; cases hd2
 refine concat_meets ⟨_, ho, rfl⟩ ⟨_, ho2, rfl⟩ noFill_list_add seq_list_add PySem.F.slot_list_add PySem.F.entry_list_add (PySem.F.args_list_add_2 (Value.ref l) (Value.ref b))
   (list_addW l b its.toArray Je.toArray n n2 dd dd2 sl sl2 (by rw [amg, amg]; omega)) ⟨ho, ho2, ?_⟩
 have ea : its.toArray ++ Je.toArray = (its ++ Je).toArray := by simp
 rw [ea]
 exact ⟨.ref _, _, I.aeP (t' := s.toks) (r.append r2) (by rw [amM]; omega), rfl, q _ I.fresh⟩
theorem aL.app {K : PySem.W.Frag} {Z : Hp} {ds Qm : List L3.D} {vs vs2 : List V} (h : aL K CL Z ds vs) (r2 : aL K CL Z Qm vs2) : aL K CL Z (ds ++ Qm) (vs ++ vs2) :=
 aL.ind (P := fun ds vs => aL K CL Z (ds ++ Qm) (vs ++ vs2)) r2 (fun r _ i => .cons r i) h
theorem xU (h1 : dz X CL b e1 δ (.lst ds) δ1) (h2 : dz X CL b e2 δ1 (.lst Qm) δ2) (i1 : D.cM ds = true) (i2 : D.cM Qm = true) (hz : ds.length + Qm.length <= sizeLine) :
   cY X CL b (.BinOp e1 .Add e2 pos) δ (.lst ((ds ++ Qm).map T.sh)) δ2 := fun H Z σ ts vs Q S k =>
 dw (aaq YM eU eU) (h1 H Z σ ts vs _ S fun v1 H1 Z1 z1 k1 S1 r1 => h2 H1 Z1 σ ts vs _ S1 fun v2 H2 Z2 z2 k2 S2 r2 => by
   have r1' := r1.mono k2
   cases r1' with
   | lst hq1 rr1 =>
     cases r2 with
     | lst hq2 rr2 =>
       refine ⟨_, _, _, _, rfl, rfl, hq1, hq2, by rw [← rr1.length, ← rr2.length]; exact hz, fun p hp => ?_⟩
       have rc := aL.app (aL.rW S2.tp i1 rr1) (aL.rW S2.tp i2 rr2)
       obtain ⟨c, S4⟩ := (cy.C3 rc S2).zJ (g0 := []) (by simp [rc.length, rr1.length, rr2.length]) hp
       exact k _ _ _ (z1.trans z2) (k1.trans (k2.trans c)) S4)
theorem boot_max : bootBuiltins "max" = some (.builtin "max") := by decide +kernel
theorem boot_str : bootBuiltins "str" = some (.type "str") := by decide +kernel
theorem YN {i j : Int} (g : Gx X) (hm : X.mg "max" = none) (hg : Gl X "max") (h : Vw X CL b [e1, e2] δ [.int i, .int j] δ1) (hs : starEach [e1, e2] X.env = (false, eval e1 X.env) :: starEach [e2] X.env := by exact cz rfl) (hpl : (backTo pos (starEach [e2] X.env)).any (·.1) = false := by rfl) :
   cY X CL b (.Call (.Name "max" pp) [e1, e2] [] pos) δ (.sh (.int (if j > i then j else i))) δ1 := fun H Z σ ts vs Q S k =>
 dw (n6 (RB g.calm) hg hm boot_max XU (he := hs) (hpl := hpl)) (h H Z σ ts vs _ S fun us H1 Z1 z1 k1 S1 r => by
   cases r with
   | cons r1 r =>
     cases r with
     | cons r2 r =>
       cases r
       rw [r1.sc rfl, r2.sc rfl]
       exact ⟨i, j, rfl, k _ H1 Z1 z1 k1 (S1.push (.int _))⟩)
theorem Qo {i : Int} (hm : X.mg "str" = none) (hg : Gl X "str") (h : dz X CL b e δ (.int i) δ1) (hi : i.natAbs.log2 < 1920) (hs : starEach [e] X.env = (false, eval e X.env) :: starEach [] X.env := by exact cz rfl) :
   cY X CL b (.Call (.Name "str" pp) [e] [] pos) δ (.sh (.str (toString i))) δ1 := fun H Z σ ts vs Q S k =>
 dw (qq F2 hg hm boot_str (c9 eU gf hs) (he := hs)) (h H Z σ ts vs _ S fun v H1 Z1 z1 k1 S1 r => by
   rw [r.sc rfl]
   exact ⟨i, rfl, hi, k _ H1 Z1 z1 k1 (S1.push (.str _))⟩)
end
structure Fm (X : Cx) (CL : Str -> Addr) (x : Str) (k n : Nat) {A : Type} (arg : A -> List D) (Pre : A -> Prop) (res : A -> List (Str × T)) : Prop where
 ex : ∃ f fd ps, Mk X.K (CL x) f /\ cJ X.prog X.w X.K X.mg X.base lF k f fd ps (spI X.K CL x n arg Pre res) /\ X.mg x = some (.ref (CL x)) /\ Binds X.K fd ps []
 room : jk (k + 1) X.A
noncomputable def VN (N : List Str) (y : Addr) (c : Str) (ds : List D) : List (Option T) := some (.pin y (.ins c [])) :: (ds.map (fun d => some (T.sh d)) ++ List.replicate (N.length - (ds.length + 1)) none)
theorem ach {K : PySem.W.Frag} {CL CL' : Str -> Addr} {arg : List Int -> List D} {pre : List Int -> Prop} {res : List Int -> T} (ha : ∀ a, arg a = [.lst (a.map .int)]) (hr : ∀ a, res a = .sh (.bl true)) (h0 : ∀ x, P7 x = true -> CL x = 0) :
   ∀ (vs : List V) (H : Hp) (Q : VK) (E : XK), nT K CL' 1 arg pre res vs H Q E -> nT K CL 1 arg pre res vs H Q E := by
 rintro vs H Q E ⟨W, a, h1, h2, h3, h4, h5, _, k⟩
 have aci : ∀ {l : List Int} {us : List V}, aL K CL' W (l.map .int) us -> aL K CL W (l.map .int) us := by
   intro l
   induction l with
   | nil => intro us r; cases r; exact .nil
   | cons i l ih =>
     intro us r
     cases r with
     | cons r t => cases r; exact .cons (.int i) (ih t)
 refine ⟨W, a, h1, h2, ?_, h4, h5, fun x hx e => absurd (h0 x hx) e, fun v H' W' fp a1 a2 a3 a4 a5 r nd own => k v H' W' fp a1 a2 a3 a4 a5 ?_ nd own⟩
 . rw [ha] at h3 ⊢
   cases h3 with
   | cons r t =>
     cases t
     cases r with
     | lst q rr => exact .cons (.lst q (aci rr)) .nil
 . rw [hr] at r ⊢
   cases r with
   | sh r => cases r; exact .sh (.bl _)
section
variable {X : Cx} {CL : Str -> Addr} {b : Bx} {δ δ1 δ2 : List (Option T)} {e e1 e2 o : Expr} {es : List Expr} {d : L3.D} {t : T} {i : Nat} {x c m : Str} {pos pp apos : Pos} {D : dg} {eW : List Stmt} {ds : List L3.D}
theorem mk_ {k n : Nat} {A : Type} {arg : A -> List L3.D} {Pre : A -> Prop} {res : A -> List (Str × T)} (a : A) (F : Fm X CL x k n arg Pre res) (hg : Gl X x) (h : Vw X CL b (e :: es) δ (arg a) δ1) (hp : Pre a) (hc : T.bY (res a) = true) (hn : (arg a).length + 1 = n := by rfl)
   (CZ : (x == ("__debug__" : Str)) = false := by decide) (he : starEach (e :: es) X.env = (false, eval e X.env) :: starEach es X.env := by exact cz rfl) (hpl : (backTo pos (starEach es X.env)).any (·.1) = false := by rfl) :
   cY X CL b (.Call (.Name x pp) (e :: es) [] pos) δ (.ins x (res a)) δ1 := by
 obtain ⟨f, fd, ps, M, F1, m, b⟩ := F.ex
 exact YL a M F1 F.room m b h hn hp hc hg CZ he hpl
end
theorem nj {α : Type} {f : Str} {d : α} {fs : List (Str × α)} : ((f, d) :: fs).lookup f = some d := by
 rw [amG, beq_self_eq_true]
theorem e7 {α : Type} {f g : Str} {d : α} {fs : List (Str × α)} (h : (f == g) = false) : ((g, d) :: fs).lookup f = fs.lookup f := by
 rw [amG, h]
theorem kh {f : Str} {t : T} : E2 f t [] = [(f, t)] := rfl
theorem cK {f g : Str} {t u : T} {fs : List (Str × T)} (h : ¬ g = f) : E2 f t ((g, u) :: fs) = (g, u) :: E2 f t fs := by
 rw [E2, alT h]
section
variable {X : Cx} {CL : Str -> Addr} {b : Bx} {δ δ1 δ2 : List (Option T)} {e1 e2 : Expr} {x : Str} {pos : Pos} {d : L3.D}
theorem Gh (x : Int) : ∀ l : List Int, inV (.int x) (l.map V.int) = decide (x ∈ l)
 | [] => by simp [inV]
 | y :: l => by
   have ih := Gh x l
   unfold inV at ih ⊢
   rw [amh, am3, ih]
   by_cases h : y = x
   . subst h; simp [Ve]
   . have h' : ¬ x = y := fun e => h e.symm
     simp [Ve, h, h']
theorem aL.ints {K : PySem.W.Frag} {Z : Hp} : ∀ {l : List Int} {vs : List V}, aL K CL Z (l.map D.int) vs -> vs = l.map V.int
 | [], _, r => by
   have r' : aL K CL Z [] _ := r
   cases r'; rfl
 | y :: l, _, r => by
   have r' : aL K CL Z (D.int y :: l.map D.int) _ := r
   cases r' with
   | cons r1 r2 => rw [r1.sc rfl, aL.ints r2]; rfl
theorem qP : ∀ l : List Int, (l.map V.int).all vm = true
 | [] => rfl
 | y :: l => by rw [amh, amX, qP l]; rfl
noncomputable def C9 (d : L3.D) : Option (List L3.D) := match d with
 | .lst ds => some ds
 | .tup ds => some ds
 | _ => none
theorem bS.C9 {K : PySem.W.Frag} {Z : Hp} {v : V} {ds : List L3.D} (r : bS K CL Z d v) (h : L3.C9 d = some ds) : ∃ p us, v = .ref p /\ (rV K Z p us \/ Bw K Z p us) /\ aL K CL Z ds us := by
 cases r with
 | tup hq rr => cases h; exact ⟨_, _, rfl, .inr hq, rr⟩
 | lst hq rr => cases h; exact ⟨_, _, rfl, .inl hq, rr⟩
 | non => cases h
 | bl => cases h
 | int => cases h
 | str => cases h
 | any => cases h
 | val => cases h
 | ve => cases h
 | dct => cases h
 | ins => cases h
theorem YQ {l : List Int} {i : Int} (h1 : dz X CL b e1 δ (.int i) δ1) (h2 : dz X CL b e2 δ1 d δ2) (hd : L3.C9 d = some (l.map .int)) (hm : behindInMarks .NotIn e2 = false) :
   qM X CL b (.Compare e1 [.NotIn] [e2] pos) δ (!decide (i ∈ l)) δ2 /\ cY X CL b (.Compare e1 [.NotIn] [e2] pos) δ (.sh (.bl (!decide (i ∈ l)))) δ2 := by
 constructor
 . intro H Z σ ts vs Q S k
   refine EZ (uC nh eU eU hm) (h1 H Z σ ts vs _ S fun v1 H1 Z1 z1 k1 S1 r1 => h2 H1 Z1 σ ts vs _ S1 fun v2 H2 Z2 z2 k2 S2 r2 => ?_)
   obtain ⟨p, us, rfl, hq, rr⟩ := bS.C9 r2 hd
   have e := rr.ints
   subst e
   refine ⟨_, _, rfl, hq, by rw [r1.sc rfl]; rfl, qP l, _, rfl, ?_⟩
   rw [alW rfl, r1.sc rfl, Gh]
   exact k H2 Z2 (z1.trans z2) (k1.trans k2) S2
 . intro H Z σ ts vs Q S k
   refine dw (uB nh eU eU hm) (h1 H Z σ ts vs _ S fun v1 H1 Z1 z1 k1 S1 r1 => h2 H1 Z1 σ ts vs _ S1 fun v2 H2 Z2 z2 k2 S2 r2 => ?_)
   obtain ⟨p, us, rfl, hq, rr⟩ := bS.C9 r2 hd
   have e := rr.ints
   subst e
   refine ⟨_, _, rfl, hq, by rw [r1.sc rfl]; rfl, qP l, ?_⟩
   rw [alW rfl, r1.sc rfl, Gh]
   exact k _ H2 Z2 (z1.trans z2) (k1.trans k2) (S2.push (.bl _))
theorem Gi {l : List Str} (h1 : dz X CL b e1 δ (.str x) δ1) (h2 : dz X CL b e2 δ1 d δ2) (hd : L3.C9 d = some (l.map .str)) (hm : behindInMarks .In e2 = false) :
   qM X CL b (.Compare e1 [.In] [e2] pos) δ (decide (x ∈ l)) δ2 /\ cY X CL b (.Compare e1 [.In] [e2] pos) δ (.sh (.bl (decide (x ∈ l)))) δ2 := by
 constructor
 . intro H Z σ ts vs Q S k
   refine EZ (uC uD eU eU hm) (h1 H Z σ ts vs _ S fun v1 H1 Z1 z1 k1 S1 r1 => h2 H1 Z1 σ ts vs _ S1 fun v2 H2 Z2 z2 k2 S2 r2 => ?_)
   obtain ⟨p, us, rfl, hq, rr⟩ := bS.C9 r2 hd
   have e := rr.strs
   subst e
   refine ⟨_, _, rfl, hq, by rw [r1.sc rfl]; rfl, gG l, _, rfl, ?_⟩
   rw [alT amc, r1.sc rfl, qO]
   exact k H2 Z2 (z1.trans z2) (k1.trans k2) S2
 . intro H Z σ ts vs Q S k
   refine dw (uB uD eU eU hm) (h1 H Z σ ts vs _ S fun v1 H1 Z1 z1 k1 S1 r1 => h2 H1 Z1 σ ts vs _ S1 fun v2 H2 Z2 z2 k2 S2 r2 => ?_)
   obtain ⟨p, us, rfl, hq, rr⟩ := bS.C9 r2 hd
   have e := rr.strs
   subst e
   refine ⟨_, _, rfl, hq, by rw [r1.sc rfl]; rfl, gG l, ?_⟩
   rw [alT amc, r1.sc rfl, qO]
   exact k _ H2 Z2 (z1.trans z2) (k1.trans k2) (S2.push (.bl _))
theorem oZ {l : List Str} (h1 : dz X CL b e1 δ (.str x) δ1) (h2 : dz X CL b e2 δ1 d δ2) (hd : L3.C9 d = some (l.map .str)) (hm : behindInMarks .NotIn e2 = false) :
   qM X CL b (.Compare e1 [.NotIn] [e2] pos) δ (!decide (x ∈ l)) δ2 /\ cY X CL b (.Compare e1 [.NotIn] [e2] pos) δ (.sh (.bl (!decide (x ∈ l)))) δ2 := by
 constructor
 . intro H Z σ ts vs Q S k
   refine EZ (uC nh eU eU hm) (h1 H Z σ ts vs _ S fun v1 H1 Z1 z1 k1 S1 r1 => h2 H1 Z1 σ ts vs _ S1 fun v2 H2 Z2 z2 k2 S2 r2 => ?_)
   obtain ⟨p, us, rfl, hq, rr⟩ := bS.C9 r2 hd
   have e := rr.strs
   subst e
   refine ⟨_, _, rfl, hq, by rw [r1.sc rfl]; rfl, gG l, _, rfl, ?_⟩
   rw [alW rfl, r1.sc rfl, qO]
   exact k H2 Z2 (z1.trans z2) (k1.trans k2) S2
 . intro H Z σ ts vs Q S k
   refine dw (uB nh eU eU hm) (h1 H Z σ ts vs _ S fun v1 H1 Z1 z1 k1 S1 r1 => h2 H1 Z1 σ ts vs _ S1 fun v2 H2 Z2 z2 k2 S2 r2 => ?_)
   obtain ⟨p, us, rfl, hq, rr⟩ := bS.C9 r2 hd
   have e := rr.strs
   subst e
   refine ⟨_, _, rfl, hq, by rw [r1.sc rfl]; rfl, gG l, ?_⟩
   rw [alW rfl, r1.sc rfl, qO]
   exact k _ H2 Z2 (z1.trans z2) (k1.trans k2) (S2.push (.bl _))
end
section
variable {X : Cx} {CL : Str -> Addr} {b : Bx} {δ δ1 δ2 : List (Option T)} {e : Expr} {es : List Expr} {d : L3.D} {ds : List L3.D} {t : T} {i : Nat} {x : Str} {pos pp : Pos} {DD : dg} {eW : List Stmt}
theorem n9 : P8 X CL b [] δ (([] : List L3.D).map T.sh) δ := dU
theorem aW (h1 : cY X CL b e δ (.sh d) δ1) (h2 : P8 X CL b es δ1 (ds.map T.sh) δ2) (hs : starEach (e :: es) X.env = (false, eval e X.env) :: starEach es X.env := by exact cz rfl) : P8 X CL b (e :: es) δ ((d :: ds).map T.sh) δ2 := bC h1 h2 hs
theorem b8 (h : P8 X CL b es δ (ds.map T.sh) δ1) (hl : ds.length <= sizeLine) : cY X CL b (.List es pos) δ (.lst (ds.map T.sh)) δ1 := e9 h (by simpa using hl)
theorem ki (l : List Str) : D.cM (l.map L3.D.str) = true := c5 (fun _ => rfl) _
theorem Gj (h : cY X CL b e δ (.lst (ds.map T.sh)) δ1) : cY X CL b e δ (.sh (.lst ds)) δ1 := by
 have := Vx h
 rwa [T.iY, qN] at this
theorem Jf {d2 : L3.D} (h : dz X CL b e δ d δ1) (q : d = d2) : dz X CL b e δ d2 δ1 := q ▸ h
theorem aF {t2 : T} (h : cY X CL b e δ t δ1) (q : t = t2) : cY X CL b e δ t2 δ1 := q ▸ h
end
structure Gk (Z H Z' H' : Hp) : Prop where
 z : aM Z Z'
 h : aM H H'
 zh : aM Z' H'
 new : ∀ a o, Z' a = some o -> Z a = none -> H a = none
 tp : ∀ a o, H' a = some o -> qc o = true -> Z' a = some o
theorem Gk.refl {Z H : Hp} (zh : aM Z H) (tp : ∀ a o, H a = some o -> qc o = true -> Z a = some o) : Gk Z H Z H := ⟨.refl _, .refl _, zh, fun a o q z => (by rw [q] at z; cases z), tp⟩
theorem Gk.tup {Z H : Hp} {p : Addr} {xs : List V} (zh : aM Z H) (tp : ∀ a o, H a = some o -> qc o = true -> Z a = some o) (hp : H p = none) : Gk Z H (upd Z p (.tup xs)) (upd H p (.tup xs)) := by
 have zp : Z p = none := zh.free hp
 refine ⟨aM.upd zp, aM.upd hp, fun a o q => ?_, fun a o q z => ?_, fun a o q i => ?_⟩
 . by_cases e : a = p
   . subst e; rw [bu] at q ⊢; exact q
   . rw [aK e] at q ⊢; exact zh a o q
 . by_cases e : a = p
   . subst e; exact hp
   . rw [aK e, z] at q; cases q
 . by_cases e : a = p
   . subst e; rw [bu] at q ⊢; exact q
   . rw [aK e] at q ⊢; exact tp a o q i
section
variable {K : PySem.W.Frag} {CL : Str -> Addr} {b : Bx} {H H' Z Z' : Hp} {δ : List (Option T)} {σ : L2.St} {ts : List T} {vs : List V}
theorem cy.grow (S : cy K CL b H Z δ σ ts vs) (g : Gk Z H Z' H') : cy K CL b H' Z' δ σ ts vs := by
 obtain ⟨fp, gp, e, r, nd, k⟩ := S.rep
 have old : ∀ a ∈ fp ++ gp, ∃ o, H a = some o := fun a ha => (al7.mp ha).elim (e.there a) (r.there a)
 have keep : ∀ a ∈ fp ++ gp, H' a = H a := fun a ha => by
   obtain ⟨o, q⟩ := old a ha
   rw [q]; exact g.h a o q
 refine ⟨⟨fp, gp, e.mono g.z (fun a ha => keep a (al4 _ ha)), r.mono g.z (fun a ha => keep a (alU _ ha)), nd, fun a ha => ⟨?_, (k a ha).2⟩⟩, S.bh.trans g.h, S.zz.trans g.z, g.zh, fun a o q z => ?_, g.tp, S.tab⟩
 . cases q : Z' a with
   | none => rfl
   | some o =>
     obtain ⟨u, hu⟩ := old a ha
     rw [g.new a o q (k a ha).1] at hu; cases hu
 . cases e2 : Z a with
   | none => exact S.bh.free (g.new a o q e2)
   | some u =>
     have := g.z a u e2
     rw [q] at this; cases this
     exact S.new a o e2 z
noncomputable def Qp (δ : List (Option T)) : List Nat -> List D -> List (Option T)
 | i :: is, d :: ds => Qp (δ.set i (some (.sh d))) is ds
 | _, _ => δ
noncomputable def Dc (σ : L2.St) : List Nat -> List V -> L2.St
 | i :: is, v :: vs => Dc (σ.set i (some v)) is vs
 | _, _ => σ
theorem cy.sets {ps : List D} {ys : List V} : ∀ {is : List Nat} {δ : List (Option T)} {σ : L2.St}, cy K CL b H Z δ σ ts vs -> aL K CL Z ps ys -> (∀ i ∈ is, i < δ.length) -> cy K CL b H Z (Qp δ is ps) (Dc σ is ys) ts vs := by
 intro is
 induction is generalizing ps ys with
 | nil =>
   intro δ σ S r _
   cases ps <;> cases ys <;> exact S
 | cons i is ih =>
   intro δ σ S r hl
   cases r with
   | nil => exact S
   | cons r rr => exact ih ((S.push r).set (hl i al0)) rr (fun j hj => by rw [List.length_set]; exact hl j (al3 _ hj))
end
section
variable {X : Cx} {CL : Str -> Addr} {b : Bx} {δ δ1 : List (Option T)} {ds : List D} {iter tg : Expr} {pos : Pos}
structure Gm (X : Cx) (CL : Str -> Addr) (b : Bx) (δ1 : List (Option T)) (σ : L2.St) (ts : List T) (vs : List V) (Z H : Hp) (ds : List D) (J : It) (H1 : Hp) : Prop where
 ex : ∃ Z1, aM Z Z1 /\ aM H H1 /\ cy X.K CL b H1 Z1 δ1 σ ts vs /\ (∀ i H2, aM Z1 H2 -> i < ds.length -> J.go i H2) ∧
   (∀ i Z2 H2 x H', aM Z1 Z2 -> aM Z2 H2 -> (∀ a o, H2 a = some o -> qc o = true -> Z2 a = some o) -> i < ds.length -> J.yld i H2 x H' -> ∃ Z3 d, ds[i]? = some d /\ Gk Z2 H2 Z3 H' /\ bS X.K CL Z3 d x) /\ (∀ H2, aM Z1 H2 -> J.stop ds.length H2)
noncomputable def GIt (X : Cx) (CL : Str -> Addr) (b : Bx) (tg e : Expr) (δ : List (Option T)) (ds : List D) (δ1 : List (Option T)) : Prop :=
 ∃ wi, PI X tg e wi /\ ∀ (H Z : Hp) (σ : L2.St) (ts : List T) (vs : List V) (R : It -> Hp -> Prop), cy X.K CL b H Z δ σ ts vs -> (∀ J H1, Gm X CL b δ1 σ ts vs Z H ds J H1 -> R J H1) -> wi σ H R
theorem aaF (h : XZ X CL b tg iter δ ds δ1) : GIt X CL b tg iter δ ds δ1 := by
 obtain ⟨wi, pi, hw⟩ := h
 refine ⟨wi, pi, fun H Z σ ts vs R S k => hw H Z σ ts vs R S fun J H1 zz => ?_⟩
 obtain ⟨Z1, us, z1, k1, S1, rr, go, yl, st⟩ := zz
 refine k J H1 ⟨Z1, z1, k1, S1, go, fun i Z2 H2 x H' s1 s2 tp hi hy => ?_, st⟩
 obtain ⟨e, hu⟩ := yl i H2 x H' (s1.trans s2) hi hy
 subst e
 obtain ⟨d, hd, rd⟩ := rr.Yw hu
 exact ⟨Z2, d, hd, .refl s2 tp, rd.mono s1⟩
noncomputable def Tgt (X : Cx) (CL : Str -> Addr) (tg : Expr) (is : List Nat) (parts : D -> Option (List D)) : Prop :=
 ∃ t : TG, PG X tg t /\ ∀ (Z H : Hp) (d : D) (ps : List D) (x : V) (σ : L2.St) (Q : L2.St -> Hp -> Prop), aM Z H -> bS X.K CL Z d x -> parts d = some ps -> (∀ ys, aL X.K CL Z ps ys -> Q (Dc σ is ys) H) -> t x σ H Q
noncomputable def part1 (d : D) : Option (List D) := some [d]
noncomputable def part2 : D -> Option (List D)
 | .tup [a, c] => some [a, c]
 | _ => none
theorem RZ {d : D} {ps : List D} (h : part2 d = some ps) : ∃ d1 d2, d = .tup [d1, d2] /\ ps = [d1, d2] := by
 unfold part2 at h
 split at h
 . cases h; exact ⟨_, _, rfl, rfl⟩
 . cases h
theorem Mr {K : PySem.W.Frag} {i j : Nat} {Z H : Hp} {d : D} {ps : List D} {x : V} {σ : L2.St} {Q : L2.St -> Hp -> Prop} (zh : aM Z H) (r : bS K CL Z d x) (e : part2 d = some ps) (k : ∀ ys, aL K CL Z ps ys -> Q (Dc σ [i, j] ys) H) : abr K 2 (IA (A6 i) (IA (A6 j) abq)) x σ H Q := by
 obtain ⟨d1, d2, rfl, rfl⟩ := RZ e
 cases r with
 | tup hq rr =>
   cases rr with
   | cons r1 rr =>
     cases rr with
     | cons r2 rr =>
       cases rr
       exact ⟨_, _, rfl, aM.sqT zh hq, rfl, _, _, rfl, _, _, rfl, rfl, k _ (.cons r1 (.cons r2 .nil))⟩
theorem VP {i : Nat} {x : Str} {px : Pos} (hN : X.N.Nodup) (n : Ln X i x) : Tgt X CL (.Name x px) [i] part1 :=
 ⟨A6 i, xM hN n.hi n.loc n.hf, fun Z H d ps x σ Q zh r e k => by
   cases e
   exact k [x] (.cons r .nil)⟩
theorem Qq {i j k : Nat} {x y : Str} {px py pt : Pos} (hN : X.N.Nodup) (hc : X.calm = true) (n : Ln X i x) (m : Ln X j y) (hs : (assignEach [.Name x px, .Name y py] X.env).map (·.2) = assign (.Name x px) X.env :: (assignEach [.Name y py] X.env).map (·.2) := by rfl) (LW : (assignEach [.Name y py] X.env).map (·.2) = assign (.Name y py) X.env :: (assignEach [] X.env).map (·.2) := by rfl)
   (hn : (assignEach [.Name x px, .Name y py] X.env).length = 2 := by rfl) (qH : (assignEach [.Name x px, .Name y py] X.env).findIdx? (·.1) = none := by rfl) : Tgt X CL (.Tuple [.Name x px, .Name y py] k pt) [i, j] part2 :=
 ⟨abr X.K 2 (IA (A6 i) (IA (A6 j) abq)), abt hc (IB (xM hN n.hi n.loc n.hf) (IB (xM hN m.hi m.loc m.hf) Yd LW) hs) hn qH, fun Z H d ps x σ Q zh r e k => Mr zh r e k⟩
theorem YR {D : dg} {eW : List Stmt} (is : List Nat) (parts : L3.D -> Option (List L3.D)) (P : Nat -> List (Option T) -> Prop) (h : GIt X CL b tg iter δ ds δ1) (ht : Tgt X CL tg is parts) (h0 : P 0 δ1) (hl : ∀ j δ, P j δ -> ∀ i ∈ is, i < δ.length)
   (hs : ∀ j d δ, ds[j]? = some d -> P j δ -> ∃ ps, parts d = some ps /\ gw X CL b eW (Qp δ is ps) { nx := P (j + 1), rt := D.rt, bk := D.nx, ct := P (j + 1) }) (hd : ∀ δ, P ds.length δ -> D.nx δ)
   (hp : PassesOwn (model X.prog X.w) X.A X.env X.xe) (hc : X.calm = true) (hq : ∀ x, foldedSetIterable iter X.env x = pure x := by intro _; rfl) :
   XY X CL b (.For tg iter eW [] pos) δ D := fun H Z σ ts vs E S M => by
 obtain ⟨wi, pi, hw⟩ := h
 obtain ⟨t, pg, ht⟩ := ht
 refine zI (UX hp hc pi pg XW hq) (hw H Z σ ts vs _ S fun J H1 zz => ?_)
 obtain ⟨Z1, z1, k1, S1, go, yl, st⟩ := zz
 refine ⟨fun j m σ H2 => m = ds.length - j /\ j <= ds.length /\ ∃ Z2 δ2, aM Z1 Z2 /\ cy X.K CL b H2 Z2 δ2 σ ts vs /\ P j δ2, ⟨_, rfl, amu _, Z1, δ1, .refl _, S1, h0⟩, ?_⟩
 rintro j m σ H2 ⟨rfl, hj, Z2, δ2, s, S2, p2⟩
 by_cases EK : j < ds.length
 . refine .inr ⟨go j H2 (s.trans S2.zh) EK, fun σ' H' => ∃ Z2 δ2, aM Z1 Z2 /\ cy X.K CL b H' Z2 δ2 σ' ts vs /\ P (j + 1) δ2, fun σ' H' h => ⟨ds.length - (j + 1), by omega, rfl, EK, h⟩, fun y H' hy => ?_⟩
   obtain ⟨Z3, d, hd', gr, rd⟩ := yl j Z2 H2 y H' s S2.zh S2.tp EK hy
   obtain ⟨ps, hps, hb⟩ := hs j d δ2 hd' p2
   have S3 := S2.grow gr
   refine ht Z3 H' d ps y σ _ S3.zh rd hps fun ys rys => ?_
   have S4 := S3.sets (is := is) rys (hl j δ2 p2)
   have s3 := s.trans gr.z
   exact hb _ Z3 _ ts vs _ S4 ⟨fun δ' σ' H' Z' s' S' k => ⟨Z', δ', s3.trans s', S', k⟩, fun t v H' Z' δ' σ' s' S' k => M.rt t v H' Z' δ' σ' (z1.trans (s3.trans s')) S' k, fun δ' σ' H' Z' s' S' k => M.nx δ' σ' H' Z' (z1.trans (s3.trans s')) S' k, fun δ' σ' H' Z' s' S' k => ⟨Z', δ', s3.trans s', S', k⟩⟩
 . have e : j = ds.length := by omega
   subst e
   exact .inl ⟨st H2 (s.trans S2.zh), M.nx δ2 σ H2 Z2 (z1.trans s) S2 (hd δ2 p2)⟩
theorem VQ {D : dg} {body eW : List Stmt} {is : List Nat} {parts : L3.D -> Option (List L3.D)} (g : Gx X) (ht : Tgt X CL tg is parts) (P : Nat -> List (Option T) -> Prop) (h : GIt X CL b tg iter δ ds δ1) (h0 : P 0 δ1) (hl : ∀ j δ, P j δ -> ∀ i ∈ is, i < δ.length)
   (hs : ∀ j d δ, ds[j]? = some d -> P j δ -> ∃ ps, parts d = some ps /\ gw X CL b body (Qp δ is ps) { nx := P (j + 1), rt := D.rt, bk := fun δ2 => gw X CL b eW δ2 D, ct := P (j + 1) }) (hd : ∀ δ, P ds.length δ -> gw X CL b eW δ D) (hq : ∀ x, foldedSetIterable iter X.env x = pure x := by intro _; rfl) :
   gw X CL b (.For tg iter body [] pos :: eW) δ D :=
 dD (YR (D := { D with nx := fun δ1 => gw X CL b eW δ1 D }) is parts P h ht h0 hl hs hd g.xe g.calm hq)
end
structure sI (X : Cx) (scope : Scope) (xs : List Str) (Nc : List Str) (ix : List Nat) : Prop where
 kind : scope.kind = .function
 Ge : ∀ y ∈ scope.names, y.2 ≠ .cell
 nd : Nc.Nodup
 names : ∀ y ∈ scope.names, y.2 = .local -> scope.names.lookup y.1 = some .local
 own : ∀ x ∈ xs, scope.names.lookup x = some .local
 frees : ∀ y ∈ scope.names, y.2 = .free -> scope.names.lookup y.1 = some .free /\ (X.env.kindOf y.1 = some .cell \/ X.env.kindOf y.1 = some .free)
 hd : Nc = xs ++ ix.filterMap (X.N[·]?)
 ixs : ∀ i ∈ ix, ∃ y, X.N[i]? = some y /\ scope.names.lookup y = some .free
noncomputable def R0 (σ : L2.St) (ix : List Nat) (os : List (Option V)) : L2.St := os ++ ix.map fun i => (σ[i]?).getD none
section
variable {X : Cx} {scope : Scope} {xs : List Str} {Nc : List Str} {ix : List Nat} {pins : List (Addr × Obj)} {σ : L2.St} {H : Hp} {s : Shared}
theorem Jg {fp : List Addr} (sc : sI X scope xs Nc ix) (I : Inv X pins σ H s) (sG : ∀ b ∈ fp, By X pins H b /\ b < s.heap.objs.size) {h' : Heap} {m : Str -> Option Value} {tk : Nat}
   (hn : h'.Ns s.heap.objs.size m) (hk : ∀ b o, s.heap.get? b = some o -> h'.get? b = some o) :
   Inv (fc X scope Nc s.heap.objs.size s H fp) [] (R0 σ ix (List.replicate xs.length none)) H { s with heap := h', toks := tk } := by
 have frees : ∀ y ∈ scope.names, y.2 = .free -> ∃ c, X.env.cells.lookup y.1 = some c := fun y hy e => I.ok.has y.1 (sc.frees y hy e).2
 have sub : ∀ {y : Str} {c : Addr}, (j8 X.env scope.names []).lookup y = some c -> X.env.cells.lookup y = some c := fun {y c} e => vJ frees (fun _ _ z => by cases z) e
 have hlen : (R0 σ ix (List.replicate xs.length none)).length = Nc.length := by
   have all : ∀ l : List Nat, (∀ i ∈ l, ∃ y, X.N[i]? = some y /\ scope.names.lookup y = some .free) -> (l.filterMap (X.N[·]?)).length = l.length := by
     intro l
     induction l with
     | nil => intro _; rfl
     | cons i r ih =>
       intro h
       obtain ⟨y, e, _⟩ := h i al0
       rw [am1, e]
       show _ + 1 = _ + 1
       rw [ih fun j hj => h j (al3 _ hj)]
   unfold R0
   rw [sc.hd, amM, amM, alR, am6, all ix sc.ixs]
 have C0 : s.heap.get? s.heap.objs.size = none := Heap.get?_none_of_le (al9 _)
 refine ⟨⟨I.ok.mod, sc.kind, I.ok.glob, I.ok.blt, al9 _, fun y z c h1 h2 => I.ok.inj y z c (sub h1) (sub h2), fun y hy => ?_, fun y c hf _ => (by cases (show false = true from hf)), I.ok.hd, I.ok.frames, .inl rfl, fun b hb => ⟨amA (sG b hb).2, fun y c e => (sG b hb).1.2.2.2.2.1 y c (sub e)⟩, I.bs, amS I.ok.UQ I.sz, fun b o e hb => ?_, fun b hb hf => ?_, I.stack, I.FU⟩,
   rfl, I.bare, Un.kept hk, ⟨m, hn, fun i y v h1 h2 h3 => ?_⟩, fun y c e => ?_, I.fS.fresh (al9 _), fun y c e => I.oY y c (sub e), fun p hp => absurd (show p ∈ ([] : List (Addr × Obj)) from hp) (by simp), I.fS.kept hk, hlen⟩
 . 
   have hy' : (relabel scope X.env).names.lookup y = some .cell \/ (relabel scope X.env).names.lookup y = some .free := hy
   cases e : scope.names.lookup y with
   | none => 
     have := m8 (env := X.env) e
     rcases hy' with q | q <;> (rw [show (relabel scope X.env).names.lookup y = none from this] at q; cases q)
   | some k =>
     have q := iM (env := X.env) e
     have hk : k = .free := by
       by_cases hk : k = .free
       . exact hk
       . have hb : (k == NameKind.free) = false := by simpa using hk
         rw [alT (by rw [hb]; simp)] at q
         have nc : k ≠ .cell := fun z => by
           subst z
           exact sc.Ge _ (am5 e) rfl
         rcases hy' with z | z
         . rw [show (relabel scope X.env).names.lookup y = some k from q] at z
           exact absurd (amw z) nc
         . rw [show (relabel scope X.env).names.lookup y = some k from q] at z
           exact absurd (amw z) hk
     subst hk
     exact vK e
 . 
   rcases (sG b hb).1.2.2.2.1 with z | z
   . exact I.ok.LJ b o e z
   . exact absurd (amE (amb e) (amS I.ok.UQ z)) (ano _)
 . rcases al6.mp (I.FT b hf) with z | z
   . exact (sG b hb).1.2.1 z
   . exact (sG b hb).1.2.2.1 z
 . 
   unfold R0 at h2
   by_cases hi : i < xs.length
   . rw [List.getElem?_append_left (by rw [am6]; exact hi), List.getElem?_replicate, alW hi] at h2
     cases h2
   . obtain ⟨n, rfl⟩ : ∃ n, i = xs.length + n := ⟨i - xs.length, by omega⟩
     rw [List.getElem?_append_right (by rw [am6]; omega), am6, Nat.add_sub_cancel_left, aml] at h2
     cases ei : ix[n]? with
     | none => rw [ei] at h2; cases h2
     | some j =>
       rw [ei] at h2
       have h2' : (σ[j]?).getD none = some v := amw h2
       have hj : σ[j]? = some (some v) := by
         cases q : σ[j]? with
         | none => rw [q] at h2'; cases h2'
         | some o => rw [q] at h2'; exact congrArg some h2'
       obtain ⟨y', hy1, hy2⟩ := sc.ixs j (amr ei)
       have hNc : Nc[xs.length + n]? = some y' := by
         have all : ∀ (l : List Nat) (i : Nat), (∀ j ∈ l, ∃ y, X.N[j]? = some y /\ scope.names.lookup y = some .free) -> l[i]? = some j -> (l.filterMap (X.N[·]?))[i]? = some y' := by
           intro l
           induction l with
           | nil => intro i _ h; simp at h
           | cons a r ih =>
             intro i h hi
             obtain ⟨ya, ea, _⟩ := h a al0
             rw [am1, ea]
             cases i with
             | zero =>
               simp at hi
               subst hi
               rw [hy1] at ea
               cases ea
               rfl
             | succ i => exact ih i (fun j hj => h j (List.mem_cons_of_mem _ hj)) (by simpa using hi)
         rw [sc.hd, List.getElem?_append_right (by omega), Nat.add_sub_cancel_left]
         exact all ix n sc.ixs ei
       have ey : y' = y := by
         have h1' : Nc[xs.length + n]? = some y := h1
         rw [hNc] at h1'
         exact amw h1'
       subst ey
       have P0 := (sc.frees (y', .free) (am5 hy2) rfl).2
       have aic : Vis X.env.scope y' := P0.elim (fun z => .inr (.inl z)) (fun z => .inr (.inr z))
       obtain ⟨m0, hn0, hl0⟩ := I.loc
       obtain ⟨u, ru, lk⟩ := hl0 j y' v hy1 hj aic
       refine ⟨u, ru, ?_⟩
       rcases lk with ⟨kk, _⟩ | ⟨_, c, hc, Fb⟩
       . rcases P0 with z | z
         . rw [kk] at z; cases z
         . rw [kk] at z; cases z
       . obtain ⟨c', hc'⟩ := vK (env := X.env) (cs := []) hy2
         have : c' = c := by
           have := sub hc'
           rw [hc] at this
           exact (amw this).symm
         subst this
         obtain ⟨o, ho, hd⟩ := Fb
         refine .inr ⟨?_, c', hc', o, hk _ _ ho, hd⟩
         have q := iM (env := X.env) hy2
         show (relabel scope X.env).names.lookup y' = some .cell \/ (relabel scope X.env).names.lookup y' = some .free
         rw [show (relabel scope X.env).names.lookup y' = _ from q]
         split
         . exact .inl rfl
         . exact .inr rfl
 . obtain ⟨v, o, ho, hd⟩ := I.cell y c (sub e)
   exact ⟨v, o, hk _ _ ho, hd⟩
noncomputable def VR (X : Cx) (tg elt : Expr) (ifs : List Expr) (n : Nat) (σ : L2.St) (ix : List Nat) (D : Addr) (N : Hp -> Prop) (xv : V) (os : List (Option V)) (H3 : Hp) : Prop :=
 ∃ t : TG, PG X tg t /\ t xv (R0 σ ix os) H3 fun σ8 H4 => ∃ os', os'.length = n /\ σ8 = R0 σ ix os' /\ ab4 X ifs σ8 H4 fun ok H5 =>
   if ok = true then IQ X elt σ8 H5 fun y H6 => ∃ acc, H6 D = some (.lst acc) /\ acc.length < sizeLine /\ N (upd H6 D (.lst (acc ++ [y]))) else N H5
theorem Ms {elt iter tg : Expr} {pos : Pos} {ifs : List Expr} {J : It} {fp : List Addr} {it : Addr} {tn : Nat -> Heap -> Prop} {G : Addr -> Hp -> Prop} {RR : Value -> Addr -> Result -> Shared -> Prop} {E : Value -> Shared -> Prop}
   (sc : sI X scope xs Nc ix) (hc : X.calm = true) (I : Inv X pins σ H s) (Tn : Turn X.prog X.w X.K tg J fp it tn) (st : tn 0 s.heap) (hf : ∀ b ∈ fp, By X pins H b)
   (loop : ∀ D, H D = none -> ∃ W : Nat -> Nat -> Hp -> Prop, (∃ m, W 0 m (upd H D (.lst []))) /\ ∀ i m H2, W i m H2 -> (J.stop i H2 /\ G D H2) ∨
     (J.go i H2 /\ ∃ N : Hp -> Prop, (∀ H', N H' -> ∃ m', m' < m /\ W (i + 1) m' H') /\ ∀ xv H3, J.yld i H2 xv H3 -> ∀ C s0 H0 f0 os, os.length = xs.length -> VR (fc X scope Nc C s0 H0 f0) tg elt ifs xs.length σ ix D N xv os H3))
   (hRR : ∀ D C s' H', (∃ m, s'.heap.Ns C m) -> (∃ o, s'.heap.get? C = some o /\ ∀ v, o.data ≠ .cell v) -> H' C = none -> (C ≠ X.env.locals /\ C ∉ X.fs /\ X.s₀.heap.objs.size <= C /\ (∀ y c, X.env.cells.lookup y = some c -> c ≠ C) /\ ∀ q ∈ X.pn ++ pins, q.1 ≠ C) -> (∀ h', Heap.SameBut C s'.heap h' -> Inv X pins σ H' { s' with heap := h' }) -> G D H' -> RR (.ref D) C (.ok .next) s') :
   wpAny (model X.prog X.w) X.A (newList []) (fun acc s₃ => wpAny (model X.prog X.w) X.A (newFunctionEnv scope X.env.globals (j8 X.env scope.names []) [] X.env.qual none .none (some X.env)) (fun VW s₄ =>
     codeAny (model X.prog X.w) X.A (.compStart (.ListComp elt [⟨tg, iter, ifs, 0⟩] scope pos) 0 (.ref it) acc { VW with scope := relabel scope X.env }) (RR acc VW.locals) s₄) E s₃) E s := by
 refine wpAny_newObj_type ?_
 have I3 : Inv X pins σ (upd H s.heap.objs.size (.lst [])) { s with heap := s.heap.push { cls := .type "list", dict := none, data := .seq ([] : List Value).toArray } } :=
   I.laid (t' := s.toks) (fun b u e => al8 _ e) (al9 _) ⟨by show 0 <= sizeLine; exact amu _, [], 0, .nil, amx _ rfl⟩
 have hD : H s.heap.objs.size = none := I.fS.fresh (al9 _)
 obtain ⟨W, ⟨m0, w0⟩, turn⟩ := loop _ hD
 have VX : ∀ b ∈ fp, By X pins (upd H s.heap.objs.size (.lst [])) b /\ b < (s.heap.push { cls := .type "list", dict := none, data := .seq ([] : List Value).toArray }).objs.size := fun b hb => by
   obtain ⟨f0, f1⟩ := hf b hb
   obtain ⟨o, ho, _⟩ := Tn.obj 0 _ st b hb
   have EK := amb ho
   refine ⟨⟨by rw [aK (amA EK)]; exact f0, f1⟩, ?_⟩
   rw [Heap.size_push]; exact Nat.lt_succ_of_lt EK
 have st3 : tn 0 (s.heap.push { cls := .type "list", dict := none, data := .seq ([] : List Value).toArray }) := Tn.keep 0 _ _ st fun b _ o e => al8 _ e
 generalize hs3 : ({ s with heap := s.heap.push { cls := .type "list", dict := none, data := .seq ([] : List Value).toArray } } : Shared) = s3 at I3 ⊢
 have hh3 : s3.heap = s.heap.push { cls := .type "list", dict := none, data := .seq ([] : List Value).toArray } := by rw [← hs3]
 rw [← hh3] at VX st3
 refine wpAny_newFunctionEnv sc.Ge (by intro y hy; simp at hy) (fun h₁ ack acm => ?_) sc.kind
 have old : ∀ b o, s3.heap.get? b = some o -> h₁.get? b = some o := fun b o e => (acm.2 b (amA (amb e))).trans (al8 _ e)
 have J0 := Jg (tk := s3.toks + ([] : List (Str × Value)).length) sc I3 VX ack old
 have st4 : tn 0 h₁ := Tn.keep 0 _ _ st3 fun b _ o e => old b o e
 have aaG : ∀ s4 : Shared, s4 = { s3 with heap := h₁, toks := s3.toks + ([] : List (Str × Value)).length } -> codeAny (model X.prog X.w) X.A (.compLoop (.ListComp elt [⟨tg, iter, ifs, 0⟩] scope pos) 0 (.ref it) (.ref s.heap.objs.size) (compEnvC scope (j8 X.env scope.names []) s3.heap.objs.size X.env)) (RR (.ref s.heap.objs.size) s3.heap.objs.size) s4 := by
   rintro s4 rfl
   have stat : ∀ {H' : Hp}, (∀ b ∈ fp, H' b = none) -> ∀ b ∈ fp, By (fc X scope Nc s3.heap.objs.size s3 (upd H s.heap.objs.size (.lst [])) fp) [] H' b := fun {H'} hn b hb => by
     obtain ⟨⟨f0, f1, f2, f3, f4, f5⟩, EK⟩ := VX b hb
     refine ⟨hn b hb, amA EK, fun z => ?_, .inl hb, fun y c e => f4 y c (vJ (fun y hy e => I.ok.has y.1 (sc.frees y hy e).2) (fun _ _ z => by cases z) e), fun p hp => absurd (show p ∈ ([] : List (Addr × Obj)) from hp) (by simp)⟩
     rcases al6.mp (I3.FT b z) with q | q
     . exact f1 q
     . exact f2 q
   refine Gd (fun n s' => ∃ i o H', o.length = xs.length /\ Inv (fc X scope Nc s3.heap.objs.size s3 (upd H s.heap.objs.size (.lst [])) fp) [] (R0 σ ix o) H' s' /\ tn i s'.heap /\ (∀ b ∈ fp, H' b = none) /\ W i n H') ?_ m0 ⟨0, _, _, am6, J0, st4, fun b hb => (VX b hb).1.1, w0⟩
   rintro n s5 ⟨i, o5, H5, ol5, I5, st5, fr5, w5⟩
   rcases turn i n H5 w5 with ⟨stop, g⟩ | ⟨go, N, hN, step⟩
   . refine fk (Tn.done (fc X scope Nc s3.heap.objs.size s3 (upd H s.heap.objs.size (.lst [])) fp) rfl rfl rfl hc i [] s5 _ H5 _ I5 (stat fr5) st5 stop) fun r s6 zz => ?_
     obtain ⟨hr, I6⟩ := zz
     subst hr
     obtain ⟨m6, hn6, _⟩ := I6.loc
     obtain ⟨oc, esc, epc, hoc, hdc, _⟩ := id hn6
     have fpC := I3.FZ (al9 s3.heap.objs.size) (H' := fun _ => none) rfl
     refine hRR _ _ s6 H5 ⟨m6, hn6⟩ ⟨oc, hoc, fun v z => by rw [hdc] at z; cases z⟩ I6.free ⟨fpC.2.1, fpC.2.2.1, ?_, fpC.2.2.2.2.1, fpC.2.2.2.2.2⟩ (fun h' hs' => RV I3 (fun b hb => (VX b hb).1) I6 hs') g
     exact I3.sz
   . refine fk (Tn.item (fc X scope Nc s3.heap.objs.size s3 (upd H s.heap.objs.size (.lst [])) fp) rfl rfl rfl hc i [] s5 _ H5 _ I5 (stat fr5) st5 go) fun r s6 zz => ?_
     obtain ⟨u, hr, h6⟩ := zz
     subst hr
     refine fk h6 fun _ s7 zz => ?_
     obtain ⟨xv, H7, I7, r7, y7, st7, fr7⟩ := zz
     have I7' := I7.pinned (stat fr7) (Tn.obj _ _ st7)
     obtain ⟨t, hg, ht⟩ := step xv _ y7 s3.heap.objs.size s3 (upd H s.heap.objs.size (.lst [])) fp o5 ol5
     refine fk (hg _ s7 _ H7 xv u _ I7' r7 ht) fun _ s8 zz => ?_
     obtain ⟨σ8, H8, I8, os8, ol8, e8, h8⟩ := zz
     subst e8
     refine fk (VC I8 h8 rfl) fun ok s9 zz => ?_
     obtain ⟨H9, I9, q9⟩ := zz
     have again : ∀ {Ha : Hp} {sa : Shared}, Inv (fc X scope Nc s3.heap.objs.size s3 (upd H s.heap.objs.size (.lst [])) fp) ([] ++ CY fp s7.heap) (R0 σ ix os8) Ha sa -> N Ha -> ∃ m, m < n /\ ∃ i o H', o.length = xs.length /\ Inv (fc X scope Nc s3.heap.objs.size s3 (upd H s.heap.objs.size (.lst [])) fp) [] (R0 σ ix o) H' sa /\ tn i sa.heap /\ (∀ b ∈ fp, H' b = none) /\ W i m H' := fun {Ha sa} Ia na => by
       obtain ⟨m', hm, wa⟩ := hN Ha na
       refine ⟨m', hm, i + 1, os8, Ha, ol8, Ia.xN, Tn.keep _ _ _ st7 fun b hb o e => (Ia.pin (b, o) (alU _ (alU _ (qK hb e)))).1, fun b hb => ?_, wa⟩
       obtain ⟨o, e, d⟩ := Tn.obj _ _ st7 b hb
       exact (Ia.pin (b, o) (alU _ (alU _ (qK hb e)))).2.1
     cases ok with
     | false =>
       rw [alT amc] at q9 ⊢
       exact again I9 q9
     | true =>
       rw [alW rfl] at q9 ⊢
       refine fk (q9 _ s9 I9) fun v sa zz => ?_
       obtain ⟨y, Ha, Ia, ra, acc, aih, hlen, na⟩ := zz
       refine fk (Fj (X := fc X scope Nc s3.heap.objs.size s3 (upd H s.heap.objs.size (.lst [])) fp) _ sa _ Ha (.ref s.heap.objs.size) [y] (.ref s.heap.objs.size) [v] (fun _ Hb => Hb = upd Ha s.heap.objs.size (.lst (acc ++ [y]))) Ia rfl (.cons ra .nil) ⟨_, acc, y, rfl, rfl, aih, hlen, rfl⟩) fun _ sb zz => ?_
       obtain ⟨_, Hb, Ib, _, eb⟩ := zz
       subst eb
       exact again Ib na
 exact codeAny_compStart_list (aaG _ rfl) (Tn.self _ 0 _ _ _ st4 (aaG _ rfl))
end
noncomputable def R1 (ps : List D) : List (Option T) := ps.map fun p => some (.sh p)
theorem Ft : ∀ {ys : List V} {os : List (Option V)} {pre r : L2.St}, os.length = ys.length -> Dc (pre ++ (os ++ r)) (List.range' pre.length ys.length) ys = pre ++ (ys.map some ++ r)
 | [], os, pre, r, h => by
   have : os = [] := List.length_eq_zero_iff.mp h
   subst this
   rfl
 | y :: ys, os, pre, r, h => by
   match os, h with
   | o :: os, h =>
     show Dc ((pre ++ (o :: (os ++ r))).set pre.length (some y)) (List.range' (pre.length + 1) ys.length) ys = _
     rw [List.set_append_right _ _ (al9 _), Nat.sub_self, List.set_cons_zero]
     have := Ft (ys := ys) (os := os) (pre := pre ++ [some y]) (r := r) (by simpa using h)
     simp only [amM, amT, List.length_nil, alZ, List.singleton_append] at this
     rw [this]
     simp
theorem YS {K : PySem.W.Frag} {CL : Str -> Addr} {H Z : Hp} : ∀ {ps : List D} {ys : List V} {δc : List (Option T)} {σc : L2.St}, aL K CL Z ps ys -> i6 K CL H Z δc σc [] -> i6 K CL H Z (R1 ps ++ δc) (ys.map some ++ σc) [] := fun {ps ys δc σc} h e =>
 aL.ind (P := fun ps ys => i6 K CL H Z (R1 ps ++ δc) (ys.map some ++ σc) []) e (fun r _ i => .cons (fp := []) (gp := []) (.sh r) i) h
section
variable {X : Cx} {CL : Str -> Addr} {b : Bx} {H Z W1 : Hp} {δ δc : List (Option T)} {σ : L2.St} {ts : List T} {vs : List V} {ds : List D} {scope : Scope} {Nc : List Str} {n : Nat} {ix : List Nat} {elt tg : Expr} {ifs : List Expr} {p : D -> Bool} {g : D -> T} {J : It} {parts : D -> Option (List D)}
noncomputable def zM (X : Cx) (CL : Str -> Addr) (scope : Scope) (Nc : List Str) (n : Nat) (tg : Expr) (parts : D -> Option (List D)) (ifs : List Expr) (elt : Expr) (δc : List (Option T)) (ds : List D) (p : D -> Bool) (g : D -> T) : Prop :=
 ∀ C s0 H0 f0 b', Tgt (fc X scope Nc C s0 H0 f0) CL tg (List.range' 0 n) parts /\ ∀ d, d ∈ ds -> ∃ ps, parts d = some ps /\ ps.length = n /\ TIv (fc X scope Nc C s0 H0 f0) CL b' ifs (R1 ps ++ δc) (p d) /\ (p d = true -> cY (fc X scope Nc C s0 H0 f0) CL b' elt (R1 ps ++ δc) (g d) (R1 ps ++ δc))
structure GW (K : PySem.W.Frag) (CL : Str -> Addr) (H W1 : Hp) (D : Addr) (l : List T) (k : Nat) (H2 Z2 : Hp) (Lz : List V) (fp : List Addr) : Prop where
 a1 : aM H H2
 a2 : aM W1 Z2
 a3 : aM Z2 H2
 a4 : Z2 D = none
 a5 : ∀ a o, Z2 a = some o -> W1 a = none -> H a = none
 a6 : ∀ a o, H2 a = some o -> qc o = true -> Z2 a = some o
 a7 : H2 D = some (.lst Lz)
 a8 : aZ K CL H2 Z2 l Lz fp
 a9 : fp.Nodup
 b1 : D ∉ fp
 b2 : ∀ a ∈ fp, Z2 a = none /\ H a = none
 b3 : Lz.length <= k
theorem De (S : cy X.K CL b H Z δ σ ts vs) (zw : aM Z W1) (wh : aM W1 H) (tp : ∀ a o, H a = some o -> qc o = true -> W1 a = some o)
   (cap : ∀ H', i6 X.K CL H' W1 δc (ix.map fun i => (σ[i]?).getD none) []) (inner : zM X CL scope Nc n tg parts ifs elt δc ds p g)
   (hgo : ∀ i H2, aM W1 H2 -> i < ds.length -> J.go i H2)
   (hy : ∀ i Z2 H2 x H', aM W1 Z2 -> aM Z2 H2 -> (∀ a o, H2 a = some o -> qc o = true -> Z2 a = some o) -> i < ds.length -> J.yld i H2 x H' -> ∃ Z3 d, ds[i]? = some d /\ Gk Z2 H2 Z3 H' /\ bS X.K CL Z3 d x)
   (qH : ∀ H2, aM W1 H2 -> J.stop ds.length H2) (hlen : ds.length <= sizeLine) (c : W1 = Z \/ ∀ d ∈ ds, (g d).clean = true) :
   ∀ D, H D = none -> ∃ W : Nat -> Nat -> Hp -> Prop, (∃ m, W 0 m (upd H D (.lst []))) /\ ∀ i m H2, W i m H2 -> (J.stop i H2 /\ ∃ Z2, aM Z Z2 /\ aM H H2 /\ cy X.K CL b H2 Z2 δ σ (.lst ((ds.filter p).map g) :: ts) (.ref D :: vs)) ∨
     (J.go i H2 /\ ∃ N : Hp -> Prop, (∀ H', N H' -> ∃ m', m' < m /\ W (i + 1) m' H') /\ ∀ xv H3, J.yld i H2 xv H3 -> ∀ C s0 H0 f0 os, os.length = n -> VR (fc X scope Nc C s0 H0 f0) tg elt ifs n σ ix D N xv os H3) := by
 intro D hD
 have wD : W1 D = none := wh.free hD
 refine ⟨fun i m H2 => m = ds.length - i /\ i <= ds.length /\ ∃ Z2 Lz fp, GW X.K CL H W1 D (((ds.take i).filter p).map g) i H2 Z2 Lz fp, ⟨ds.length, rfl, amu _, W1, [], [], aM.upd hD, .refl _, wh.trans (aM.upd hD), wD, fun a o q z => ?_, fun a o q i => ?_, bu, .nil, am7, by simp, by simp, by simp⟩, ?_⟩
 . rw [q] at z; cases z
 . by_cases ha : a = D
   . subst ha; rw [bu] at q; cases q; cases i
   . rw [aK ha] at q; exact tp a o q i
 . rintro i m H2 ⟨rfl, hi, Z2, Lz, fp, hh, wz, zh, zD, nw, tp2, hD2, ra, nd, nD, own, hav⟩
   by_cases EK : i < ds.length
   . refine .inr ⟨hgo i H2 (wz.trans zh) EK, fun H' => ∃ Z2 Lz fp, GW X.K CL H W1 D (((ds.take (i + 1)).filter p).map g) (i + 1) H' Z2 Lz fp, fun H' h => ⟨ds.length - (i + 1), by omega, rfl, EK, h⟩, fun xv H3 y C s0 H0 f0 os hos => ?_⟩
     obtain ⟨Z3, d, hd, gr, rd⟩ := hy i Z2 H2 xv H3 wz zh tp2 EK y
     have aco : ∀ a, Z2 a = none -> (∃ o, H2 a = some o) -> Z3 a = none := fun a e ⟨o, e2⟩ => by
       cases q : Z3 a with
       | none => rfl
       | some u => rw [gr.new a u q e] at e2; cases e2
     have nw3 : ∀ a o, Z3 a = some o -> W1 a = none -> H a = none := fun a o q z => by
       cases e : Z2 a with
       | none => exact hh.free (gr.new a o q e)
       | some u =>
         have := gr.z a u e
         rw [q] at this; cases this
         exact nw a o e z
     have ra3 : aZ X.K CL H3 Z3 (((ds.take i).filter p).map g) Lz fp := ra.mono gr.z fun a ha => by
       obtain ⟨o, e⟩ := ra.there a ha
       rw [e]; exact gr.h a o e
     have ow3 : ∀ a ∈ fp, Z3 a = none /\ H a = none := fun a ha => ⟨aco a (own a ha).1 (ra.there a ha), (own a ha).2⟩
     have zD3 : Z3 D = none := aco D zD ⟨_, hD2⟩
     have hD3 : H3 D = some (.lst Lz) := gr.h D _ hD2
     have hh3 := hh.trans gr.h
     have wz3 := wz.trans gr.z
     have zh3 := gr.zh
     have tp3 := gr.tp
     clear own nw ra zD hD2 hh wz zh tp2 gr aco
     have YT : d ∈ ds := amr hd
     have htk : ds.take (i + 1) = ds.take i ++ [d] := by rw [anu, hd]; rfl
     obtain ⟨tgt, inn⟩ := inner C s0 H0 f0 ⟨H3, Z3⟩
     obtain ⟨ps, hps, hpl, it, ie⟩ := inn d YT
     obtain ⟨t, pg, ht⟩ := tgt
     refine ⟨t, pg, ht Z3 H3 d ps xv _ _ zh3 rd hps fun ys rys => ?_⟩
     have hyl : ys.length = n := by rw [← rys.length]; exact hpl
     have es : Dc (R0 σ ix os) (List.range' 0 n) ys = R0 σ ix (ys.map some) := by
       have := Ft (ys := ys) (os := os) (pre := []) (r := ix.map fun i => (σ[i]?).getD none) (by rw [hos, hyl])
       rw [hyl] at this
       exact this
     refine ⟨ys.map some, by rw [alR]; exact hyl, es, ?_⟩
     rw [es]
     have S0 : cy X.K CL ⟨H3, Z3⟩ H3 Z3 (R1 ps ++ δc) (R0 σ ix (ys.map some)) [] [] :=
       ⟨⟨[], [], YS rys ((cap H3).mono wz3 fun a ha => by cases ha), .nil, am7, fun a ha => by cases ha⟩, .refl _, .refl _, zh3, fun a o q z => (by have z' : Z3 a = none := z; rw [show Z3 a = some o from q] at z'; cases z'), tp3, (S.aeW.mono zw).mono wz3⟩
     refine it.sem S0 fun H4 Z4 z4 k4 S4 => ?_
     have ail : ∀ a ∈ fp, H4 a = H3 a := fun a ha => by
       obtain ⟨o, e⟩ := ra3.there a ha
       rw [e]; exact k4 a o e
     have VY : ∀ a, Z3 a = none -> (∃ o, H3 a = some o) -> Z4 a = none := fun a e ⟨o, e2⟩ => by
       cases q : Z4 a with
       | none => rfl
       | some u =>
         have := S4.new a u q e
         rw [show H3 a = none from this] at e2; cases e2
     cases hp : p d with
     | false =>
       refine Mf ⟨Z4, Lz, fp, hh3.trans k4, wz3.trans z4, S4.zh, VY D zD3 ⟨_, hD3⟩, fun a o q z => ?_, S4.tp, k4 D _ hD3, ?_, nd, nD, fun a ha => ⟨VY a (ow3 a ha).1 (ra3.there a ha), (ow3 a ha).2⟩, by omega⟩
       . cases e : Z3 a with
         | none => exact hh3.free (S4.new a o q e)
         | some u => 
           have := z4 a u e
           rw [q] at this; cases this
           exact nw3 a o e z
       . rw [htk, List.filter_append, List.filter_cons_of_neg (by simp [hp]), List.filter_nil, amH]
         exact ra3.mono z4 ail
     | true =>
       refine Mg ((ie hp) H4 Z4 (R0 σ ix (ys.map some)) [] [] _ S4 fun yv H5 Z5 z5 k5 S5 => ⟨Lz, k5 D _ (k4 D _ hD3), by omega, ?_⟩)
       obtain ⟨f1, g1, e1, r1, nd1, afi⟩ := S5.rep
       cases r1 with
       | @cons _ _ _ _ fy fn ry rn =>
         cases rn
         rw [amH] at nd1 afi
         have ndy : fy.Nodup := (amK.mp nd1).2.1
         have YV : ∀ a ∈ fy, Z5 a = none /\ H3 a = none := fun a ha => afi a (alU _ ha)
         have Mt : ∀ a, Z3 a = none -> (∃ o, H3 a = some o) -> Z5 a = none := fun a e ⟨o, e2⟩ => by
           cases q : Z5 a with
           | none => rfl
           | some u =>
             have := S5.new a u q e
             rw [show H3 a = none from this] at e2; cases e2
         have yD : ∀ a ∈ fy, a ≠ D := fun a ha e => by
           subst e
           rw [(YV a ha).2] at hD3; cases hD3
         have h5D : H5 D = some (.lst Lz) := k5 D _ (k4 D _ hD3)
         have sD : aM H (upd H5 D (.lst (Lz ++ [yv]))) := fun a o q => by
           rw [aK (bX q hD)]
           exact k5 a o (k4 a o (hh3 a o q))
         refine ⟨Z5, Lz ++ [yv], fp ++ fy, sD, wz3.trans (z4.trans z5), fun a o q => ?_, Mt D zD3 ⟨_, hD3⟩, fun a o q z => ?_, fun a o q im => ?_, bu, ?_, ?_, ?_, fun a ha => ?_, ?_⟩
         . rw [aK (bX q (Mt D zD3 ⟨_, hD3⟩))]; exact S5.zh a o q
         . cases e : Z3 a with
           | none => exact hh3.free (S5.new a o q e)
           | some u =>
             have := z5 a u (z4 a u e)
             rw [q] at this; cases this
             exact nw3 a o e z
         . by_cases ha : a = D
           . subst ha; rw [bu] at q; cases q; cases im
           . rw [aK ha] at q; exact S5.tp a o q im
         . rw [htk, List.filter_append, List.filter_cons_of_pos hp, List.filter_nil, amk]
           refine aZ.app (ra3.mono (z4.trans z5) fun a ha => ?_) (by
             have := aZ.cons (fp := fy) (gp := []) (ry.mono (.refl _) fun a ha => aK (yD a ha)) (aZ.nil (H := upd H5 D (.lst (Lz ++ [yv]))) (Z := Z5))
             rwa [amH] at this)
           have : a ≠ D := fun e => nD (e ▸ ha)
           rw [aK this]
           obtain ⟨o, e⟩ := ra3.there a ha
           rw [e]; exact k5 a o (k4 a o e)
         . refine amK.mpr ⟨nd, ndy, fun a ha a' Vv e => ?_⟩
           subst e
           obtain ⟨o, e⟩ := ra3.there a ha
           rw [(YV a Vv).2] at e; cases e
         . intro h
           rcases al7.mp h with h | h
           . exact nD h
           . exact yD D h rfl
         . rcases al7.mp ha with h | h
           . exact ⟨Mt a (ow3 a h).1 (ra3.there a h), (ow3 a h).2⟩
           . exact ⟨(YV a h).1, hh3.free (YV a h).2⟩
         . rw [amM, List.length_singleton]; omega
   . have e : i = ds.length := by omega
     subst e
     refine .inl ⟨qH H2 (wz.trans zh), ?_⟩
     rw [List.take_length] at ra
     obtain ⟨Z', z', S'⟩ := S.back (H' := H2) (W := W1) (W' := Z2) (t := .lst ((ds.filter p).map g)) (v := .ref D) (fp := D :: fp) hh zw wz zh nw tp2 (.lst hD2 ra) (amO.mpr ⟨nD, nd⟩) (fun a ha => by
       rcases al6.mp ha with h | h
       . subst h; exact ⟨zD, hD⟩
       . exact own a h) (c.imp id fun c => by
         rw [qu]
         exact C4 fun d hd => c d (List.mem_filter.mp hd).1)
     exact ⟨Z', z', hh, S'⟩
end
section
variable {X : Cx} {CL : Str -> Addr} {b : Bx} {δ δ1 : List (Option T)} {scope : Scope} {xs : List Str} {Nc : List Str} {ix : List Nat} {elt iter tg : Expr} {ifs : List Expr} {pos : Pos} {ds : List D} {p : D -> Bool} {g : D -> T} {δc : List (Option T)} {parts : D -> Option (List D)}
theorem Fv {J : It} {fp : List Addr} {it : Addr} {tn : Nat -> Heap -> Prop} {pins : List (Addr × Obj)} {σ : L2.St} {H H1 Z : Hp} {s : Shared} {ts : List T} {vs : List V} {RR : Value -> Addr -> Result -> Shared -> Prop} {E : Value -> Shared -> Prop}
   (sc : sI X scope xs Nc ix) (hc : X.calm = true) (C : Gm X CL b δ1 σ ts vs Z H ds J H1) (I : L2.Inv X pins σ H1 s) (Tn : Turn X.prog X.w X.K tg J fp it tn) (st : tn 0 s.heap) (hf : ∀ b ∈ fp, By X pins H1 b)
   (hb : (δc = IV δ1 ix /\ ∀ d ∈ ds, (g d).clean = true) \/ δc = IW δ1 ix) (inner : zM X CL scope Nc xs.length tg parts ifs elt δc ds p g) (hlen : ds.length <= sizeLine)
   (hRR : ∀ D C s' H' Z', (∃ m, s'.heap.Ns C m) -> (∃ o, s'.heap.get? C = some o /\ ∀ v, o.data ≠ .cell v) -> H' C = none -> (C ≠ X.env.locals /\ C ∉ X.fs /\ X.s₀.heap.objs.size <= C /\ (∀ y c, X.env.cells.lookup y = some c -> c ≠ C) /\ ∀ q ∈ X.pn ++ pins, q.1 ≠ C) -> (∀ h', Heap.SameBut C s'.heap h' -> L2.Inv X pins σ H' { s' with heap := h' }) -> aM Z Z' -> aM H H' -> cy X.K CL b H' Z' δ1 σ (.lst ((ds.filter p).map g) :: ts) (.ref D :: vs) -> RR (.ref D) C (.ok .next) s') :
   wpAny (model X.prog X.w) X.A (newList []) (fun acc s₃ => wpAny (model X.prog X.w) X.A (newFunctionEnv scope X.env.globals (j8 X.env scope.names []) [] X.env.qual none .none (some X.env)) (fun VW s₄ =>
     codeAny (model X.prog X.w) X.A (.compStart (.ListComp elt [⟨tg, iter, ifs, 0⟩] scope pos) 0 (.ref it) acc { VW with scope := relabel scope X.env }) (RR acc VW.locals) s₄) E s₃) E s := by
 obtain ⟨Z1, z1, k1, S1, go, yl, stp⟩ := C.ex
 have lp : ∀ D, H1 D = none -> ∃ W : Nat -> Nat -> Hp -> Prop, (∃ m, W 0 m (upd H1 D (.lst []))) /\ ∀ i m H2, W i m H2 -> (J.stop i H2 /\ ∃ Z2, aM Z1 Z2 /\ aM H1 H2 /\ cy X.K CL b H2 Z2 δ1 σ (.lst ((ds.filter p).map g) :: ts) (.ref D :: vs)) ∨
     (J.go i H2 /\ ∃ N : Hp -> Prop, (∀ H', N H' -> ∃ m', m' < m /\ W (i + 1) m' H') /\ ∀ xv H3, J.yld i H2 xv H3 -> ∀ C s0 H0 f0 os, os.length = xs.length -> VR (fc X scope Nc C s0 H0 f0) tg elt ifs xs.length σ ix D N xv os H3) := by
   rcases hb with ⟨e, cl⟩ | e
   . subst e
     exact De (W1 := H1) S1 S1.zh (.refl _) (fun _ _ q _ => q) (IX S1 ix) inner (fun i H2 s => go i H2 (S1.zh.trans s)) (fun i Z2 H2 y H' s => yl i Z2 H2 y H' (S1.zh.trans s)) (fun H2 s => stp H2 (S1.zh.trans s)) hlen (.inr cl)
   . subst e
     exact De (W1 := Z1) S1 (.refl _) S1.zh S1.tp (IY S1 ix) inner go yl stp hlen (.inl rfl)
 exact Ms sc hc I Tn st hf lp fun D C s' H' m io nC ch ci ⟨Z', z', k', S'⟩ => hRR D C s' H' Z' m io nC ch ci (z1.trans z') (k1.trans k') S'
theorem Be (sc : sI X scope xs Nc ix) {pins : List (Addr × Obj)} {σ : L2.St} {H : Hp} {s : Shared} (I : L2.Inv X pins σ H s) : closureFor scope X.env = pure (j8 X.env scope.names []) :=
 E1 fun y hy e => I.ok.has y.1 (sc.frees y hy e).2
theorem Jh (sc : sI X scope xs Nc ix) (hc : X.calm = true) (h : GIt X CL b tg iter δ ds δ1) (hb : (δc = IV δ1 ix /\ ∀ d ∈ ds, (g d).clean = true) \/ δc = IW δ1 ix) (inner : zM X CL scope Nc xs.length tg parts ifs elt δc ds p g) (hlen : ds.length <= sizeLine)
   (hs : ∀ x, foldedSetIterable iter X.env x = pure x := by intro _; rfl) : cY X CL b (.ListComp elt [⟨tg, iter, ifs, 0⟩] scope pos) δ (.lst ((ds.filter p).map g)) δ1 := fun H Z σ ts vs Q S k pins s I => by
 obtain ⟨wi, pi, hw⟩ := h
 rw [eval_ListComp]
 refine wpAny_comprehension_free (use := none) rfl hs (Be sc I) sc.kind sc.names ?_
 refine fk (pi pins s σ H _ I (hw H Z σ ts vs (fun J H1 => Gm X CL b δ1 σ ts vs Z H ds J H1) S fun J H1 C => C)) fun v s1 h1 => fk h1 fun itv s2 zz => ?_
 obtain ⟨it, fp, tn, J, H1, e, I1, Tn, st, hf, C⟩ := zz
 subst e
 refine Fv (RR := fun acc C => compPost (model X.prog X.w) X.A X.xe none (EP X pins σ Q) acc C) sc hc C I1 Tn st hf hb inner hlen fun D C' s' H' Z' m io nC ch ci z' k' S' => ?_
 obtain ⟨m, hn⟩ := m
 exact ⟨m, hn, fun h' hs' => ⟨.ref D, H', ci h' hs', rfl, k _ H' Z' z' k' S'⟩⟩
theorem YW {D : dg} {y : Str} {py afj : Pos} (i : Nat) (sc : sI X scope xs Nc ix) (hc : X.calm = true) (h : GIt X CL b tg iter δ ds δ1) (hb : (δc = IV δ1 ix /\ ∀ d ∈ ds, (g d).clean = true) \/ δc = IW δ1 ix) (inner : zM X CL scope Nc xs.length tg parts ifs elt δc ds p g) (hlen : ds.length <= sizeLine)
   (k : D.nx (δ1.set i (some (.lst ((ds.filter p).map g))))) (hl : i < δ1.length) (hN : X.N.Nodup) (hi : X.N[i]? = some y) (hx : Loc X.env.scope y) (hf' : X.fn y = true \/ X.env.scope.names.lookup y = some .local)
   (Ml : swapsWith (.ListComp elt [⟨tg, iter, ifs, 0⟩] scope pos) (some (.Name y py)) afj.line X.env = pure true)
   (hs : ∀ x, foldedSetIterable iter X.env x = pure x := by intro _; rfl) : XY X CL b (.Assign [.Name y py] (.ListComp elt [⟨tg, iter, ifs, 0⟩] scope pos) afj) δ D := fun H Z σ ts vs E S M pins s I => by
 obtain ⟨wi, pi, hw⟩ := h
 rw [exec_Assign_Name_used _ _ _ _ Ml]
 refine amq (wpAny_standAt (amq ?_))
 show wpAny _ X.A (do let _ ← comprehension (.ListComp elt [⟨tg, iter, ifs, 0⟩] scope pos) scope X.env _ (newList []) false (eval iter X.env) (some (assign (.Name y py) X.env))) _ _ s
 refine amq (amV (wpAny_comprehension_free (use := some (assign (.Name y py) X.env)) (Q := fun _ s' => SP X pins E .next s') rfl hs (Be sc I) sc.kind sc.names ?_) (fun _ s' hq => amL (amL hq)) fun _ _ e => e)
 refine fk (pi pins s σ H _ I (hw H Z σ ts vs (fun J H1 => Gm X CL b δ1 σ ts vs Z H ds J H1) S fun J H1 C => C)) fun v s1 h1 => fk h1 fun itv s2 zz => ?_
 obtain ⟨it, fp, tn, J, H1, e, I1, Tn, st, hf, C⟩ := zz
 subst e
 refine Fv (RR := fun acc C => compPost (model X.prog X.w) X.A X.xe (some (assign (.Name y py) X.env)) (fun _ s' => SP X pins E .next s') acc C) sc hc C I1 Tn st hf hb inner hlen fun D' C' s' H' Z' m io nC ch ci z' k' S' => ?_
 obtain ⟨m, hn⟩ := m
 obtain ⟨o, ho, Fb⟩ := io
 have I' : L2.Inv X pins σ H' s' := ci s'.heap (.refl ..)
 have I2 : L2.Inv X (pins ++ [(C', o)]) σ H' s' := I'.Cj fun q hq => by
   rcases al7.mp hq with z | z
   . exact I'.pin q (alU _ z)
   . have e : q = (C', o) := by simpa using z
     subst e
     exact ⟨ho, nC, ch.1, ch.2.1, Fb⟩
 show wpAny _ X.A (assign (.Name y py) X.env (.ref D')) _ _ s'
 have hg : PG X (.Name y py) (A6 i) := xM hN hi hx hf'
 refine fk (hg _ s' σ H' (.ref D') (.ref D') (fun σ8 H8 => σ8 = σ.set i (some (.ref D')) /\ H8 = H') I2 rfl ⟨rfl, rfl⟩) fun _ s8 zz => ?_
 obtain ⟨σ8, H8, I8, e8, e8'⟩ := zz
 subst e8
 subst e8'
 obtain ⟨hC8, nC8, _⟩ := I8.pin (C', o) (alU _ (alU _ (by simp)))
 refine ⟨m, hn.at' fun o' e' => by rw [ho] at e'; cases e'; exact hC8, fun h' hs' => ?_⟩
 have I9 : L2.Inv X pins (σ.set i (some (.ref D'))) _ s8 := I8.Cj fun q hq => I8.pin q (alU _ (al4 _ hq))
 have I10 := I9.turned (it := C') (h' := h') (t' := s8.toks) (fun b o hb e => (hs'.2 b hb).trans e) nC8 ch.1.symm.symm (.inr ch.2.2.1) ch.2.2.2.1 ch.2.2.2.2
 exact ⟨_, _, I10, M.nx _ _ _ Z' z' (S'.set hl) k⟩
theorem acq {D : dg} {eW : List Stmt} {i : Nat} {x : Str} {pos' pc : Pos} (gx : Gx X) (n : Ln X i x) (sc : sI X scope xs Nc ix) (h : GIt X CL b tg iter δ ds δ1)
   (hb : (δc = IV δ1 ix /\ ∀ d ∈ ds, (g d).clean = true) \/ δc = IW δ1 ix) (inner : zM X CL scope Nc xs.length tg parts ifs elt δc ds p g) (hlen : ds.length <= sizeLine) (k : gw X CL b eW (δ1.set i (some (.lst ((ds.filter p).map g)))) D) (hl : i < δ1.length)
   (Ml : swapsWith (.ListComp elt [⟨tg, iter, ifs, 0⟩] scope pc) (some (.Name x pos')) pos.line X.env = pure true \/ swapsWith (.ListComp elt [⟨tg, iter, ifs, 0⟩] scope pc) (some (.Name x pos')) pos.line X.env = pure false) (hs : ∀ x, foldedSetIterable iter X.env x = pure x := by intro _; rfl) :
   gw X CL b (.Assign [.Name x pos'] (.ListComp elt [⟨tg, iter, ifs, 0⟩] scope pc) pos :: eW) δ D := by
 rcases Ml with Ml | Ml
 . exact dD (YW i sc gx.calm h hb inner hlen k hl gx.nd n.hi n.loc n.hf Ml hs)
 . exact dD (Mj i (Jh sc gx.calm h hb inner hlen hs) k hl gx.nd n.hi n.loc Ml n.hf)
theorem acr {i : Nat} {x : Str} {C : Addr} {s : Shared} {H : Hp} {fp : List Addr} (h1 : Nc[i]? = some x) (h2 : scope.names.lookup x = some .local) (hd : (x == ("__debug__" : Str)) = false := by decide) (qo : (x == ("__classdict__" : Str)) = false := by decide) : Ln (fc X scope Nc C s H fp) i x :=
 ⟨gi h1 h2 hd qo, .inl (lookup_relabel_local h2), .inr (lookup_relabel_local h2)⟩
end
noncomputable def Ite (K : PySem.W.Frag) (a : Addr) : It :=
 ⟨fun i H => ∃ xs x, rV K H a xs /\ xs[i]? = some x, fun i H x H' => ∃ T y, H T = none /\ x = .ref T /\ (∀ xs, rV K H a xs -> xs[i]? = some y) /\ H' = upd H T (.tup [.int i, y]), fun i H => ∃ xs, rV K H a xs /\ xs.length <= i⟩
theorem R3 {P : Program} {w : World} {K : PySem.W.Frag} {elts : List Expr} {kk : Nat} {pt : Pos} (a e it : Addr) (hne : e ≠ it) : Turn P w K (.Tuple elts kk pt) (Ite K a) [e, it] e (fun i h => (∃ old, PySem.IsEnum h e it i old) /\ h.IsListIter it a i) where
 mem := by simp
 obj := fun i h st b hb => by
   obtain ⟨⟨old, he⟩, hit⟩ := st
   rcases al6.mp hb with z | z
   . subst z
     exact ⟨_, he, fun v z => by
       have z' : Data.fields _ = Data.cell v := z
       cases z'⟩
   . have z : b = it := by simpa using z
     subst z
     obtain ⟨o, e, c, d⟩ := hit
     exact ⟨o, e, fun v z => by rw [d] at z; cases z⟩
 keep := fun i h h' st k => by
   obtain ⟨⟨old, he⟩, hit⟩ := st
   exact ⟨⟨old, k e (by simp) _ he⟩, hit.at fun o q => k it (by simp) o q⟩
 item := by
   intro X hP hw hK hc i pins s σ H E I hf st hg
   subst hP hw hK
   obtain ⟨xs, x, hq, hx⟩ := hg
   obtain ⟨its, rv, p, hz⟩ := I.list hq
   obtain ⟨u, hu, ru⟩ := rv.get hx
   obtain ⟨⟨old, he⟩, hit⟩ := st
   have fe := hf e (by simp)
   have fi := hf it (by simp)
   have hT0 : H s.heap.objs.size = none := I.fS.fresh (al9 _)
   have fT := I.FZ (al9 s.heap.objs.size) hT0
   refine PySem.wpAny_pyNext_enum_item he hit p.isList (x := u) (by simpa using hu) hne fun h' ho ain hT hsz hk => ⟨_, rfl, ?_⟩
   refine PySem.wpAny_letOwnedTupleGo_enum ho fun h2 he2 LW => ?_
   replace LW : Heap.SameBut e h' h2 := LW
   have eT : e < s.heap.objs.size := amb he
   have keep : ∀ b o, b ≠ e -> b ≠ it -> s.heap.get? b = some o -> h2.get? b = some o := fun b o h1 h3 q => (LW.2 b h1).trans (hk b o h1 h3 q)
   have hT2 : h2.get? s.heap.objs.size = some { cls := .type "tuple", data := .seq #[.int i s.toks, u] } := (LW.2 _ (Nat.ne_of_gt eT)).trans hT
   have nH : ∀ b o, H b = some o -> b ≠ e /\ b ≠ it /\ b ≠ s.heap.objs.size := fun b o q => ⟨fun z => (by rw [z, fe.1] at q; cases q), fun z => (by rw [z, fi.1] at q; cases q), fun z => (by rw [z, hT0] at q; cases q)⟩
   have I' : L2.Inv X pins σ (upd H s.heap.objs.size (.tup [.int i, x])) { s with heap := h2, toks := s.toks + 1 } := by
     refine I.step (g' := s.gens) (d' := s.drawn) (ch := [e, it, s.heap.objs.size]) (fun b hb => ?_) (fun b o _ _ hc q _ => ?_) (fun b o _ _ hc q _ => ⟨o.slots, ?_⟩) (fun b o hc q n => ?_) (fun b o hc q => ⟨o, ?_⟩) (fun b ys q => ?_) (fun b o u q => ?_) (fun b ps q => ⟨#[], ?_⟩) (fun m hm => ?_) (fun b o q => ?_) I.bare
     . rcases al6.mp hb with z | hb
       . subst z; exact ⟨fe.2.2.2.1, fe.2.1, fe.2.2.2.2.1, fe.2.2.2.2.2⟩
       . rcases al6.mp hb with z | hb
         . subst z; exact ⟨fi.2.2.2.1, fi.2.1, fi.2.2.2.2.1, fi.2.2.2.2.2⟩
         . have z : b = s.heap.objs.size := by simpa using hb
           subst z; exact ⟨fT.2.2.2.1, fT.2.1, fT.2.2.2.2.1, fT.2.2.2.2.2⟩
     . exact keep b o (fun z => hc (by simp [z])) (fun z => hc (by simp [z])) q
     . exact keep b o (fun z => hc (by simp [z])) (fun z => hc (by simp [z])) q
     . rw [aK (fun z => hc (by simp [z]))]; exact n
     . exact keep b o (fun z => hc (by simp [z])) (fun z => hc (by simp [z])) q
     . rw [aK (nH b _ q).2.2]; exact q
     . rw [aK (nH b _ q).2.2]; exact q
     . rw [aK (nH b _ q).2.2, q]; simp
     . obtain ⟨o, es, ep, ho, r⟩ := hm
       exact ⟨o, es, ep, keep _ o (ani fe.2.1) (ani fi.2.1) ho, r⟩
     . by_cases hb : b = s.heap.objs.size
       . subst hb
         rw [bu] at q
         cases q
         exact ⟨amo (bE (alY rfl)), [.int i s.toks, u], .cons ⟨s.toks, rfl⟩ (.cons ru .nil), ⟨_, hT2, rfl, _, rfl⟩⟩
       . rw [aK hb] at q
         refine (I.fS b o q).Ip (fun c v hc z => keep c v ?_ ?_ z) (fun c z => by rw [aK (nH c _ z).2.2]; exact z) (fun c ys z => by rw [aK (nH c _ z).2.2]; exact z) fun c ys z => by rw [aK (nH c _ z).2.2]; exact z
         . rcases hc with z | z
           . rw [z]; exact (nH b _ q).1
           . exact (nH c _ z).1
         . rcases hc with z | z
           . rw [z]; exact (nH b _ q).2.1
           . exact (nH c _ z).2.1
   have ei : ((i + 1 : Nat) : Int) = (i : Int) + 1 := by omega
   refine ⟨.ref s.heap.objs.size, _, I', rfl, ⟨_, x, hT0, rfl, fun ys hy => by rw [I.Iw hy hq]; exact hx, rfl⟩, ⟨⟨u, by rw [ei]; exact he2⟩, ain.at fun o q => (LW.2 it (ani hne)).trans q⟩, fun b hb => ?_⟩
   have hb' := hf b hb
   obtain ⟨o, EV, _⟩ : ∃ o, s.heap.get? b = some o /\ True := by
     rcases al6.mp hb with z | z
     . subst z; exact ⟨_, he, trivial⟩
     . have z : b = it := by simpa using z
       subst z
       obtain ⟨o, q, _⟩ := hit
       exact ⟨o, q, trivial⟩
   rw [aK (amA (amb EV))]
   exact hb'.1
 done := by
   intro X hP hw hK hc i pins s σ H E I hf st hg
   subst hP hw hK
   obtain ⟨xs, hq, hx⟩ := hg
   obtain ⟨its, rv, p, hz⟩ := I.list hq
   obtain ⟨⟨old, he⟩, hit⟩ := st
   obtain ⟨f0, f1, f2, f3, f4, f5⟩ := hf it (by simp)
   have hl := rv.length
   exact PySem.wpAny_pyNext_enum_end (I.ok.hd hc) he hit p.isList (by simp; omega) fun h' eb => ⟨rfl, I.turned (t' := s.toks) (fun b o hb e => eb b o hb e) f0 f1 f3 f4 f5⟩
 self := fun _ _ _ _ _ st h => by
   obtain ⟨⟨old, he⟩, _⟩ := st
   exact PySem.wpAny_pyIter_enum he h
section
variable {X : Cx} {elts : List Expr} {kk : Nat} {pt : Pos}
noncomputable def afk (K : PySem.W.Frag) (ta : TA) : TI := fun σ H R => ta σ H fun vs H1 => ∃ a xs, vs = [.ref a] /\ rV K H1 a xs /\ R (Ite K a) H1
theorem YX {a : Expr} {ta : TA} {p pos : Pos} (hg : Gl X "enumerate") (hm : X.mg "enumerate" = none) (ha : PA X [a] ta) (hs : starEach [a] X.env = (false, eval a X.env) :: starEach [] X.env) : PI X (.Tuple elts kk pt) (.Call (.Name "enumerate" p) [a] [] pos) (afk X.K ta) := by
 intro pins s σ H R I h
 refine Call_ (CW I hg hm boot_enumerate (anc (fk (ha pos pins s σ H _ I h) fun us s1 zz => ?_) hs rfl))
 obtain ⟨vs, H1, I1, r1, q1⟩ := zz
 obtain ⟨l, xs, e, hq, q⟩ := q1
 subst e
 cases r1 with
 | cons r rr =>
   cases rr
   cases r
   obtain ⟨its, rv, p, hz⟩ := I1.list hq
   refine PySem.call_enumerate_list p.isList fun h' he hit hsz hk => ?_
   have I2 : L2.Inv X pins σ H1 { s1 with heap := h' } := I1.kept (t' := s1.toks) fun b o e => hk b o e
   refine PySem.wpAny_pyIter_enum he ?_
   refine ⟨s1.heap.objs.size + 1, [s1.heap.objs.size + 1, s1.heap.objs.size], _, _, H1, rfl, I2, R3 l _ _ (Nat.succ_ne_self _), ⟨⟨_, he⟩, hit⟩, fun b hb => ?_, q⟩
   rcases al6.mp hb with z | z
   . subst z
     exact I1.FZ (Nat.le_succ _) (I1.fS.fresh (Nat.le_succ _))
   . have z : b = s1.heap.objs.size := by simpa using z
     subst z
     exact I1.FZ (al9 _) (I1.fS.fresh (al9 _))
end
noncomputable def Df (ds : List D) : List D := (List.range ds.length).map fun (i : Nat) => .tup [.int i, ds.getD i .non]
theorem zN (ds : List D) : (Df ds).length = ds.length := by simp [Df]
theorem R4 {ds : List D} {i : Nat} {d : D} (h : ds[i]? = some d) : (Df ds)[i]? = some (.tup [.int i, d]) := by
 have hi : i < ds.length := (amj.mp h).1
 unfold Df
 rw [aml, ana hi]
 show some (D.tup [.int i, ds.getD i .non]) = _
 rw [amJ, h]
 rfl
section
variable {X : Cx} {CL : Str -> Addr} {b : Bx} {δ δ1 : List (Option T)} {e : Expr} {ds : List D} {elts : List Expr} {kk : Nat} {pt pr pc : Pos}
theorem YY (hm : X.mg "enumerate" = none) (h : cY X CL b e δ (.sh (.lst ds)) δ1) (hg : Gl X "enumerate") (hs : starEach [e] X.env = (false, eval e X.env) :: starEach [] X.env := by exact cz rfl) : GIt X CL b (.Tuple elts kk pt) (.Call (.Name "enumerate" pr) [e] [] pc) δ (Df ds) δ1 := by
 refine ⟨_, YX hg hm (c9 eU gf hs) hs, fun H Z σ ts vs R S k => h H Z σ ts vs _ S fun v H1 Z1 z1 k1 S1 => ?_⟩
 obtain ⟨fp, gp, _, r, _, _⟩ := S1.rep
 cases r with
 | cons r _ =>
   cases r with
   | sh r =>
     cases r with
     | @lst a us _ hq rr =>
       have hl := rr.length
       refine ⟨a, us, rfl, S1.zh.seq hq, k _ _ ⟨Z1, z1, k1, S1.pop, fun i H2 s hi => ?_, fun i Z2 H2 x H' s1 s2 tp hi hy => ?_, fun H2 s => ?_⟩⟩
       . rw [zN] at hi
         have VD : i < us.length := by rw [← hl]; exact hi
         exact ⟨us, us[i], s.seq hq, amm VD⟩
       . rw [zN] at hi
         obtain ⟨T, y, hT, rfl, hx, rfl⟩ := hy
         obtain ⟨d, hd, rd⟩ := rr.Yw (hx us ((s1.trans s2).seq hq))
         have gr : Gk Z2 H2 _ _ := Gk.tup (xs := [.int i, y]) s2 tp hT
         exact ⟨_, _, R4 hd, gr, .tup (Bw.of bu) (.cons (.int _) (.cons ((rd.mono s1).mono gr.z) .nil))⟩
       . rw [zN]
         exact ⟨us, s.seq hq, by rw [← hl]; exact al9 _⟩
end
noncomputable def insI (x : Int) : List Int -> List Int
 | [] => [x]
 | y :: l => if x <= y then x :: y :: l else y :: insI x l
noncomputable def sortI : List Int -> List Int
 | [] => []
 | x :: l => insI x (sortI l)
theorem insI_perm (x : Int) : ∀ l, (insI x l).Perm (x :: l)
 | [] => .refl _
 | y :: l => by
   rw [insI]
   split
   . exact .refl _
   . exact ((insI_perm x l).cons y).trans (.swap x y l)
theorem sortI_perm : ∀ l, (sortI l).Perm l
 | [] => .refl _
 | x :: l => (insI_perm x (sortI l)).trans ((sortI_perm l).cons x)
theorem Fw (l : List Int) : (sortI l).length = l.length := (sortI_perm l).length_eq
theorem Bf (x : Int) : ∀ {l : List Int}, l.Pairwise (· <= ·) -> (insI x l).Pairwise (· <= ·)
 | [], _ => List.pairwise_singleton _ _
 | y :: l, h => by
   rw [insI]
   obtain ⟨h1, h2⟩ := anq.mp h
   split
   . rename_i e
     refine anq.mpr ⟨fun z hz => ?_, h⟩
     rcases al6.mp hz with rfl | hz
     . exact e
     . exact Int.le_trans e (h1 z hz)
   . rename_i e
     refine anq.mpr ⟨fun z hz => ?_, Bf x h2⟩
     rcases al6.mp ((insI_perm x l).mem_iff.mp hz) with rfl | hz
     . omega
     . exact h1 z hz
theorem xV : ∀ l, (sortI l).Pairwise (· <= ·)
 | [] => .nil
 | x :: l => Bf x (xV l)
theorem Bg : ∀ {a b : List Int}, a.Perm b -> a.Pairwise (· <= ·) -> b.Pairwise (· <= ·) -> a = b
 | [], b, p, _, _ => (List.nil_perm.mp p).symm
 | x :: a, [], p, _, _ => absurd p.length_eq (by simp)
 | x :: a, y :: b, p, ha, hb => by
   obtain ⟨a1, a2⟩ := anq.mp ha
   obtain ⟨b1, b2⟩ := anq.mp hb
   have e : x = y := by
     have h1 : x ∈ y :: b := p.mem_iff.mp al0
     have h2 : y ∈ x :: a := p.mem_iff.mpr al0
     rcases al6.mp h1 with e | h1
     . exact e
     . rcases al6.mp h2 with e | h2
       . exact e.symm
       . exact Int.le_antisymm (a1 y h2) (b1 x h1)
   subst e
   rw [Bg (List.Perm.cons_inv p) a2 b2]
theorem VZ {l z : List Int} (p : z.Perm l) (s : z.Pairwise (· <= ·)) : z = sortI l := Bg (p.trans (sortI_perm l).symm) s (xV l)
theorem xW : ∀ {us : List Value} {ns : List Int}, IntsAre us ns -> Vals (ns.map V.int) us
 | _, _, .nil => .nil
 | _, _, .cons n t r => .cons ⟨t, rfl⟩ (xW r)
section
variable {X : Cx}
theorem Gn : qp X (.builtin "sorted") (fun xs H Q => ∃ p ns, xs = [.ref p] /\ rV X.K H p (ns.map .int) /\ ns.length < 64 /\ ∀ l, H l = none -> Q (.ref l) (upd H l (.lst ((sortI ns).map .int)))) := by
 intro pins s σ H xs us Q I r h
 obtain ⟨p, ns, rfl, hq, hl, q⟩ := h
 obtain ⟨u, rfl, rx⟩ := vals1 r
 cases rx
 obtain ⟨its, r', pl, hz⟩ := I.list hq
 have hlen := r'.length
 rw [alR] at hlen
 refine sorted_ints pl.isList (intsAre_of r') (by omega) fun out ns' a1 a2 a3 => ?_
 obtain ⟨e, he⟩ := sortedAll_at s.heap its out
 have e2 : ns' = sortI ns := VZ a2 a3
 subst e2
 refine ⟨.ref (s.heap.objs.size + 1), _, I.laid (t' := s.toks) (fun _ _ => sortedAll_old) (Nat.le_succ _) (show iL X.prog X.w _ _ _ (.lst ((sortI ns).map .int)) from ⟨?_, out.toList, e, xW a1, ?_⟩), rfl, q _ (I.fS.fresh (Nat.le_succ _))⟩
 . rw [alR, Fw]
   rw [alR] at hz
   exact hz
 . simpa using he
theorem Gp : bootBuiltins "sorted" = some (.builtin "sorted") := by decide +kernel
end
section
variable {X : Cx} {CL : Str -> Addr} {b : Bx} {δ δ1 : List (Option T)} {e : Expr} {pos pp : Pos}
theorem Fx {K : PySem.W.Frag} {Z : Hp} {l : List Int} {us : List V} (h : aL K CL Z (l.map D.int) us) : us = l.map V.int := by
 refine aL.ind (P := fun ds us => ∀ l : List Int, ds = l.map D.int -> us = l.map V.int) ?_ ?_ h l rfl
 . intro l e
   cases l with
   | nil => rfl
   | cons => cases e
 . intro d v ds vs r _ i l e
   cases l with
   | nil => cases e
   | cons a l =>
     injection e with e1 e2
     subst e1
     rw [i l e2]
     cases r
     rfl
theorem ints_rep {K : PySem.W.Frag} {Z : Hp} : ∀ (l : List Int), aL K CL Z (l.map D.int) (l.map V.int)
 | [] => .nil
 | _ :: l => .cons (.int _) (ints_rep l)
theorem Mu {l : List Int} (hm : X.mg "sorted" = none) (h : dz X CL b e δ (.lst (l.map .int)) δ1) (hl : l.length < 64) (hg : Gl X "sorted") (hs : starEach [e] X.env = (false, eval e X.env) :: starEach [] X.env := by exact cz rfl) : cY X CL b (.Call (.Name "sorted" pp) [e] [] pos) δ (.lst (((sortI l).map D.int).map T.sh)) δ1 := fun H Z σ ts vs Q S k =>
 dw (n6 Gn hg hm Gp (c9 eU gf hs) (he := hs)) (h H Z σ ts vs _ S fun v H1 Z1 z1 k1 S1 r => by
   cases r with
   | @lst a us _ hq rr =>
     have := Fx rr
     subst this
     refine ⟨a, l, rfl, hq, hl, fun p hp => ?_⟩
     obtain ⟨c, S2⟩ := (cy.C3 (ints_rep (sortI l)) S1).zJ (g0 := []) (by simp) hp
     exact k _ _ _ z1 (k1.trans c) S2)
end
section
variable {X : Cx}
end
section
variable {X : Cx} {CL : Str -> Addr} {b : Bx} {δ δ1 : List (Option T)} {e : Expr} {pos pp : Pos}
end
section
variable {prog : Program} {w : World} {A : Around} {s : Shared}
end
section
variable {prog : Program} {w : World} {A : Around} {s : Shared}
end
section
variable {X : Cx}
end
section
variable {X : Cx} {CL : Str -> Addr} {b : Bx} {δ δ1 : List (Option T)} {e : Expr} {ds : List D} {pos pp pq pr : Pos}
end
theorem acs {α β : Type} {f : α -> β} {l : List α} {j : Nat} {d : β} (h : (l.map f)[j]? = some d) : ∃ x, d = f x /\ l[j]? = some x /\ x ∈ l /\ j < l.length /\ l.drop j = x :: l.drop (j + 1) /\ l.take (j + 1) = l.take j ++ [x] := by
 rw [aml] at h
 cases hx : l[j]? with
 | none => rw [hx] at h; cases h
 | some x =>
   rw [hx] at h
   cases h
   have hj : j < l.length := (amj.mp hx).1
   have e : l[j] = x := (amj.mp hx).2
   exact ⟨x, rfl, rfl, amr hx, hj, by rw [anz hj, e], by rw [anu, hx]; rfl⟩
theorem Ji (n : Nat) (l : List Int) : xK (n + 1) (.lst (l.map L3.D.int)) := .lst fun d hd => by
 obtain ⟨i, _, rfl⟩ := amn.mp hd
 exact .int _ _
noncomputable def D.at1 : L3.D -> L3.D
 | .tup (a :: _) => a
 | d => d
section
variable {X : Cx} {CL : Str -> Addr} {b : Bx} {δ δ1 : List (Option T)} {e : Expr} {elts : List Expr} {kk : Nat} {pt pr pc : Pos}
theorem R5 {α : Type} (f : α -> L3.D) (z : α) (l : List α) : Df (l.map f) = (List.range l.length).map fun (i : Nat) => L3.D.tup [.int i, f (l.getD i z)] := by
 unfold Df
 rw [alR]
 apply amP
 intro i hi
 have hi : i < l.length := amI.mp hi
 have : (l.map f).getD i .non = f (l.getD i z) := by
   rw [amJ, amJ, aml, amm hi]
   rfl
 rw [this]
theorem Jj {α : Type} {f : α -> L3.D} {l : List α} (z : α) (hm : X.mg "enumerate" = none) (h : cY X CL b e δ (.sh (.lst (l.map f))) δ1) (hg : Gl X "enumerate") (hs : starEach [e] X.env = (false, eval e X.env) :: starEach [] X.env := by exact cz rfl) :
   GIt X CL b (.Tuple elts kk pt) (.Call (.Name "enumerate" pr) [e] [] pc) δ ((List.range l.length).map fun (i : Nat) => L3.D.tup [.int i, f (l.getD i z)]) δ1 := by
 have := YY (elts := elts) (kk := kk) (pt := pt) (pr := pr) (pc := pc) hm h hg hs
 rwa [R5 f z l] at this
end
section
variable {K : PySem.W.Frag} {CL : Str -> Addr} {b : Bx} {H H' Z Z' : Hp} {δ δ' : List (Option T)} {σ σ' : L2.St} {ts tl : List T} {vs us : List V} {t : T} {v : V}
end
section
variable {X : Cx} {CL : Str -> Addr} {b : Bx} {δ δ1 δ2 : List (Option T)} {e e2 : Expr} {t : T} {tl Qg tt tt0 : List T} {D : dg} {pos pp pa pb : Pos}
end
section
variable {X : Cx} {CL : Str -> Addr} {b : Bx} {δ δ1 : List (Option T)} {e : Expr} {t : T} {i : Nat} {x : Str} {pos pp : Pos} {DD : dg} {eW : List Stmt}
end
section
variable {X : Cx}
end
section
variable {K : PySem.W.Frag} {CL : Str -> Addr} {b : Bx} {H Z : Hp} {δ : List (Option T)} {σ : L2.St} {ts tl : List T} {vs : List V} {t : T} {v : V}
end
section
variable {X : Cx} {CL : Str -> Addr} {b : Bx} {δ δ1 : List (Option T)} {e : Expr} {t : T} {tl Qg : List T} {D : dg} {pos pp pa pb pc : Pos} {kj i : Nat} {x : Str} {eW : List Stmt}
end
theorem Bh : ∀ (l r : List Int), PyData.eqvAll (D.j0 (l.map L3.D.int)) (D.j0 (r.map L3.D.int)) = decide (l = r)
 | [], [] => by rw [anw, D.j0, PyData.eqvAll]; rfl
 | [], _ :: _ => by rw [anw, amh, D.j0, D.j0, PyData.eqvAll]; rfl
 | _ :: _, [] => by rw [anw, amh, D.j0, D.j0, PyData.eqvAll]; rfl
 | x :: l, y :: r => by
   rw [amh, amh, D.j0, D.j0, PyData.eqvAll, Bh l r, D.toPy, D.toPy, PyData.eqv]
   by_cases e : x = y
   . subst e
     simp
   . have : (x == y) = false := by simpa using e
     rw [this, amy, alS (by simp [e])]
theorem Dg (l r : List Int) : Qh (.lst (l.map .int)) (.lst (r.map .int)) = decide (l = r) := by
 unfold Qh
 rw [D.toPy, D.toPy, PyData.eqv, Bh]
section
variable {X : Cx} {CL : Str -> Addr} {b : Bx} {δ δ1 : List (Option T)} {e : Expr} {pos pp : Pos}
end
section
variable {K : PySem.W.Frag} {CL : Str -> Addr} {b : Bx} {H Z : Hp} {δ : List (Option T)} {σ : L2.St} {ts tl tl2 : List T} {vs : List V} {v : V}
end
section
variable {X : Cx} {CL : Str -> Addr} {b : Bx} {δ δ1 : List (Option T)} {e : Expr} {tl Qg tl2 : List T} {D : dg} {pos pp pa pb : Pos} {i : Nat} {x : Str} {eW : List Stmt}
end
section
variable {X : Cx} {CL : Str -> Addr} {b : Bx} {e1 e2 : Expr} {δ δ1 δ2 : List (Option T)} {ds : List L3.D} {pos : Pos}
end
section
variable {X : Cx} {CL : Str -> Addr} {b : Bx} {δ : List (Option T)} {x : Str} {pos : Pos}
theorem Jk {k : Str} (hm : ∃ u, X.mg x = some (.str k u)) (hg : Gl X x) (hd : (x == ("__debug__" : Str)) = false := by decide) : cY X CL b (.Name x pos) δ (.sh (.str k)) δ := fun H Z σ ts vs Q S kk => by
 obtain ⟨u, hm⟩ := hm
 exact dw (FW (v := .str k) hg hm ⟨u, rfl⟩ hd) (kk _ H Z (.refl _) (.refl _) (S.push (.str k)))
theorem aL.V0 {K : PySem.W.Frag} {Z : Hp} : ∀ l : List Str, aL K CL Z (l.map .str) (l.map V.str)
 | [] => .nil
 | x :: l => .cons (.str x) (aL.V0 l)
noncomputable def GT (X : Cx) (x : Str) (l : List Str) : Prop := ∃ a, X.mg x = some (.ref a) /\ ∀ H : Hp, Bw X.K H a (l.map V.str)
theorem xX {l : List Str} (hm : GT X x l) (hg : Gl X x) (hd : (x == ("__debug__" : Str)) = false := by decide) : cY X CL b (.Name x pos) δ (.sh (.tup (l.map .str))) δ := fun H Z σ ts vs Q S kk => by
 obtain ⟨a, hm, hs⟩ := hm
 exact dw (FW (v := .ref a) hg hm rfl hd) (kk _ H Z (.refl _) (.refl _) (S.push (.tup (hs Z) (aL.V0 l))))
theorem Qs {l : List Str} {a : Addr} {od : Option Addr} {its : Array Value} {n : Nat} {sl : Array (Option Value)} (h1 : X.mg x = some (.ref a)) (h2 : X.K.lookup a = some ⟨.type "tuple", od, .seq its n, sl⟩) (h3 : its.size <= sizeLine) (h4 : Vals (l.map V.str) its.toList) : GT X x l :=
 ⟨a, h1, fun H => .inr ⟨_, its, n, h2, rfl, rfl, h3, h4⟩⟩
end
section
variable {X : Cx} {CL : Str -> Addr} {b : Bx} {e1 e2 e iter : Expr} {δ δ1 δ2 : List (Option T)} {pos : Pos}
noncomputable def pe (x y : Str) : Bool := !(Builtin.Str.occurrences y x 0 y.length 1).isEmpty
theorem Jl {i j : Str} (h1 : dz X CL b e1 δ (.str i) δ1) (h2 : dz X CL b e2 δ1 (.str j) δ2) (hm : behindInMarks .In e2 = false) : qM X CL b (.Compare e1 [.In] [e2] pos) δ (pe i j) δ2 /\ cY X CL b (.Compare e1 [.In] [e2] pos) δ (.sh (.bl (pe i j))) δ2 :=
 rX RA h1 h2 rfl rfl (fun _ _ q => ⟨i, j, rfl, rfl, q⟩) hm
theorem Bj {i j : Str} (h1 : dz X CL b e1 δ (.str i) δ1) (h2 : dz X CL b e2 δ1 (.str j) δ2) (hm : behindInMarks .NotIn e2 = false) : qM X CL b (.Compare e1 [.NotIn] [e2] pos) δ (!pe i j) δ2 /\ cY X CL b (.Compare e1 [.NotIn] [e2] pos) δ (.sh (.bl (!pe i j))) δ2 :=
 rX F0 h1 h2 rfl rfl (fun _ _ q => ⟨i, j, rfl, rfl, q⟩) hm
noncomputable def Its (x : Str) : It := ⟨fun i _ => i < x.cps.size, fun i H v H' => H' = H /\ ∃ c, x.cps[i]? = some c /\ v = .str ⟨#[c]⟩, fun i _ => x.cps.size <= i⟩
theorem R6 {P : Program} {w : World} {K : PySem.W.Frag} {tg : Expr} (x : Str) (t : Tok) (it : Addr) : Turn P w K tg (Its x) [it] it (fun i h => h.IsStrIter it "str_ascii_iterator" x t i) where
 mem := by simp
 obj := fun i h st b hb => by
   have e : b = it := by simpa using hb
   subst e
   obtain ⟨o, e, c, d⟩ := st
   exact ⟨o, e, fun v z => by rw [d] at z; cases z⟩
 keep := fun i h h' st k => by
   obtain ⟨o, e, r⟩ := st
   exact ⟨o, k it (by simp) o e, r⟩
 item := by
   intro X hP hw hK hc i pins s σ H E I hf st hg
   subst hP hw hK
   have hg : i < x.cps.size := hg
   obtain ⟨f0, f1, f2, f3, f4, f5⟩ := hf it (by simp)
   refine wpAny_pyNext_ascii_item st (c := x.cps[i]) (by simp [hg]) fun h' PK sb => ?_
   have I1 : Inv X pins σ H { s with heap := h', toks := s.toks + 1 } := I.turned (fun b o hb e => (sb.2 b hb).trans e) f0 f1 f3 f4 f5
   obtain ⟨o, e, c, d⟩ := id PK
   exact ⟨_, rfl, IC (s := { s with heap := h', toks := s.toks + 1 }) e c d (by decide) ⟨.str ⟨#[x.cps[i]]⟩, H, I1, ⟨_, rfl⟩, ⟨rfl, _, by simp [hg], rfl⟩, PK, fun b hb => (hf b hb).1⟩⟩
 done := by
   intro X hP hw hK hc i pins s σ H E I hf st hg
   subst hP hw hK
   have hg : x.cps.size <= i := hg
   obtain ⟨f0, f1, f2, f3, f4, f5⟩ := hf it (by simp)
   exact wpAny_pyNext_ascii_end (I.ok.hd hc) st (by simp [hg]) fun h' eb => ⟨rfl, I.turned (t' := s.toks) (fun b o hb e => eb b o hb e) f0 f1 f3 f4 f5⟩
 self := fun _ _ _ _ _ st h => wpAny_pyIter_striter_ascii st h
theorem R7 {P : Program} {w : World} {K : PySem.W.Frag} {tg : Expr} (x : Str) (t : Tok) (it : Addr) : Turn P w K tg (Its x) [it] it (fun i h => h.IsStrIter it "str_iterator" x t i) where
 mem := by simp
 obj := fun i h st b hb => by
   have e : b = it := by simpa using hb
   subst e
   obtain ⟨o, e, c, d⟩ := st
   exact ⟨o, e, fun v z => by rw [d] at z; cases z⟩
 keep := fun i h h' st k => by
   obtain ⟨o, e, r⟩ := st
   exact ⟨o, k it (by simp) o e, r⟩
 item := by
   intro X hP hw hK hc i pins s σ H E I hf st hg
   subst hP hw hK
   have hg : i < x.cps.size := hg
   obtain ⟨f0, f1, f2, f3, f4, f5⟩ := hf it (by simp)
   refine wpAny_pyNext_wide_item st (c := x.cps[i]) (by simp [hg]) fun h' PK sb => ?_
   have I1 : Inv X pins σ H { s with heap := h', toks := s.toks + 1 } := I.turned (fun b o hb e => (sb.2 b hb).trans e) f0 f1 f3 f4 f5
   obtain ⟨o, e, c, d⟩ := id PK
   exact ⟨_, rfl, IC (s := { s with heap := h', toks := s.toks + 1 }) e c d (by decide) ⟨.str ⟨#[x.cps[i]]⟩, H, I1, ⟨_, rfl⟩, ⟨rfl, _, by simp [hg], rfl⟩, PK, fun b hb => (hf b hb).1⟩⟩
 done := by
   intro X hP hw hK hc i pins s σ H E I hf st hg
   subst hP hw hK
   have hg : x.cps.size <= i := hg
   obtain ⟨f0, f1, f2, f3, f4, f5⟩ := hf it (by simp)
   exact wpAny_pyNext_wide_end (I.ok.hd hc) st (by simp [hg]) fun h' eb => ⟨rfl, I.turned (t' := s.toks) (fun b o hb e => eb b o hb e) f0 f1 f3 f4 f5⟩
 self := fun _ _ _ _ _ st h => wpAny_pyIter_striter_wide st h
noncomputable def ais (tl : TE) : TI := fun σ H R => tl σ H fun v H1 => ∃ x, v = .str x /\ R (Its x) H1
theorem acu {l : Expr} {tl : TE} {tg : Expr} (hl : PE X l tl) : PI X tg l (ais tl) := by
 intro pins s σ H R I h
 refine fk (hl pins s σ H _ I h) fun v s1 zz => ?_
 obtain ⟨y, H1, I1, r1, q1⟩ := zz
 obtain ⟨x, e, q⟩ := q1
 subst e
 obtain ⟨t, rfl⟩ := r1
 cases ha : x.cps.all (· < 128) with
 | true =>
   refine wpAny_pyIter_ascii ha ?_
   refine ⟨s1.heap.objs.size, [s1.heap.objs.size], _, _, H1, rfl, I1.kept (t' := s1.toks) fun b o e => al8 _ e, R6 x t _, ⟨_, amx _ rfl, rfl, rfl⟩, fun b hb => ?_, q⟩
   have e : b = s1.heap.objs.size := by simpa using hb
   subst e
   exact I1.FZ (al9 _) (I1.fS.fresh (al9 _))
 | false =>
   refine wpAny_pyIter_wide ha ?_
   refine ⟨s1.heap.objs.size, [s1.heap.objs.size], _, _, H1, rfl, I1.kept (t' := s1.toks) fun b o e => al8 _ e, R7 x t _, ⟨_, amx _ rfl, rfl, rfl⟩, fun b hb => ?_, q⟩
   have e : b = s1.heap.objs.size := by simpa using hb
   subst e
   exact I1.FZ (al9 _) (I1.fS.fresh (al9 _))
noncomputable def jo (x : Str) : List L3.D := x.cps.toList.map fun c => .str ⟨#[c]⟩
theorem Jm {K : PySem.W.Frag} {Z : Hp} (l : List Nat) : aL K CL Z (l.map fun c => L3.D.str ⟨#[c]⟩) (l.map fun c => V.str ⟨#[c]⟩) := by
 induction l with
 | nil => exact .nil
 | cons c l ih => exact .cons (.str _) ih
theorem V1 {x : Str} {tg : Expr} (h : cY X CL b iter δ (.sh (.str x)) δ1) : XZ X CL b tg iter δ (jo x) δ1 := by
 refine ⟨_, acu eU, fun H Z σ ts vs R S k => h H Z σ ts vs _ S fun v H1 Z1 z1 k1 S1 => ?_⟩
 obtain ⟨fp, gp, _, r, _, _⟩ := S1.rep
 cases r with
 | cons r _ =>
   cases r with
   | sh r =>
     cases r with
     | str =>
       refine ⟨x, rfl, k _ _ ⟨Z1, _, z1, k1, S1.pop, Jm _, fun i H2 s hi => ?_, fun i H2 y H' s hi hy => ⟨hy.1, ?_⟩, fun H2 s => ?_⟩⟩
       . show i < x.cps.size
         simpa [jo] using hi
       . obtain ⟨c, hc, rfl⟩ := hy.2
         simp [hc]
       . show x.cps.size <= (jo x).length
         simp [jo]
end
section
variable {X : Cx} {CL : Str -> Addr} {b : Bx} {e : Expr} {δ δ1 δ2 δ3 : List (Option T)} {pos p2 : Pos}
noncomputable def ait : V -> Option Int -> Option Int -> Hp -> VK -> Prop := fun x lo hi H Q => ∃ z, x = .str z /\ z.length <= sizeLine /\ Q (.str (Txt.slice z lo hi)) H
theorem acv : SlR X ait := by
 intro pins s σ H x v vl vu lo hi sl Q I rx hs pl pu h
 obtain ⟨z, rfl, hz, q⟩ := h
 obtain ⟨t, rfl⟩ := rx
 obtain ⟨o, ho, hc, hd⟩ := hs
 have fin : ∀ t' k, EP X pins σ Q (.str (Txt.slice z lo hi) t') { s with toks := k } := fun t' k => ⟨.str _, H, I.tok k, ⟨t', rfl⟩, q⟩
 refine ⟨"str", _, F.slot_str_getitem.lookup, typeIs_str _ _ _, ?_⟩
 cases pl with
 | none =>
   cases pu with
   | none => exact anm (l := none) (u := none) (st := none) ⟨o, ho, hc, hd⟩ rfl (post_val_or_str ⟨amS (Txt.slice_le z _ _) hz, fin⟩)
   | int j uj => exact anm (l := none) (u := some (j, uj)) (st := none) ⟨o, ho, hc, hd⟩ rfl (post_val_or_str ⟨amS (Txt.slice_le z _ _) hz, fin⟩)
 | int i ui =>
   cases pu with
   | none => exact anm (l := some (i, ui)) (u := none) (st := none) ⟨o, ho, hc, hd⟩ rfl (post_val_or_str ⟨amS (Txt.slice_le z _ _) hz, fin⟩)
   | int j uj => exact anm (l := some (i, ui)) (u := some (j, uj)) (st := none) ⟨o, ho, hc, hd⟩ rfl (post_val_or_str ⟨amS (Txt.slice_le z _ _) hz, fin⟩)
theorem R8 {lo hi : Option Expr} {l h : Option Int} {z : Str} (h1 : dz X CL b e δ (.str z) δ1) (hz : z.length <= sizeLine) (h2 : TOv X CL b lo δ1 l δ2) (h3 : TOv X CL b hi δ2 h δ3) : cY X CL b (.Subscript e (.Slice lo hi none p2) pos) δ (.sh (.str (Txt.slice z l h))) δ3 := fun H Z σ ts vs Q S k => by
 obtain ⟨t2, po2, w2⟩ := h2
 obtain ⟨t3, po3, w3⟩ := h3
 refine dw (II acv eU po2 po3) (h1 H Z σ ts vs _ S fun v H1 Z1 z1 k1 S1 r => w2 H1 Z1 σ ts vs _ S1 fun H2 Z2 z2 k2 S2 => w3 H2 Z2 σ ts vs _ S2 fun H3 Z3 z3 k3 S3 => ?_)
 exact ⟨z, r.sc rfl, hz, k _ H3 Z3 (z1.trans (z2.trans z3)) (k1.trans (k2.trans k3)) (S3.push (.str _))⟩
end
end L3
namespace L3
open PySem PySem.Spec PyProof.Rows L2 PySem.Builtin PySem.Builtin.Str
section
variable {X : Cx} {CL : Str -> Addr} {b : Bx} {e o : Expr} {δ δ1 δ2 : List (Option T)} {pos apos : Pos}
theorem Vals.strsFrom : ∀ (k : Nat) (l : List Str), Vals (l.map V.str) (strsFrom k l)
 | _, [] => .nil
 | k, x :: l => .cons ⟨_, rfl⟩ (Vals.strsFrom (k + 1) l)
noncomputable def Gq (x y : Str) : Bool := !(y.length == 0) && !(decide (x.length < y.length) || decide (strKind x < strKind y)) && !(occurrences x y 0 x.length (x.length + 1)).isEmpty
noncomputable def splitM (x y : Str) : List Str := partsBetween x (occurrences x y 0 x.length (x.length + 1)) y.length
noncomputable def acw : V -> List V -> Hp -> VK -> Prop := fun x vs H Q => ∃ z y, x = .str z /\ vs = [.str y] /\ Gq z y = true /\ z.length <= sizeLine /\ (splitM z y).length <= sizeLine /\ ∀ p, H p = none -> Q (.ref p) (upd H p (.lst ((splitM z y).map V.str)))
theorem V2 : MtR X "str.split" acw := by
 intro pins s σ H x vs v us Q I rx rv h
 obtain ⟨z, y, rfl, rfl, fS, hz, hp, q⟩ := h
 obtain ⟨t, rfl⟩ := rx
 obtain ⟨u, rfl, ru⟩ := rv.one
 obtain ⟨t', rfl⟩ := ru
 unfold Gq at fS
 simp only [ame, anI] at fS
 obtain ⟨⟨h1, h2⟩, h3⟩ := fS
 refine call_meets F.slot_str_split (typeIs_str _ _ _) F.entry_str_split (F.args_str_split_2 _ _) (meets_str_split_sep z y t t' h2 h1 h3 hz hp) ?_
 exact ⟨.ref _, _, I.aeP (its := strsFrom s.toks (splitM z y)) (Vals.strsFrom _ _) (by rw [alR]; exact hp), rfl, q _ I.fresh⟩
theorem V3 {z y : Str} {l : List Str} (h1 : dz X CL b o δ (.str z) δ1) (h2 : dz X CL b e δ1 (.str y) δ2) (fS : Gq z y = true) (hz : z.length <= sizeLine) (hl : splitM z y = l) (hp : l.length <= sizeLine)
   (mw : attributeBase o "split" X.env (eval o X.env) = eval o X.env := by rfl)
   (C1 : ((backTo pos (starEach [e] X.env)).all (fun x => !x.1) && (backToKw pos (keywordEach [] X.env)).all (fun x => x.1.isSome) && decide ([e].length + ([] : List Keyword).length + (if ([] : List Keyword).isEmpty then 0 else 1) < 30)) = true := by rfl)
   (hline : (apos.endLine == pos.line) = true := by rfl) (hs : starEach [e] X.env = (false, eval e X.env) :: starEach [] X.env := by exact cz rfl) :
   cY X CL b (.Call (.Attribute o "split" apos) [e] [] pos) δ (.lst ((l.map L3.D.str).map T.sh)) δ2 := fun H Z σ ts vs Q S k =>
 dw (P1 PySem.F.plainAttrs_str PySem.F.slot_str_split PySem.F.type_str_split V2 eU (c9 eU gf hs) mw C1 hline hs rfl)
   (h1 H Z σ ts vs _ S fun v1 H1 Z1 z1 k1 S1 r1 => by
     have e1 := r1.sc rfl
     subst e1
     refine ⟨rfl, h2 H1 Z1 σ ts vs _ S1 fun v2 H2 Z2 z2 k2 S2 r2 => ?_⟩
     have e2 := r2.sc rfl
     subst e2
     subst hl
     refine ⟨z, y, rfl, rfl, fS, hz, hp, fun p hpn => ?_⟩
     have rc : aL X.K CL Z2 ((splitM z y).map L3.D.str) ((splitM z y).map V.str) := aL.V0 _
     obtain ⟨c, S4⟩ := (cy.C3 rc S2).zJ (g0 := []) (by simp) hpn
     exact k _ _ _ (z1.trans z2) (k1.trans (k2.trans c)) S4)
end
end L3
namespace L3
open PySem PySem.Spec PyProof.Rows L2
section
variable {X : Cx} {CL : Str -> Addr} {b : Bx} {δ : List (Option T)} {pos pp : Pos} {x : Str}
theorem c0 {k n : Nat} {A : Type} {arg : A -> List L3.D} {Pre : A -> Prop} {res : A -> T} (a : A) (F : Fc X CL x k n arg Pre res) (hg : Gl X x) (ha : arg a = []) (hp : Pre a) (hc : (res a).clean = true) (hn : (arg a).length = n := by rfl)
   (CZ : (x == ("__debug__" : Str)) = false := by decide) : cY X CL b (.Call (.Name x pp) [] [] pos) δ (res a) δ := by
 obtain ⟨f, fd, ps, F1, m, kk, bb⟩ := F.ex
 intro H Z σ ts vs Q S k
 refine dw (U8 F1 F.room hg m kk bb .nil P5 CZ) ?_
 refine ⟨H, a, .refl _, fun _ _ q _ => q, by rw [ha]; exact .nil, hn, hp, S.Vt, fun v H' W' fp hh ww wh nw tp rt nd own => ?_⟩
 obtain ⟨Z', z', S'⟩ := S.back hh S.zh ww wh nw tp rt nd own (.inr hc)
 exact k v H' Z' z' hh S'
end
noncomputable def acy : Key -> D
 | .inl i => .int i
 | .inr x => .str x
noncomputable def Gr (bH : List (Key × D)) (k : Key) : Option D := (bH.find? fun kv => decide (kv.1 = k)).map (·.2)
noncomputable def Dh (bH : List (Key × D)) (k : Key) (d : D) : List (Key × D) :=
 if (bH.any fun kv => decide (kv.1 = k)) = true then bH.map (fun kv => if kv.1 = k then (kv.1, d) else kv) else bH ++ [(k, d)]
section
variable {K : PySem.W.Frag} {CL : Str -> Addr} {b : Bx} {H Z : Hp} {δ : List (Option T)} {σ : L2.St} {ts tl : List T} {vs : List V} {t : T} {v : V} {d : D} {bH : List (Key × D)} {gs : List (Key × V)}
theorem cg.length {bH : List (Key × D)} {gs : List (Key × V)} (h : cg K CL Z bH gs) : bH.length = gs.length :=
 cg.ind (P := fun bH gs => bH.length = gs.length) rfl (fun _ _ i => congrArg (· + 1) i) h
theorem cg.val {k : Key} : ∀ {bH : List (Key × D)} {gs : List (Key × V)}, cg K CL Z bH gs -> (Gr bH k = none /\ vF gs k = none) \/ ∃ d v, Gr bH k = some d /\ vF gs k = some v /\ bS K CL Z d v
 | _, _, .nil => .inl ⟨rfl, rfl⟩
 | _, _, .cons (x := x) (d := d) (v := v) h r => by
   by_cases e : x = k
   . exact .inr ⟨d, v, by simp [Gr, e], xS e, h⟩
   . rcases cg.val (k := k) r with ⟨h1, h2⟩ | ⟨d', v', h1, h2, h3⟩
     . exact .inl ⟨by simpa [Gr, e] using h1, by rw [sF e]; exact h2⟩
     . exact .inr ⟨d', v', by simpa [Gr, e] using h1, by rw [sF e]; exact h2, h3⟩
theorem cg.any {k : Key} : ∀ {bH : List (Key × D)} {gs : List (Key × V)}, cg K CL Z bH gs -> (bH.any fun kv => decide (kv.1 = k)) = (gs.any fun kv => decide (kv.1 = k))
 | _, _, .nil => rfl
 | _, _, .cons _ r => by rw [am3, am3, cg.any r]
theorem cg.repl {k : Key} (q : bS K CL Z d v) : ∀ {bH : List (Key × D)} {gs : List (Key × V)}, cg K CL Z bH gs -> cg K CL Z (bH.map (fun kv => if kv.1 = k then (kv.1, d) else kv)) (gs.map (fun kv => if kv.1 = k then (kv.1, v) else kv))
 | _, _, .nil => .nil
 | _, _, .cons (x := x) h r => by
   rw [amh, amh]
   by_cases e : x = k
   . rw [alW e, alW e]; exact .cons q (cg.repl q r)
   . rw [alT e, alT e]; exact .cons h (cg.repl q r)
theorem cg.snoc {k : Key} (q : bS K CL Z d v) : ∀ {bH : List (Key × D)} {gs : List (Key × V)}, cg K CL Z bH gs -> cg K CL Z (bH ++ [(k, d)]) (gs ++ [(k, v)])
 | _, _, .nil => .cons q .nil
 | _, _, .cons h r => .cons h (cg.snoc q r)
theorem cg.put {k : Key} (q : bS K CL Z d v) (r : cg K CL Z bH gs) : cg K CL Z (Dh bH k d) (putK gs k v) := by
 unfold Dh putK
 rw [r.any]
 split
 . exact r.repl q
 . exact r.snoc q
theorem bS.key {k : Key} (r : bS K CL Z (acy k) v) : v = kV k := by
 cases k with
 | inl i => exact r.sc rfl
 | inr x => exact r.sc rfl
theorem cy.acz {p : Addr} (S : cy K CL b H Z δ σ ts vs) (hp : H p = none) : aM H (upd H p (.dK [])) /\ cy K CL b (upd H p (.dK [])) Z δ σ (.ve [] :: ts) (.ref p :: vs) := by
 obtain ⟨fp, gp, e, r, nd, k⟩ := S.rep
 have zp : Z p = none := S.zh.free hp
 have sh : aM H (upd H p (.dK [])) := aM.upd hp
 have keep : ∀ a ∈ fp ++ gp, a ≠ p := fun a ha => by
   have : ∃ o, H a = some o := by
     rcases al7.mp ha with h | h
     . exact e.there a h
     . exact r.there a h
   obtain ⟨o, q⟩ := this
   exact bX q hp
 refine ⟨sh, ⟨⟨fp, [p] ++ gp, e.mono (.refl _) (fun a ha => aK (keep a (al4 _ ha))), .cons (.ve bu .nil) (r.mono (.refl _) fun a ha => aK (keep a (by simp [ha]))), ?_, fun a ha => ?_⟩, S.bh.trans sh, S.zz, S.zh.trans sh, S.new, fun a o q i => ?_, S.tab⟩⟩
 . refine (amU (l₁ := fp) (l₂ := gp) (a := p)).nodup_iff.mpr (amO.mpr ⟨fun h => keep p h rfl, nd⟩)
 . rcases al6.mp ((amU (l₁ := fp) (l₂ := gp) (a := p)).mem_iff.mp ha) with h | h
   . subst h; exact ⟨zp, S.bh.free hp⟩
   . exact k a h
 . by_cases ha : a = p
   . subst ha; rw [bu] at q; cases q; cases i
   . rw [aK ha] at q; exact S.tp a o q i
theorem cy.acA {i : Nat} (k : Key) (S : cy K CL b H Z δ σ (.sh d :: ts) (v :: vs)) (hi : δ[i]? = some (some (.ve bH))) :
   ∃ a gs, σ[i]? = some (some (.ref a)) /\ H a = some (.dK gs) /\ gs.length = bH.length /\ cy K CL b (upd H a (.dK (putK gs k v))) Z (δ.set i (some (.ve (Dh bH k d)))) σ ts vs := by
 obtain ⟨fp, gp, e, r, nd, kk⟩ := S.rep
 obtain ⟨v0, f1, f2, f3, hv, sG, rt, put, _⟩ := e.get hi
 subst sG
 cases rt with
 | @ve a gs _ ha rs =>
   cases r with
   | @cons _ _ _ _ ft gr q1 q2 =>
     cases q1 with
     | sh q1 =>
       have ne : ∀ c ∈ (f1 ++ f3) ++ gr, c ≠ a := fun c hc e => by
         subst e
         have hp : ((f1 ++ ([c] ++ f3)) ++ ([] ++ gr)).Perm (c :: ((f1 ++ f3) ++ gr)) := by
           rw [anp, List.singleton_append]
           exact (amU.append_right _)
         exact (amO.mp (hp.nodup_iff.mp nd)).1 hc
       refine ⟨a, gs, hv, ha, rs.length.symm, ?_⟩
       have r1 : dN K CL (upd H a (.dK (putK gs k v))) Z (.ve (Dh bH k d)) (.ref a) [a] := .ve bu (rs.put q1)
       have e2 := put (H' := upd H a (.dK (putK gs k v))) (.refl _) (fun c hc => aK (ne c (by
         rcases al7.mp hc with h | h
         . simp [h]
         . simp [h]))) r1
       rw [jl hv] at e2
       exact S.VM rfl kk (by simp) e2 (q2.mono (.refl _) fun c hc => aK (ne c (by simp [hc]))) nd fun c hc => hc
end
section
variable {X : Cx} {CL : Str -> Addr} {b : Bx} {δ δ1 δ2 : List (Option T)} {e e1 e2 : Expr} {t : T} {d : L3.D} {D : dg} {pos pp ps : Pos} {i : Nat} {x : Str} {eW : List Stmt} {bH : List (Key × L3.D)} {k : Key}
theorem YZ : cY X CL b (.Dict [] [] pos) δ (.ve []) δ := fun H Z σ ts vs Q S kk => dw Vq fun p hp => by
 obtain ⟨c, S1⟩ := S.acz hp
 exact kk _ _ Z (.refl _) c S1
theorem acB (k : Key) (hu : X.A.units + 64 < cLine) (n : Vn X i x) (h : cY X CL b e δ (.sh d) δ1) (h2 : dz X CL b e2 δ1 (acy k) δ1) (h1 : δ1[i]? = some (some (.ve bH))) (hl : bH.length <= 1000000) (kk : gw X CL b eW (δ1.set i (some (.ve (Dh bH k d)))) D)
   (hs : swapsWith e (some (.Subscript (.Name x pp) e2 ps)) pos.line X.env = pure false := by rfl) :
   gw X CL b (.Assign [.Subscript (.Name x pp) e2 ps] e pos :: eW) δ D := dD fun H Z σ ts vs E S M =>
 zI (Yv (by omega) (nY n.hi n.hv n.hd n.qo) eU eU hs) (h H Z σ ts vs _ S fun v H1 Z1 z1 k1 S1 => by
   obtain ⟨v0, e0, _⟩ := S1.look h1
   refine ⟨v0, e0, h2 H1 Z1 σ _ _ _ S1 fun v2 H2 Z2 z2 k2 S2 r2 => ?_⟩
   obtain ⟨a, gs, ea, ha, hg, S3⟩ := S2.acA k h1
   rw [e0] at ea
   cases ea
   exact ⟨a, _, rfl, by rw [r2.key]; exact Vo.k ha (by rw [hg]; exact anB hl (by rw [anb]; decide)), M.nx _ σ _ Z2 (z1.trans z2) S3 kk⟩)
theorem V4 {Z : Hp} {gs : List (Key × V)} {K : PySem.W.Frag} (rr : cg K CL Z bH gs) : (vF gs k).isSome = (Gr bH k).isSome := by
 rcases rr.val (k := k) with ⟨h0, h1⟩ | ⟨d', v', h0, h1, _⟩
 . rw [h0, h1]; rfl
 . rw [h0, h1]; rfl
end
section
variable {K : PySem.W.Frag} {CL : Str -> Addr} {b : Bx} {H Z : Hp} {δ : List (Option T)} {σ : L2.St} {ts : List T} {vs : List V} {t : T} {v w : V} {f c : Str} {UK : List (Str × T)}
theorem fq.Y0 {ft : List Addr} (rt : dN K CL H Z t v ft) : ∀ {Jo : List (Str × T)} {gs : List (Str × V)} {fp : List Addr}, fq K CL H Z (Jo ++ (f, .sh (.val v)) :: UK) gs fp -> ∃ Qk, fq K CL H Z (Jo ++ (f, t) :: UK) gs Qk /\ Qk.Perm (fp ++ ft)
 | [], _, _, r => by
   cases r with
   | @cons _ _ v' _ _ f1 gp h r =>
     cases h with
     | sh h =>
       cases h
       exact ⟨ft ++ gp, .cons rt r, amB⟩
 | (y, u) :: Jo, _, _, r => by
   cases r with
   | @cons _ _ v' _ _ f1 gp h r =>
     obtain ⟨Qk, r', p⟩ := fq.Y0 rt (Jo := Jo) r
     refine ⟨f1 ++ Qk, .cons h r', ?_⟩
     rw [alZ]
     exact p.append_left f1
theorem cy.Y0 {Jo : List (Str × T)} (S : cy K CL b H Z δ σ (.ins c (Jo ++ (f, .sh (.val v)) :: UK) :: t :: ts) (w :: v :: vs)) : cy K CL b H Z δ σ (.ins c (Jo ++ (f, t) :: UK) :: ts) (w :: vs) := by
 obtain ⟨fp, gp, e, r, nd, k⟩ := S.rep
 cases r with
 | @cons _ _ _ _ g1 g2 r1 r2 =>
   cases r2 with
   | @cons _ _ _ _ g3 g4 r3 r4 =>
     cases r1 with
     | @ins a dx _ gs _ fp1 ha rf =>
       obtain ⟨Qk, rf', p⟩ := fq.Y0 r3 rf
       have pm : (fp ++ ((a :: Qk) ++ g4)).Perm (fp ++ ((a :: fp1) ++ (g3 ++ g4))) := by
         refine amt fp ?_
         rw [← alZ]
         refine List.Perm.append_right g4 ?_
         rw [ami]
         exact List.Perm.cons a p
       exact ⟨⟨fp, (a :: Qk) ++ g4, e, .cons (.ins ha rf') r4, pm.nodup_iff.mpr nd, fun c hc => k c (pm.mem_iff.mp hc)⟩, S.bh, S.zz, S.zh, S.new, S.tp, S.tab⟩
end
noncomputable def PAv (X : Cx) (CL : Str -> Addr) (b : Bx) (es : List Expr) (δ : List (Option T)) (dv : V -> List D) (t : T) (δ' : List (Option T)) : Prop :=
 ∀ (H Z : Hp) (σ : L2.St) (ts : List T) (vs : List V) (Q : List V -> Hp -> Prop), cy X.K CL b H Z δ σ ts vs →
   (∀ us H' Z' v, aM Z Z' -> aM H H' -> cy X.K CL b H' Z' δ' σ (t :: ts) (v :: vs) -> aL X.K CL H' (dv v) us -> Q us H') -> IU X es σ H Q
theorem T.Di {f : Str} {v : V} {UK : List (Str × T)} (h2 : T.bY UK = true) : ∀ {Jo : List (Str × T)}, T.bY Jo = true -> T.bY (Jo ++ (f, .sh (.val v)) :: UK) = true
 | [], _ => by rw [anp, T.bY, h2]; rfl
 | (x, t) :: Jo, h => by
   rw [T.bY, ame] at h
   rw [ami, T.bY, h.1, T.Di h2 h.2]; rfl
section
variable {X : Cx} {CL : Str -> Addr} {b : Bx} {δ δ1 δ2 : List (Option T)} {e o : Expr} {es : List Expr} {pos pp apos : Pos} {t : T} {ds : List D} {d : D} {dv : V -> List D}
theorem V5 (h : cY X CL b e δ t δ1) (r : Vw X CL b es δ1 ds δ2) (hs : notStar e = true := by rfl) : PAv X CL b (e :: es) δ (fun v => .val v :: ds) t δ2 := fun H Z σ ts vs Q S k =>
 RT (c9 eU XU (cz hs)) (h H Z σ ts vs _ S fun v H1 Z1 z1 k1 S1 => r H1 Z1 σ _ _ _ S1 fun us H2 Z2 z2 k2 S2 r2 => k (v :: us) H2 Z2 v (z1.trans z2) (k1.trans k2) S2 (.cons (.val v) r2))
theorem Jp (h : dz X CL b e δ d δ1) (r : PAv X CL b es δ1 dv t δ2) (hs : notStar e = true := by rfl) : PAv X CL b (e :: es) δ (fun v => d :: dv v) t δ2 := fun H Z σ ts vs Q S k =>
 RT (c9 eU XU (cz hs)) (h H Z σ ts vs _ S fun v H1 Z1 z1 k1 S1 r1 => r H1 Z1 σ ts vs _ S1 fun us H2 Z2 v2 z2 k2 S2 r2 => k (v :: us) H2 Z2 v2 (z1.trans z2) (k1.trans k2) S2 (.cons (r1.mono k2) r2))
variable {A : Type} {k n : Nat} {arg : A -> List D} {Pre : A -> Prop} {x c m f : Str}
theorem mkP {res : A -> List (Str × T)} (a : V -> A) {Jo UK : List (Str × T)} (F : Fm X CL x k n arg Pre res) (hg : Gl X x) (h : PAv X CL b (e :: es) δ dv t δ1) (ha : ∀ v, arg (a v) = dv v) (hp : ∀ v, Pre (a v)) (hr : ∀ v, res (a v) = Jo ++ (f, .sh (.val v)) :: UK) (hc : T.bY Jo = true) (hc2 : T.bY UK = true) (hn : ∀ v, (arg (a v)).length + 1 = n := by exact fun _ => rfl)
   (CZ : (x == ("__debug__" : Str)) = false := by decide) (he : starEach (e :: es) X.env = (false, eval e X.env) :: starEach es X.env := by exact cz rfl) (hpl : (backTo pos (starEach es X.env)).any (·.1) = false := by rfl) :
   cY X CL b (.Call (.Name x pp) (e :: es) [] pos) δ (.ins x (Jo ++ (f, t) :: UK)) δ1 := fun H Z σ ts vs Q S kk => by
 obtain ⟨f', fd, ps, M, F1, hm, hb⟩ := F.ex
 exact dw (PZ M F1 F.room hg hm hb .nil P5 XU CZ he hpl) (h H Z σ ts vs _ S fun us H1 Z1 v z1 k1 S1 r y dx hx hdx ne => by
   rw [amH]
   refine ⟨H1, H1, a v, y, dx, us, rfl, hx, hdx, ne, rfl, .refl _, fun _ _ q _ => q, by rw [ha]; exact r, hn v, hp v, S1.Vt, fun H' W' fp hh ww wh nw tp rt nd own => ⟨rfl, ?_⟩⟩
   obtain ⟨Z', z', S'⟩ := S1.back hh S1.zh ww wh nw tp rt nd own (.inr (by rw [T.clean, hr]; exact T.Di hc2 hc))
   rw [hr] at S'
   exact kk _ H' Z' (z1.trans z') (k1.trans hh) S'.Y0)
end
section
variable {X : Cx}
theorem Jq (f : Bool -> Bool -> Bool) (bs : List Bool) : (List.range bs.length).all (fun i => bs.getD i true) = bs.all id := by
 induction bs with
 | nil => rfl
 | cons x bs ih =>
   rw [amT, List.range_succ_eq_map, amX, amX, anC]
   have : ((fun i => (x :: bs).getD i true) ∘ Nat.succ) = fun i => bs.getD i true := by funext i; simp
   rw [this, ih]
   rfl
theorem V6 {bs : List Bool} {its : List Value} (r : Vals (bs.map V.bl) its) {i : Nat} {v : Value} (h : its.toArray[i]? = some v) : v = .bool (bs.getD i true) := by
 have h' : its[i]? = some v := by simpa using h
 have hl := r.length
 have hi : i < (bs.map V.bl).length := by
   rw [hl]
   exact (amj.mp h').1
 obtain ⟨u, hu, ru⟩ := r.get (amm hi)
 rw [h'] at hu
 cases hu
 have VD : i < bs.length := by simpa using hi
 have e : bs.getD i true = bs[i] := by simp [VD]
 rw [e]
 rw [List.getElem_map] at ru
 exact ru
theorem R9 (hc : X.calm = true) : qp X (.builtin "all") (fun xs H Q => ∃ (p : Addr) (bs : List Bool), xs = [.ref p] /\ rV X.K H p (bs.map V.bl) /\ Q (.bl (bs.all id)) H) := by
 intro pins s σ H xs us Q I r h
 obtain ⟨p, bs, rfl, hq, q⟩ := h
 obtain ⟨u, rfl, rx⟩ := vals1 r
 cases rx
 obtain ⟨its, r', pl, hz⟩ := I.list hq
 have hl := pl.isList
 have EK : p < s.heap.objs.size := by obtain ⟨o, e, _⟩ := id hl; exact amb e
 have hlen : its.toArray.size = bs.length := by rw [amg, ← r'.length, alR]
 refine call_all_walk (wpAny_pyIter_list hl ⟨_, _, _, _, _, _, fun i => bs.getD i true, rfl, Walks.list (A := X.A.in1) (show X.A.in1.handled = none from I.ok.hd hc) _ p (amA EK) its.toArray, ⟨⟨_, amx _ rfl, rfl, rfl⟩, hl.at fun o e => al8 _ e⟩, fun i v s Q E hP hQ => ?_, fun h' tk hk => ?_⟩)
 . rw [V6 r' hP]; exact am0 hQ
 . rw [hlen, Jq (fun a _ => a)]
   refine ⟨.bl _, H, I.kept (t' := tk) (fun b o e => hk b o (fun z => ?_) (al8 _ e)), rfl, q⟩
   have := anr.mp z
   subst this
   exact absurd (amb e) (ano _)
theorem Sb : bootBuiltins "all" = some (.builtin "all") := by decide +kernel
theorem Jr {K : PySem.W.Frag} {CL : Str -> Addr} {H : Hp} : ∀ {l : List Bool} {us : List V}, aL K CL H (l.map D.bl) us -> us = l.map V.bl
 | [], _, r => by
   have r' : aL K CL H [] _ := r
   cases r'; rfl
 | y :: l, _, r => by
   have r' : aL K CL H (D.bl y :: l.map D.bl) _ := r
   cases r' with
   | cons r1 r2 => rw [r1.sc rfl, Jr r2]; rfl
end
section
variable {X : Cx} {CL : Str -> Addr} {b : Bx} {δ δ1 : List (Option T)} {e : Expr} {pos pp : Pos} {l : List Bool}
theorem Dj (g : Gx X) (hm : X.mg "all" = none) (h : dz X CL b e δ (.lst (l.map .bl)) δ1) (hg : Gl X "all") (hs : starEach [e] X.env = (false, eval e X.env) :: starEach [] X.env := by exact cz rfl) : cY X CL b (.Call (.Name "all" pp) [e] [] pos) δ (.sh (.bl (l.all id))) δ1 := fun H Z σ ts vs Q S k =>
 dw (n6 (R9 g.calm) hg hm Sb (c9 eU gf hs) (he := hs)) (h H Z σ ts vs _ S fun v H1 Z1 z1 k1 S1 r => by
   cases r with
   | @lst a us _ hq rr =>
     have := Jr rr
     subst this
     exact ⟨a, l, rfl, hq, k _ H1 Z1 z1 k1 (S1.push (.bl _))⟩)
end
namespace Rv
theorem Sd : PySem.Slot "reversed" "__init__" "object.__init__" :=
 .of (owner := "object") (n := "__init__") (by rw [typeLookup_type, builtinLookup_eq_fast]; kernel_rfl) (by decide +kernel) (by decide +kernel) (by decide +kernel)
   (by first | exact .inl (by decide +kernel) | exact .inr (by decide +kernel)) (by rw [isSubtype_type]; kernel_rfl)
theorem called : TypeCalled "reversed" "reversed.__new__" "object.__init__" :=
 ⟨by decide +kernel, by decide +kernel, ⟨_, _, PySem.F.mro_reversed⟩, PySem.F.made_reversed, by decide +kernel, PySem.F.sub_reversed_self, Sd⟩
noncomputable def obj (t : Addr) (i : Int) : Obj := { cls := .type "reversed", data := .fields #[.ref t, rawInt i] }
noncomputable def Is (h : Heap) (a t : Addr) (i : Int) : Prop := ∃ o, h.get? a = some o /\ o.cls = .type "reversed" /\ o.data = .fields #[.ref t, rawInt i]
section
variable {prog : Program} {w : World} {A : Around} {E : Value -> Shared -> Prop} {s : Shared}
end
end Rv
namespace Rv
section
variable {prog : Program} {w : World} {A : Around} {E : Value -> Shared -> Prop} {s : Shared}
end
end Rv
section
variable {X : Cx} {tg : Expr}
end
section
variable {X : Cx} {CL : Str -> Addr} {b : Bx} {δ δ1 : List (Option T)} {e : Expr} {ds : List D} {tg : Expr} {pr pc : Pos}
end
section
variable {X : Cx} {CL : Str -> Addr} {b : Bx} {δ δ1 : List (Option T)} {e : Expr} {t : T} {tl Qg tt tt0 : List T} {D : dg} {pos pp pa pb : Pos}
variable {eW : List Stmt} {i i2 : Nat} {x y : Str} {DD : dg}
end
section
variable {X : Cx} {CL : Str -> Addr} {b : Bx} {δ δ1 : List (Option T)} {e : Expr} {ds : List D} {tg : Expr} {pr pc : Pos} {l : Bool}
end
section
variable {X : Cx} {CL : Str -> Addr} {b : Bx} {δ : List (Option T)}
noncomputable def constInt : Expr -> Option Int
 | .Constant (.int i) _ _ => some i
 | .UnaryOp .USub (.Constant (.int i) _ _) _ => some (-i)
 | _ => none
noncomputable def zO : List Expr -> Option (List Int)
 | [] => some []
 | e :: es => (constInt e).bind fun x => (zO es).map (x :: ·)
theorem Se {e : Expr} {x : Int} (h : constInt e = some x) : cY X CL b e δ (.sh (.int x)) δ := by
 unfold constInt at h
 split at h
 . cases h; exact ai
 . cases h; exact dh (ah ai)
 . cases h
theorem Js {e : Expr} {x : Int} (h : constInt e = some x) : notStar e = true := by
 unfold constInt at h
 split at h
 . rfl
 . rfl
 . cases h
theorem Cr : ∀ {es : List Expr} {l : List Int}, zO es = some l -> P8 X CL b es δ ((l.map D.int).map T.sh) δ
 | [], l, h => by
   have e : l = [] := (amw h).symm
   subst e
   exact dU
 | e :: es, l, h => by
   rw [zO] at h
   obtain ⟨x, hx, h⟩ := Option.bind_eq_some_iff.mp h
   obtain ⟨l', hl, rfl⟩ := amv.mp h
   exact bC (Se hx) (Cr hl) (cz (Js hx))
end
section
variable {K : PySem.W.Frag} {CL : Str -> Addr} {b : Bx} {H Z : Hp} {δ : List (Option T)} {σ : L2.St} {ts tl : List T} {vs : List V} {ds : List D} {us : List V}
end
section
variable {X : Cx} {CL : Str -> Addr} {b : Bx} {δ δ1 : List (Option T)} {e : Expr} {tl Qg : List T} {ds : List L3.D} {D : dg} {pos pp pa pb : Pos} {i : Nat} {x : Str} {eW : List Stmt}
end
section
variable {X : Cx} {CL : Str -> Addr} {b : Bx} {δ δ1 δ2 δ3 : List (Option T)} {e e1 e2 : Expr} {ds Qm : List L3.D} {pos p2 : Pos}
end
section
variable {a₀ xs : Array Keyed} {ι : Nat -> Nat} {n : Nat}
noncomputable def turned (ι : Nat -> Nat) (i j : Nat) : Nat -> Nat := fun k => if i <= k /\ k < j then ι (i + j - 1 - k) else ι k
end
section
variable {prog : Program} {w : World} {A : Around} {E : Value -> Shared -> Prop} {s : Shared} {a₀ : Array Keyed}
end
section
variable {X : Cx}
end
section
variable {X : Cx} {CL : Str -> Addr} {b : Bx} {δ δ1 : List (Option T)} {e : Expr} {pos pp p1 p2 : Pos} {kj : Nat}
end
section
variable {X : Cx} {i : Nat} {x : Str}
theorem mkL (hi : X.N[i]? = some x) (h : X.env.scope.names.lookup x = some .local) (hf : X.fn x = true) (hd : (x == ("__debug__" : Str)) = false := by decide) (hc : (x == ("__classdict__" : Str)) = false := by decide) : Ln X i x := ⟨⟨hi, .inl h, hd, hc⟩, .inl h, .inl hf⟩
theorem mkC (hi : X.N[i]? = some x) (h : X.env.scope.names.lookup x = some .cell) (hf : X.fn x = true) (hd : (x == ("__debug__" : Str)) = false := by decide) (hc : (x == ("__classdict__" : Str)) = false := by decide) : Ln X i x := ⟨⟨hi, .inr (.inl h), hd, hc⟩, .inr h, .inl hf⟩
end
theorem dF {P : Program} {w : World} {K : PySem.W.Frag} {mg : Str -> Option Value} {base : Heap} {k : Nat} {f : Addr} {fd : FuncData} {ps : List Str} {sp : Sp} {x : Str} (G : cJ P w K mg base lF k f fd ps sp) (m : mg x = some (.ref f)) (q : PySem.W.keepIn K (.ref f) = true) (b : Binds K fd ps []) :
   ∃ f fd ps, cJ P w K mg base lF k f fd ps sp /\ mg x = some (.ref f) /\ PySem.W.keepIn K (.ref f) = true /\ Binds K fd ps [] := ⟨_, _, _, G, m, q, b⟩
section
variable {X : Cx} {CL : Str -> Addr} {b : Bx} {δ δ1 δc : List (Option T)} {scope : Scope} {y : Str} {Nc : List Str} {ix : List Nat} {elt iter : Expr} {ifs : List Expr} {px pc pos : Pos} {p : L3.D -> Bool} {g : L3.D -> T} {ds : List L3.D}
theorem afl (sc : qt X scope y Nc ix) : sI X scope [y] Nc ix := ⟨sc.kind, sc.Ge, sc.nd, sc.names, (fun x hx => by rw [anr] at hx; subst hx; exact sc.own), sc.frees, sc.hd, sc.ixs⟩
theorem afm (sc : qt X scope y Nc ix) (h : Block X CL scope Nc ifs elt δc ds p g) (h1 : (y == ("__debug__" : Str)) = false) (h2 : (y == ("__classdict__" : Str)) = false) : zM X CL scope Nc [y].length (.Name y px) part1 ifs elt δc ds p g := fun C s0 H0 f0 b' =>
 ⟨VP (i := 0) sc.nd (acr (by rw [sc.hd]; rfl) sc.own h1 h2), fun d hd => ⟨[d], rfl, rfl, (h C s0 H0 f0 b' d hd).1, (h C s0 H0 f0 b' d hd).2⟩⟩
theorem i7 (sc : qt X scope y Nc ix) (hc : X.calm = true) (h : XZ X CL b (.Name y px) iter δ ds δ1) (hb : (δc = IV δ1 ix /\ ∀ d ∈ ds, (g d).clean = true) \/ δc = IW δ1 ix) (inner : Block X CL scope Nc ifs elt δc ds p g) (hlen : ds.length <= sizeLine)
   (hs : ∀ x, foldedSetIterable iter X.env x = pure x := by intro _; rfl) (h1 : (y == ("__debug__" : Str)) = false := by decide) (h2 : (y == ("__classdict__" : Str)) = false := by decide) : cY X CL b (.ListComp elt [⟨.Name y px, iter, ifs, 0⟩] scope pos) δ (.lst ((ds.filter p).map g)) δ1 :=
 Jh (xs := [y]) (afl sc) hc (aaF h) hb (afm sc inner h1 h2) hlen hs
theorem Mv {D : dg} {eW : List Stmt} {i : Nat} {x : Str} {pos' : Pos} {gg : L3.D -> T} (g : Gx X) (n : Ln X i x) (sc : qt X scope y Nc ix) (h : XZ X CL b (.Name y px) iter δ ds δ1) (hb : (δc = IV δ1 ix /\ ∀ d ∈ ds, (gg d).clean = true) \/ δc = IW δ1 ix) (inner : Block X CL scope Nc ifs elt δc ds p gg)
   (hlen : ds.length <= sizeLine) (k : gw X CL b eW (δ1.set i (some (.lst ((ds.filter p).map gg)))) D) (hl : i < δ1.length)
   (Ml : swapsWith (.ListComp elt [⟨.Name y px, iter, ifs, 0⟩] scope pc) (some (.Name x pos')) pos.line X.env = pure true \/ swapsWith (.ListComp elt [⟨.Name y px, iter, ifs, 0⟩] scope pc) (some (.Name x pos')) pos.line X.env = pure false) (hs : ∀ x, foldedSetIterable iter X.env x = pure x := by intro _; rfl)
   (h1 : (y == ("__debug__" : Str)) = false := by decide) (h2 : (y == ("__classdict__" : Str)) = false := by decide) : gw X CL b (.Assign [.Name x pos'] (.ListComp elt [⟨.Name y px, iter, ifs, 0⟩] scope pc) pos :: eW) δ D :=
 acq (xs := [y]) g n (afl sc) (aaF h) hb (afm sc inner h1 h2) hlen k hl Ml hs
end
section
variable {X : Cx} {CL : Str -> Addr} {b : Bx} {δ : List (Option T)} {i : Nat} {x : Str} {d : L3.D} {pos : Pos}
theorem aJ (n : Ln X i x) (h : δ[i]? = some (some (.sh d)) := by rfl) : dz X CL b (.Name x pos) δ d δ := ah (v_ n.1 h)
end
structure c7 (X : Cx) : Prop where
 g : Gx X
 u : X.A.units + 64 < cLine
noncomputable abbrev aG (X : Cx) (CL : Str -> Addr) (b : Bx) (st : Stmt) (N : List Str) (l : List L3.D) (r : T) : Prop := gw X CL b (iZ st) (entry N l) { nx := fun _ => r = .sh .non, rt := fun v__ _ => v__ = r }
noncomputable abbrev aC : NameKind := .globalImplicit
noncomputable abbrev aE : NameKind := .local
theorem bf {N P : List Str} {sc : Scope} (h1 : sc.kind = .function := by rfl) (h2 : sc.isCoroutine = false := by rfl) (h3 : sc.isGenerator = false := by rfl) (h4 : N.Nodup := by decide +kernel) (h5 : N.take P.length = P := by rfl) (h6 : ∀ x ∈ P, sc.names.lookup x = some .local \/ sc.names.lookup x = some .cell := by decide +kernel) (h7 : ∀ y ∈ sc.names, y.2 ≠ .free := by decide +kernel) : aT N P sc := ⟨h1, h2, h3, h4, h5, h6, h7⟩
section
variable {X : Cx} {i : Nat} {x : Str} {tb : List (Str × NameKind)}
theorem b9 (c : oW X.env.scope tb = true) (j : Nat) (hj : tb[j]? = some (x, .local) := by rfl) (hi : X.N[i]? = some x := by rfl) (hf : X.fn x = true := by rfl) (hd : (x == ("__debug__" : Str)) = false := by decide) (hc : (x == ("__classdict__" : Str)) = false := by decide) : Ln X i x := mkL hi (fz c j hj) hf hd hc
theorem Jt (c : oW X.env.scope tb = true) (j : Nat) (hj : tb[j]? = some (x, .cell) := by rfl) (hi : X.N[i]? = some x := by rfl) (hf : X.fn x = true := by rfl) (hd : (x == ("__debug__" : Str)) = false := by decide) (hc : (x == ("__classdict__" : Str)) = false := by decide) : Ln X i x := mkC hi (fz c j hj) hf hd hc
theorem cZ (c : oW X.env.scope tb = true) (j : Nat) (hj : tb[j]? = some (x, .globalImplicit) := by rfl) : Gl X x := fz c j hj
theorem cQ {CL : Str -> Addr} {k n m : Nat} {A : Type} {arg : A -> List D} {Pre : A -> Prop} {res : A -> T} (F : ∃ f fd ps, cJ X.prog X.w X.K X.mg X.base lF k f fd ps (nT X.K CL n arg Pre res) /\ X.mg x = some (.ref f) /\ PySem.W.keepIn X.K (.ref f) = true /\ Binds X.K fd ps []) (r : jk m X.A) (h : k <= m := by decide) : Fc X CL x k n arg Pre res := ⟨F, r.mono h⟩
end
section
variable {K : PySem.W.Frag} {CL : Str -> Addr} {b : Bx} {H H' Z Z' : Hp} {δ δ' : List (Option T)} {σ σ' : L2.St} {ts tl : List T} {vs us : List V} {t : T} {v : V} {y : Addr} {i : Nat}
end
section
variable {K : PySem.W.Frag} {CL : Str -> Addr} {b : Bx} {H Z : Hp} {σ : L2.St} {ts : List T} {vs : List V}
end
section
variable {X : Cx} {CL : Str -> Addr} {b : Bx} {δ δ1 δ2 : List (Option T)} {e : Expr} {es : List Expr} {t : T} {d : L3.D} {pos pp : Pos} {D : dg} {i : Nat} {x : Str} {is : List Nat} {fx : List Addr -> Prop} {al : List Addr -> List T} {y : Addr}
noncomputable def TEm (X : Cx) (CL : Str -> Addr) (b : Bx) (e : Expr) (δ : List (Option T)) (t : T) (δ' : List (Option T)) : Prop :=
 ∀ (H Z : Hp) (σ : L2.St) (ts : List T) (vs : List V) (Q : VK), cy X.K CL b H Z δ σ ts vs -> (∀ v H' Z', aM Z Z' -> cy X.K CL b H' Z' δ' σ (t :: ts) (v :: vs) -> Q v H') -> IQ X e σ H Q
theorem V7 (h : TEm X CL b e δ t δ1) (k : D.nx δ1) (hs : swapsWith e none pos.line X.env = pure false := by rfl) : XY X CL b (.Expr e pos) δ D := fun H Z σ ts vs E S M => zI (FY eU hs) (h H Z σ ts vs _ S fun v H1 Z1 z1 S1 => M.nx δ1 σ H1 Z1 z1 S1.pop k)
variable {eW : List Stmt}
theorem Qt (h : TEm X CL b e δ t δ1) (k : gw X CL b eW δ1 D) (hs : swapsWith e none pos.line X.env = pure false := by rfl) : gw X CL b (.Expr e pos :: eW) δ D := dD (V7 h k hs)
end
section
variable {X : Cx} {CL : Str -> Addr} {b : Bx} {δ δ1 δ2 : List (Option T)} {e e2 : Expr} {t : T} {tl Qg tl2 : List T} {D : dg} {pos pp pa pb : Pos} {y : Addr} {eW : List Stmt}
section
variable {i : Nat} {x : Str}
end
end
section
variable {α β : Type} {g : α -> Int}
end
section
variable {X : Cx} {CL : Str -> Addr} {pins : List (Addr × Obj)} {σ : L2.St} {H : Hp} {s : Shared} {x q : Str} {params : Arguments} {body : Expr} {scope : Scope} {pos : Pos}
end
section
variable {X : Cx} {scope : Scope} {x q : Str} {Nc : List Str} {ix : List Nat} {pins : List (Addr × Obj)} {σ : L2.St} {H : Hp} {s : Shared} {A : Around} {f c : Addr}
end
section
variable {X : Cx} {pins : List (Addr × Obj)} {σ : L2.St} {H : Hp} {s : Shared}
end
section
variable {α β : Type} {F : α -> β -> Prop} {g1 : α -> Int} {g2 : β -> Int}
end
section
variable {X : Cx} {pins : List (Addr × Obj)} {σ : L2.St} {H : Hp} {s : Shared} {a kS f l : Addr} {us : List Value} {xs : List V} {kz : List Int} {J : Hp -> Prop} {e1 : Nat} {A : Around} {E : Value -> Shared -> Prop} {P : PySem.Fin -> Shared -> Prop}
end
section
variable {K : PySem.W.Frag} {CL : Str -> Addr} {Z : Hp} {g : D -> Int}
end
section
variable {X : Cx} {CL : Str -> Addr} {b : Bx} {δ δ1 : List (Option T)} {e body : Expr} {ds : List L3.D} {g : L3.D -> Int} {scope : Scope} {y q tx : Str} {Nc : List Str} {ix : List Nat} {params : Arguments} {pos pp lp p2 : Pos}
variable {A : Around} {f c : Addr} {s : Shared} {H : Hp} {i : Nat} {x : Str}
end
noncomputable def acD (y : Int) : Value -> Bool
 | .int i _ => i == y
 | _ => false
section
variable {X : Cx}
end
section
variable {X : Cx} {CL : Str -> Addr} {b : Bx} {δ δ1 δ2 : List (Option T)} {o e : Expr} {apos pos : Pos}
end
section
variable {X : Cx} {CL : Str -> Addr} {b : Bx} {δ : List (Option T)} {e : Expr} {es : List Expr} {d : L3.D} {ds : List L3.D}
end
section
variable {X : Cx} {CL : Str -> Addr} {b : Bx} {δ δ1 : List (Option T)} {scope : Scope} {y : Str} {Nc : List Str} {ix : List Nat} {elt iter : Expr} {ifs : List Expr} {px pos : Pos} {p : L3.D -> Bool} {g : L3.D -> T} {ds : List L3.D}
end
section
variable {X : Cx}
end
section
variable {X : Cx} {CL : Str -> Addr} {b : Bx} {δ δ1 : List (Option T)} {e : Expr} {pos pp pq pr : Pos}
end
section
variable {X : Cx} {CL : Str -> Addr} {b : Bx} {δ δ1 : List (Option T)} {ds : List L3.D} {i q : Nat} {x y : Str} {pos pp pos' : Pos}
end
section
variable {X : Cx} {CL : Str -> Addr} {b : Bx} {e o : Expr} {δ δ1 δ2 : List (Option T)} {pos apos : Pos}
end
section
variable {X : Cx} {tg : Expr}
end
section
variable {X : Cx} {CL : Str -> Addr} {b : Bx} {δ δ1 δ2 δ3 : List (Option T)} {e e1 e2 e3 : Expr} {ds Qm : List L3.D} {pos p2 pr pc : Pos} {tg : Expr}
end
section
variable {X : Cx} {elts : List Expr} {kk : Nat} {pt : Pos}
end
section
variable {X : Cx} {CL : Str -> Addr} {b : Bx} {δ δ1 δ2 : List (Option T)} {e e1 e2 : Expr} {ds es : List D} {elts : List Expr} {kk : Nat} {pt pr pc pos apos : Pos}
end
section
variable {X : Cx} {CL : Str -> Addr} {b : Bx} {δ δ1 δ2 : List (Option T)} {e e2 : Expr} {t : T} {tl Qg tt tt0 : List T} {DD : dg} {eW : List Stmt} {x : Str} {i : Nat} {pos pp pa pb ps : Pos}
end
section
variable {X : Cx}
end
section
variable {X : Cx} {CL : Str -> Addr} {b : Bx} {δ δ1 δ2 : List (Option T)} {o e : Expr} {apos pos : Pos}
end
section
variable {K : PySem.W.Frag} {CL : Str -> Addr} {b : Bx} {H Z : Hp} {δ : List (Option T)} {σ : L2.St} {ts tl : List T} {vs : List V} {t : T} {v : V} {d : D}
end
section
variable {X : Cx} {CL : Str -> Addr} {b : Bx} {δ δ1 δ2 : List (Option T)} {e e1 e2 : Expr} {t : T} {d : L3.D} {DD : dg} {pos pp ps : Pos} {i : Nat} {x : Str} {eW : List Stmt} {bH : List (List Key × L3.D)} {k : List Key}
end
theorem Sf : bootBuiltins "set" = some (.type "set") := by decide +kernel
section
variable {X : Cx}
end
section
variable {X : Cx} {CL : Str -> Addr} {b : Bx} {δ δ1 : List (Option T)} {e : Expr} {pos pp pq pr : Pos}
end
section
variable {X : Cx} {CL : Str -> Addr} {b : Bx} {δ δ1 δ2 : List (Option T)} {e1 e2 e3 : Expr} {pos : Pos}
theorem aaJ {op op' : CmpOp} {f g : Int -> Int -> Bool} {i j k : Int} (ho : sC X (compareOp op) (XT fun i j => .bl (f i j))) (EV : sC X (compareOp op') (XT fun i j => .bl (g i j))) (h1 : dz X CL b e1 δ (.int i) δ1) (h2 : dz X CL b e2 δ1 (.int j) δ2) (h3 : dz X CL b e3 δ2 (.int k) δ2) (hm : lastMarks [op, op'] [e2, e3] = false) :
   qM X CL b (.Compare e1 [op, op'] [e2, e3] pos) δ (f i j && g j k) δ2 /\ cY X CL b (.Compare e1 [op, op'] [e2, e3] pos) δ (.sh (.bl (f i j && g j k))) δ2 := by
 constructor
 . intro H Z σ ts vs Q S q
   refine EZ (U4 ho EV eU eU eU hm) (h1 H Z σ ts vs _ S fun v1 H1 Z1 z1 k1 S1 r1 => h2 H1 Z1 σ ts vs _ S1 fun v2 H2 Z2 z2 k2 S2 r2 => ?_)
   rw [r1.sc rfl, r2.sc rfl]
   refine ⟨i, j, rfl, rfl, f i j, rfl, ?_⟩
   cases hf : f i j with
   | false => exact ite_ff ⟨false, rfl, by rw [hf] at q; exact q H2 Z2 (z1.trans z2) (k1.trans k2) S2⟩
   | true =>
     refine ite_tt (h3 H2 Z2 σ ts vs _ S2 fun v3 H3 Z3 z3 k3 S3 r3 => ?_)
     rw [r3.sc rfl]
     exact ⟨j, k, rfl, rfl, g j k, rfl, by rw [hf] at q; exact q H3 Z3 ((z1.trans z2).trans z3) ((k1.trans k2).trans k3) S3⟩
 . intro H Z σ ts vs Q S q
   refine dw (U3 ho EV eU eU eU hm) (h1 H Z σ ts vs _ S fun v1 H1 Z1 z1 k1 S1 r1 => h2 H1 Z1 σ ts vs _ S1 fun v2 H2 Z2 z2 k2 S2 r2 => ?_)
   rw [r1.sc rfl, r2.sc rfl]
   refine ⟨i, j, rfl, rfl, f i j, rfl, ?_⟩
   cases hf : f i j with
   | false => exact ite_ff (by rw [hf] at q; exact q _ H2 Z2 (z1.trans z2) (k1.trans k2) (S2.push (.bl _)))
   | true =>
     refine ite_tt (h3 H2 Z2 σ ts vs _ S2 fun v3 H3 Z3 z3 k3 S3 r3 => ?_)
     rw [r3.sc rfl]
     exact ⟨j, k, rfl, rfl, by rw [hf] at q; exact q _ H3 Z3 ((z1.trans z2).trans z3) ((k1.trans k2).trans k3) (S3.push (.bl _))⟩
theorem acE {kj : Nat} {p2 : Pos} (h : dz X CL b e1 δ .non δ1) : qM X CL b (.Compare e1 [.Is] [.Constant .none kj p2] pos) δ true δ1 /\ cY X CL b (.Compare e1 [.Is] [.Constant .none kj p2] pos) δ (.sh (.bl true)) δ1 := by
 constructor
 . exact fun H Z σ ts vs Q S k => EZ (abg (LN eU)) (h H Z σ ts vs _ S fun v H1 Z1 z1 k1 S1 r => by
     cases r
     exact ⟨_, rfl, by simpa using k H1 Z1 z1 k1 S1⟩)
 . exact fun H Z σ ts vs Q S k => dw (LQ (LN eU)) (h H Z σ ts vs _ S fun v H1 Z1 z1 k1 S1 r => by
     cases r
     exact by simpa using k _ H1 Z1 z1 k1 (S1.push (.bl true)))
end
section
variable {prog : Program} {w : World} {A : Around} {E : Value -> Shared -> Prop} {s : Shared}
noncomputable def pA (ns : List Str) (i : Nat) (q : Str) : Bool := decide (q ∈ ns.take i)
end
section
variable {X : Cx}
noncomputable def V8 (prog : Program) (w : World) (a : Addr) (n : Nat) (h : Heap) : Prop := ∃ S, h.SetOf (strKind prog w) a S n
theorem Gs : qp X (.builtin "len") (fun xs H Q => ∃ (p : Addr) (n : Nat), xs = [.ref p] /\ H p = some (.ext (V8 X.prog X.w p n)) /\ n <= 1000 /\ Q (.int n) H) := by
 intro pins s σ H xs us Q I r h
 obtain ⟨p, n, rfl, hp, hn, q⟩ := h
 obtain ⟨u, rfl, ru⟩ := vals1 r
 cases ru
 obtain ⟨⟨S, o, es, ep, t, e, ex, ed, _, _, _, hf, en⟩, _, _⟩ := I.fS p _ hp
 exact call_len_set e ex ed hf (by rw [en]; omega) ⟨.int n, H, I.tok _, ⟨s.toks + 1, by rw [en]⟩, q⟩
end
section
variable {X : Cx} {CL : Str -> Addr} {b : Bx} {δ δ1 : List (Option T)} {e : Expr} {pos pp pq pr : Pos}
theorem Sg {K : PySem.W.Frag} {Z : Hp} {l : List Str} {us : List V} (h : aL K CL Z (l.map D.str) us) : us = l.map V.str := by
 refine aL.ind (P := fun ds us => ∀ l : List Str, ds = l.map D.str -> us = l.map V.str) ?_ ?_ h l rfl
 . intro l e
   cases l with
   | nil => rfl
   | cons _ _ => cases e
 . intro d ds v vs r _ ih l e
   cases l with
   | nil => cases e
   | cons x l =>
     obtain ⟨e1, e2⟩ := List.cons.inj e
     subst e1
     cases r
     rw [ih l e2]
     rfl
end
section
variable {X : Cx} {CL : Str -> Addr} {b : Bx} {δ δ1 δ2 : List (Option T)} {e1 e2 : Expr} {pos : Pos} {bH : List (Key × D)}
theorem acF (k : Key) (hu : X.A.units + 64 < cLine) (h1 : dz X CL b e1 δ (acy k) δ1) (h2 : dz X CL b e2 δ1 (.ve bH) δ2) (hm : behindInMarks .In e2 = false) :
   cY X CL b (.Compare e1 [.In] [e2] pos) δ (.sh (.bl (Gr bH k).isSome)) δ2 := fun H Z σ ts vs Q S kk =>
 dw (LQ (abS (by omega) eU eU) hm) (h1 H Z σ ts vs _ S fun v H1 Z1 z1 k1 S1 r1 => h2 H1 Z1 σ ts vs _ S1 fun v2 H2 Z2 z2 k2 S2 r2 => by
   cases r2 with
   | @ve a gs _ ha rr =>
     refine ⟨a, vF gs k, rfl, by rw [r1.key]; exact Vm.k ha, ?_⟩
     rw [V4 rr]
     exact kk _ H2 Z2 (z1.trans z2) (k1.trans k2) (S2.push (.bl _)))
end
section
variable {X : Cx} {CL : Str -> Addr} {b : Bx} {δ δ1 δ2 : List (Option T)} {e1 e2 : Expr} {pos : Pos}
end
section
variable {X : Cx} {CL : Str -> Addr} {b : Bx} {δ δ1 : List (Option T)} {i q : Nat} {x y : Str} {pos pp pos' : Pos}
variable {K : PySem.W.Frag} {H Z : Hp} {σ : L2.St} {ts tl : List T} {vs us : List V} {t u : T} {v w : V} {a : Addr}
end
section
variable {K : PySem.W.Frag} {CL : Str -> Addr} {b : Bx} {H Z : Hp} {δ : List (Option T)} {σ : L2.St} {ts tl : List T} {vs : List V} {t : T} {i : Nat}
theorem Dk {H Z : Hp} : ∀ {tl : List T} {us : List V} {g : List Addr}, aZ K CL H Z (tl ++ [t]) us g -> ∃ us' u g1 g2, us = us' ++ [u] /\ g = g1 ++ g2 /\ aZ K CL H Z tl us' g1 /\ dN K CL H Z t u g2
 | [], _, _, .cons (v := v) (fp := fp) r .nil => ⟨[], v, [], fp, rfl, amH _, .nil, r⟩
 | _ :: _, _, _, .cons (v := v) (fp := fp) r rr => by
   obtain ⟨us', u, g1, g2, e1, e2, r1, r2⟩ := Dk rr
   subst e1 e2
   exact ⟨v :: us', u, fp ++ g1, g2, rfl, (alZ ..).symm, .cons r r1, r2⟩
theorem cy.Y3 (S : cy K CL b H Z δ σ ts vs) (hi : δ[i]? = some (some (.lst (tl ++ [t])))) :
   ∃ a us u, σ[i]? = some (some (.ref a)) /\ H a = some (.lst (us ++ [u])) /\ cy K CL b (upd H a (.lst us)) Z (δ.set i (some (.lst tl))) σ (t :: ts) (u :: vs) := by
 obtain ⟨fp, gp, e, r, nd, k⟩ := S.rep
 obtain ⟨v0, f1, f2, f3, hv, sG, rt, put, _⟩ := e.get hi
 subst sG
 cases rt with
 | @lst a us _ g ha rs =>
   obtain ⟨us', u, g1, g2, e1, e2, r1, r2⟩ := Dk rs
   subst e1 e2
   have ne : ∀ c ∈ (f1 ++ ((g1 ++ g2) ++ f3)) ++ gp, c ≠ a := fun c hc e => by
     subst e
     have hp : ((f1 ++ ((c :: (g1 ++ g2)) ++ f3)) ++ gp).Perm (c :: ((f1 ++ ((g1 ++ g2) ++ f3)) ++ gp)) := by
       rw [ami, ← ami]
       exact (amU.append_right _)
     exact (amO.mp (hp.nodup_iff.mp nd)).1 hc
   refine ⟨a, us', u, hv, ha, ?_⟩
   have q1 : dN K CL (upd H a (.lst us')) Z (.lst tl) (.ref a) (a :: g1) := .lst bu (r1.mono (.refl _) fun c hc => aK (ne c (by simp [hc])))
   have e2 := put (H' := upd H a (.lst us')) (.refl _) (fun c hc => aK (ne c (by
     rcases al7.mp hc with h | h
     . simp [h]
     . simp [h]))) q1
   rw [jl hv] at e2
   have hp : ((f1 ++ ((a :: g1) ++ f3)) ++ (g2 ++ gp)).Perm ((f1 ++ ((a :: (g1 ++ g2)) ++ f3)) ++ gp) := by
     simp only [ami, alZ]
     refine amt f1 (List.Perm.cons a (amt g1 ?_))
     rw [← alZ, ← alZ]
     exact amB.append_right gp
   exact S.write nd k (al0) ⟨_, ha⟩ e2 (.cons (r2.mono (.refl _) fun c hc => aK (ne c (by simp [hc]))) (r.mono (.refl _) fun c hc => aK (ne c (by simp [hc])))) (hp.nodup_iff.mpr nd) fun c hc => hp.mem_iff.mp hc
end
section
variable {X : Cx} {CL : Str -> Addr} {b : Bx} {δ δ1 δ2 : List (Option T)} {e e1 e2 : Expr} {t : T} {tl : List T} {ds Qm : List L3.D} {D : dg} {pos pp pa : Pos} {eW : List Stmt} {i : Nat} {x : Str}
theorem acG (n : Vn X i x) (h : δ[i]? = some (some (.lst (tl ++ [t])))) (mw : attributeBase (.Name x pp) "pop" X.env (eval (.Name x pp) X.env) = eval (.Name x pp) X.env := by rfl) (hline : (pa.endLine == pos.line) = true := by rfl) :
   TEm X CL b (.Call (.Attribute (.Name x pp) "pop" pa) [] [] pos) δ t (δ.set i (some (.lst tl))) := fun H Z σ ts vs Q S k =>
 dw (Vh anl PySem.F.slot_list_pop PySem.F.type_list_pop abP (nY n.hi n.hv n.hd n.qo) mw hline) (by
   obtain ⟨a, us, u, hv, ha, S2⟩ := S.Y3 h
   refine ⟨_, hv, .inl ⟨rfl, _, .inl (.inl ha)⟩, ?_⟩
   refine ⟨a, us ++ [u], u, rfl, rfl, ha, by simp, ?_⟩
   rw [List.dropLast_concat]
   exact k u _ Z (.refl _) S2)
theorem afn {d : L3.D} (h : δ[i]? = some (some t)) (q : t.iY = d) (k : gw X CL b eW (δ.set i (some (.sh d))) D) : gw X CL b eW δ D := fun H Z σ ts vs E S M => by
 subst q
 obtain ⟨v, Z', _, z, S'⟩ := S.Yz h
 exact k H Z' σ ts vs E S'.pop (M.mono z)
end
end L3
namespace L2
open PySem PySem.Spec PyProof.Rows
noncomputable abbrev qQ : List Value := [.type "ValueError", .type "Exception", .type "BaseException", .type "object"]
noncomputable def ic (fr : List Env) (h h' : Heap) : Prop := ∀ b ∈ uA fr, ∀ o, h.get? b = some o -> ∃ sl, h'.get? b = some { o with slots := sl }
noncomputable def CX8 (P : Program) (w : World) : PY := fun outer H s E ev s' => ∃ (e C : Addr) (a0 : Value) (B : Heap) (H' : Hp), ev = .ref e /\ s'.os = s.os /\ AllBare s'.gens /\ Heap.FlyingW B outer e (.ref C) a0 s'.heap /\ uz P w H' B ∧
 (∀ h, B.StaysIn h -> ic outer s.heap h -> Un (uA outer) [] H H' s.heap h) /\ ic outer s.heap s'.heap /\ E (.ref C) none H'
noncomputable def XE (X : Cx) (W : XK) : Value -> Shared -> Prop := fun ev s' => ∃ (e C : Addr) (pins : List (Addr × Obj)) (σ : St) (H : Hp) (s : Shared), ev = .ref e /\ Inv X pins σ H s /\ W (.ref C) none H /\ s'.os = s.os /\ AllBare s'.gens ∧
 (Heap.MadeExcOf s.heap s'.heap e (.ref C) [] \/ ∃ a0, Heap.HeldW (PySem.W.hideAll s.heap (uA X.stack)) X.stack e (.ref C) a0 X.env.locals s'.heap /\ ic X.stack s.heap s'.heap)
section
variable {X : Cx} {pins : List (Addr × Obj)} {σ : St} {H : Hp} {s : Shared}
theorem ic.up {fr : List Env} {h h1 h2 base : Heap} (a : ic fr h h1) (f : h1.FunFrames base fr) (u : h1.UpToSlots h2) : ic fr h h2 := fun b hb o ho => by
 obtain ⟨sl, e⟩ := a b hb o ho
 obtain ⟨_, o', EV, hd⟩ := f.mem hb
 rw [e] at EV
 cases EV
 obtain ⟨sl2, e2⟩ := u b _ e hd
 exact ⟨sl2, e2⟩
theorem Inv.V9 (I : Inv X pins σ H s) : uz X.prog X.w H (PySem.W.hideAll s.heap (uA X.stack)) := fun a o e => by
 refine (I.fS a o e).Ip (fun b u hb q => anx _ q fun hm => ?_) (fun b q => q) (fun b xs q => q)
 have hn := I.FU b hm
 rcases hb with rfl | hb
 . rw [e] at hn; cases hn
 . rw [hb] at hn; cases hn
theorem Inv.Wa (I : Inv X pins σ H s) : s.heap.FunFrames (PySem.W.hideAll s.heap (uA X.stack)) X.stack := PySem.W.funFrames_hide I.stack fun env he a ha => List.mem_filterMap.mpr ⟨env, he, ha⟩
theorem Inv.Wb (I : Inv X pins σ H s) (qH : X.stack = X.env :: X.outer) (LC : X.env.frame = some X.env.locals) (hex : X.ex = []) (h : Heap) (st : (PySem.W.hideAll s.heap (uA X.stack)).StaysIn h) (fr : ic X.outer X.s₀.heap h) : Un (uA X.outer) [] X.H₀ H X.s₀.heap h := by
 have u := I.base
 rw [hex] at u
 have out : ∀ b o, X.s₀.heap.get? b = some o -> b ∉ uA X.outer -> b ∉ uA X.stack := fun b o hb hn hm => by
   rw [qH] at hm
   unfold uA at hm
   rw [am1, LC] at hm
   rcases al6.mp hm with z | z
   . have h1 := amb hb
     have h2 := I.ok.above
     rw [← z] at h2
     exact absurd h1 (Nat.not_lt.mpr h2)
   . exact hn z
 refine ⟨fun b o hb hH hf hx => ?_, fun b o hb hH hf hx => fr b hf o hb, u.free, fun b o hb hx => ?_, u.EL, u.gR, u.ER⟩
 . exact st b o (anx _ (u.keep b o hb hH hf hx) (out b o hb hf))
 . obtain ⟨o', EV⟩ := u.there b o hb hx
   by_cases hf : b ∈ uA X.outer
   . obtain ⟨sl, e⟩ := fr b hf o hb
     exact ⟨_, e⟩
   . exact ⟨o', st b o' (anx _ EV (out b o hb hf))⟩
theorem Inv.Ju (I : Inv X pins σ H s) (hex : X.ex = []) : ic X.outer X.s₀.heap s.heap := fun b hb o ho => I.base.slot b o ho (I.ok.XR b hb) hb (by rw [hex]; exact amC)
theorem acH {W : XK} {ev : Value} {s' : Shared} {E' : Value -> Shared -> Prop} (qH : X.stack = X.env :: X.outer) (LC : X.env.frame = some X.env.locals) (hex : X.ex = []) (h : XE X W ev s') :
   wpAny (model X.prog X.w) X.A (leaving X.env ev) (fun _ s'' => CX8 X.prog X.w X.outer X.H₀ X.s₀ W ev s'') E' s' := by
 obtain ⟨e, C, pins, σ, H, s, rfl, I, hw, ho, hg, hm⟩ := h
 have hfr : X.A.frames = some (X.env :: X.outer) := by rw [I.ok.frames, qH]
 have Wc := I.Wa
 have hos : s'.os = X.s₀.os := ho.trans I.os
 rw [qH] at Wc
 have sub : ∀ b, b ∈ uA X.outer -> b ∈ uA X.stack := fun b hb => by
   rw [qH]
   unfold uA at hb ⊢
   rw [am1, LC]
   exact al3 _ hb
 rcases hm with hm | ⟨a0, hm, hs⟩
 . refine wpAny_leaves_madeW (base := PySem.W.hideAll s.heap (uA X.stack)) hfr LC (fun b o q => anA _ q) (by rw [qH]; exact Wc) hm fun h' t x1 x2 x3 x4 => ?_
   refine ⟨e, C, .ref t, _, H, rfl, hos, hg, x1, I.V9, I.Wb qH LC hex, ?_, hw⟩
   have f1 : ic X.outer X.s₀.heap s'.heap := fun b hb o hq => by
     obtain ⟨sl, q⟩ := I.Ju hex b hb o hq
     exact ⟨sl, hm.keeps _ _ q⟩
   have f2 : s'.heap.FunFrames X.base X.outer := (show s.heap.FunFrames X.base X.outer from I.vD).of_keeps fun b o hb _ => ⟨o, hm.keeps b o hb, rfl⟩
   exact f1.up f2 x4
 . rw [qH] at hm
   unfold leaving
   refine amq (wpAny_noteFrame_againW LC hm.2.2.2 ?_)
   refine wpAny_landsW hm fun h' hfl hu => ?_
   obtain ⟨k1, k2, ⟨_, _, k3⟩, k4⟩ := hfl
   refine ⟨e, C, a0, _, H, rfl, hos, hg, ⟨k1, k2, k3, k4⟩, ?_, ?_, ?_, hw⟩
   . rw [← qH]; exact I.V9
   . intro h st fr
     rw [← qH] at st
     exact I.Wb qH LC hex h st fr
   . have f1 : ic X.outer X.s₀.heap s'.heap := fun b hb o hq => by
       obtain ⟨sl, q⟩ := I.Ju hex b hb o hq
       obtain ⟨sl2, q2⟩ := hs b (sub b hb) _ q
       exact ⟨sl2, q2⟩
     obtain ⟨_, _, f2⟩ := hm.2.2.1
     exact f1.up f2 hu
theorem Wd {M : Model} {A : Around} {E : Value -> Shared -> Prop} {s : Shared} {base : Heap} {l : List Env} {env : Env} {e L : Addr} {cls a0 fl : Value} {Q : Unit -> Shared -> Prop} (hf : env.frame = some L)
   (hkb : base.StaysIn s.heap) (hen : base.get? e = none) (hl : s.heap.FunFrames base l) (ht : s.heap.TracedAtW base e cls a0 fl)
   (h : ∀ h', Heap.HeldW base l e cls a0 L h' -> s.heap.UpToSlots h' -> Q () { s with heap := h' }) :
   wpAny M A (do
     if (← field (.ref e) 1) == .none then unsupported "frame.own-activation:exception-without-traceback"
     setFlight (.ref e) env.frame) Q E s := by
 obtain ⟨oe, vs, T, oT, ts, he, abe, hd, h1, hnT, hTe, hT, hdT, h3⟩ := ht
 have afp : 3 < ts.size := (Array.getElem?_eq_some_iff.mp h3).1
 have Y4 : ∀ b, b ≠ T -> (s.heap.update T (Obj.mapFields (·.setIfInBounds 3 (rawInt L)))).get? b = s.heap.get? b := fun b hb => Heap.get?_update_other _ _ (ani hb)
 have Wf : ∀ b o, s.heap.get? b = some o -> (∀ vs, o.data ≠ .fields vs) -> b ≠ T := fun b o hb hnv q => by
   rw [q, hT] at hb; injection hb with hb; subst hb; exact hnv ts hdT
 refine amq (wpAny_field he hd h1 ?_)
 rw [alT (show ¬ ((Value.ref T == Value.none) = true) from by simp)]
 unfold setFlight
 refine amq (wpAny_field he hd h1 ?_)
 rw [alW (show (Value.ref T != Value.none) = true from by simp), hf]
 refine wpAny_setField hT hdT afp (h _ ⟨fun b o hbo => (Y4 b fun q => by rw [q, hnT] at hbo; cases hbo).trans (hkb b o hbo), hen, hl.of_keeps fun b o hb hnv => ⟨o, (Y4 b (Wf b o hb hnv)).trans hb, rfl⟩, ?_⟩ fun b o hb hnv => ⟨o.slots, (Y4 b (Wf b o hb hnv)).trans hb⟩)
 exact ⟨oe, vs, T, _, _, (Y4 e (ani hTe)).trans he, abe, hd, h1, hnT, hTe, Heap.get?_update_self _ hT (Obj.isFreed_of_fields (Obj.data_mapFields hdT _)), Obj.data_mapFields hdT _, by simp [afp]⟩
theorem Y5 {W : XK} (qH : X.stack = X.env :: X.outer) (LC : X.env.frame = some X.env.locals) : PassesOwn (model X.prog X.w) X.A X.env (XE X W) := fun ev s' h => by
 obtain ⟨e, C, pins, σ, H, s, rfl, I, hw, ho, hg, hm⟩ := h
 have hfr : X.A.frames = some (X.env :: X.outer) := by rw [I.ok.frames, qH]
 have Wc := I.Wa
 rw [qH] at Wc
 have back : ∀ {a0 : Value} {s2 : Shared}, s2.os = s'.os -> s2.gens = s'.gens -> Heap.HeldW (PySem.W.hideAll s.heap (uA X.stack)) X.stack e (.ref C) a0 X.env.locals s2.heap -> ic X.stack s.heap s2.heap -> cameBackBy (model X.prog X.w) X.A X.env (XE X W) (.ref e) s2 := fun {a0 s2} o2 g2 hh fs => by
   obtain ⟨k1, k2, k3, k4⟩ := hh
   refine Wd LC k1 k2 k3 k4 fun h' hh' hu => ?_
   exact ⟨e, C, pins, σ, H, s, rfl, I, hw, o2.trans ho, by show AllBare s2.gens; rw [g2]; exact hg, .inr ⟨a0, hh', fs.up k3 hu⟩⟩
 rcases hm with hm | ⟨a0, hm, hs⟩
 . obtain ⟨t, he, htn, ht⟩ := hm.there
   have fresh : ∀ b, s.heap.get? b = none -> (PySem.W.hideAll s.heap (uA X.stack)).get? b = none := fun b hb => by
     cases hq : (PySem.W.hideAll s.heap (uA X.stack)).get? b with
     | none => rfl
     | some o' => have := anA _ hq; rw [hb] at this; cases this
   have hf2 : s'.heap.FunFrames (PySem.W.hideAll s.heap (uA X.stack)) (X.env :: X.outer) := by
     rw [qH]
     exact Wc.of_keeps fun b o hb _ => ⟨o, hm.keeps b o hb, rfl⟩
   unfold notedBy noteFrame
   simp only [LC]
   refine amq (wpAny_field (x := .none) he rfl rfl ?_)
   rw [alT (by decide)]
   refine wpAny_entryW (base := PySem.W.hideAll s.heap (uA X.stack)) hfr hf2 LC he (fun b o hb => hm.keeps b o (anA _ hb)) (fresh e hm.new) rfl (show 1 < 6 by decide) rfl fun h' hN => ?_
   obtain ⟨k1, k2, k3, k4⟩ := hN
   rw [← qH] at k2
   refine back rfl rfl ⟨k1, fresh e hm.new, k2, k3⟩ ?_
   have f1 : ic X.stack s.heap s'.heap := fun b hb o hq => ⟨o.slots, hm.keeps _ _ hq⟩
   rw [← qH] at hf2
   exact f1.up hf2 k4
 . unfold notedBy
   exact wpAny_noteFrame_againW LC hm.2.2.2 (back rfl rfl hm hs)
structure iN (K : PySem.W.Frag) (C : Addr) : Prop where
 ex : ∃ nm q N bs bm hdct sn sub ab col dd k0 k1 k2 k3 k5, K.lookup C = some (excClassObj nm q C N bs bm hdct sn sub ab col dd k0 k1 k2 k3 k5 "ValueError.__new__") /\ PySem.W.nsOkIn K N = true /\ PySem.W.nsIn K N "__init__" = some none /\ PySem.W.tailIn K qQ bm = true
theorem Sh {W : XK} {x : Str} {C : Addr} {np xR pos : Pos} {D : Ends} (afr : X.calm = true) (hg : Gl X x) (hm : X.mg x = some (.ref C)) (O : iN X.K C) (hw : W (.ref C) none H) (hd : (x == ("__debug__" : Str)) = false := by decide) :
   L3.Yy (X.wish (XE X W)) (.Raise (some (.Call (.Name x np) [] [] xR)) none pos) D σ H := fun pins s I => by
 have J : Inv X pins σ H s := I.mJ
 obtain ⟨nm, q, N, bs, bm, hdct, sn, sub, ab, col, dd, k0, k1, k2, k3, k5, o1, o2, o3, o4⟩ := O.ex
 have tl := PySem.W.tail_of_in J.FQ o4
 refine wpAny_Raise_call_subT (C := C) (nm := nm) (q := q) (N := N) (bs := bs) (bm := bm) (bmB := qQ) (k0 := k0) (k1 := k1) (k2 := k2) (k3 := k3) (k5 := k5) (dd := dd) (col := col) (ab := ab) (sub := sub) (sn := sn) (hdct := hdct) PySem.F.excBase_ValueError (mN := s.heap.nsMap N) (tl.hasType (b := true) PySem.F.excBase_ValueError.hasBase) (J.ok.hd afr) rfl (PySem.W.nsMap_none_of_in J.FQ o2 o3) (qJ I hg hm ⟨rfl, ?_⟩ hd)
 exact evalArgs_empty ⟨rfl, amu _, J.FQ _ _ o1, .of_isNs (PySem.W.isNs_of_in J.FQ o2), tl, fun h' e hx => ⟨e, C, pins, σ, H, s, rfl, J, hw, rfl, J.bare, .inl hx⟩⟩
structure Lies (X : Cx) (pins : List (Addr × Obj)) (σ : St) (H : Hp) (s : Shared) (H' : Hp) (e C : Addr) (a0 : Value) (B : Heap) (s' : Shared) : Prop where
 inv : Inv X pins σ H s
 os : s'.os = s.os
 bare : AllBare s'.gens
 fly : Heap.FlyingW B X.stack e (.ref C) a0 s'.heap
 fS : uz X.prog X.w H' B
 un : ∀ h, B.StaysIn h -> ic X.stack s.heap h -> Un (uA X.stack) [] H H' s.heap h
 fr : ic X.stack s.heap s'.heap
section
variable {H' : Hp} {e C : Addr} {a0 : Value} {B : Heap} {s' : Shared}
theorem Lies.now (L : Lies X pins σ H s H' e C a0 B s') : Inv X pins σ H' s' := L.inv.ael L.os (L.un s'.heap L.fly.1 L.fr) (L.fS.kept L.fly.1) L.bare fun b z => absurd z amC
theorem Lies.move (L : Lies X pins σ H s H' e C a0 B s') {h' : Heap} {t' : Nat} (hf : Heap.FlyingW B X.stack e (.ref C) a0 h') (u : s'.heap.UpToSlots h') : Lies X pins σ H s H' e C a0 B { s' with heap := h', toks := t' } :=
 ⟨L.inv, L.os, L.bare, hf, L.fS, L.un, L.fr.up L.fly.2.2.1 u⟩
noncomputable abbrev Cx.hand (X : Cx) (e : Addr) : Cx := { X with A := X.A.mark (some (.ref e)), calm := false }
theorem Inv.hand (I : Inv X pins σ H s) (e : Addr) : Inv (X.hand e) pins σ H s :=
 ⟨⟨I.ok.mod, I.ok.kind, I.ok.glob, I.ok.blt, I.ok.above, I.ok.inj, I.ok.has, I.ok.cab, (fun h => by cases h), I.ok.frames, I.ok.stk, I.ok.exf, I.ok.bs, I.ok.UQ, I.ok.LJ, I.ok.Rr, I.ok.vD, I.ok.XR⟩, I.os, I.bare, I.base, I.loc, I.cell, I.free, I.oY, I.pin, I.fS, I.len⟩
theorem Inv.Gu {e : Addr} (ok : X.Ok) (I : Inv (X.hand e) pins σ H s) : Inv X pins σ H s := ⟨ok, I.os, I.bare, I.base, I.loc, I.cell, I.free, I.oY, I.pin, I.fS, I.len⟩
theorem aiw {Q : Flow -> Shared -> Prop} {E : Value -> Shared -> Prop} {hs : List ExceptHandler} (qH : X.stack = X.env :: X.outer) (LC : X.env.frame = some X.env.locals) (L : Lies X pins σ H s H' e C a0 B s')
   (k : ∀ s3, Lies X pins σ H s H' e C a0 B s3 -> wpAny (model X.prog X.w) X.A (handleBy (.ref e) X.env hs) Q E s3) :
   wpAny (model X.prog X.w) X.A (noteFrame (.ref e) X.env) (fun _ s₂ => wpAny (model X.prog X.w) X.A (setFlight (.ref e) none) (fun _ s₃ => wpAny (model X.prog X.w) X.A (handleBy (.ref e) X.env hs) Q E s₃) E s₂) E s' := by
 have hfr : X.A.frames = some (X.env :: X.outer) := by rw [L.inv.ok.frames, qH]
 have hfl := L.fly
 rw [qH] at hfl
 refine wpAny_looks_onW hfr LC hfl fun h4 hh4 u4 => wpAny_landsW hh4 fun h5 hf5 u5 => k _ ?_
 rw [← qH] at hf5
 exact L.move hf5 (u4.trans u5)
theorem aaL {Q : Flow -> Shared -> Prop} {E : Value -> Shared -> Prop} {x : Str} {Dd : Addr} {np pos : Pos} {b₀ : Stmt} {suite : List Stmt} {rest : List ExceptHandler} {m : Bool} (L : Lies X pins σ H s H' e C a0 B s') (hg : Gl X x) (hm : X.mg x = some (.ref Dd))
   (hx : PySem.W.exmOne X.K (.ref C) (.ref Dd) = some m)
   (k : if m then ∀ s4, Lies X pins σ H s H' e C a0 B s4 -> wpAny (model X.prog X.w) (X.hand e).A (execs (b₀ :: suite) X.env) Q (fun _ _ => False) s4 else ∀ s4, Lies X pins σ H s H' e C a0 B s4 -> wpAny (model X.prog X.w) X.A (handleBy (.ref e) X.env rest) Q E s4)
   (hd : (x == ("__debug__" : Str)) = false := by decide) :
   wpAny (model X.prog X.w) X.A (handleBy (.ref e) X.env (.ExceptHandler (some (.Name x np)) none (b₀ :: suite) pos :: rest)) Q E s' := by
 have I := L.now
 obtain ⟨ob, hob, hoc⟩ := L.fly.there
 have LT : PySem.W.Looks (model X.prog X.w) s'.heap (typeOf (.ref e)) (.ref C) := by
   rw [← hoc]
   exact (PySem.W.Looks.ld hob).andThen .now
 refine wpAny_handleBy_cons (codeAny_handlers_test (qJ (X := X.hand e) (I.hand e) hg hm ?_ hd)) (fun q => by cases q)
 refine (PySem.W.exm_one I.FQ LT hx).here ?_
 cases m with
 | false => exact k s' L
 | true =>
   refine codeAny_handlers_suite (lands_againW L.fly fun h6 hf6 u6 => ?_)
   exact amV (k _ (L.move hf6 u6)) (fun _ _ z => z) fun _ _ z => z.elim
end
end
section
variable {X : Cx}
noncomputable abbrev Cx.pinned (X : Cx) (p : List (Addr × Obj)) : Cx := { X with pn := X.pn ++ p }
theorem Cx.Ok.pinned (ok : X.Ok) (p : List (Addr × Obj)) : (X.pinned p).Ok := ⟨ok.mod, ok.kind, ok.glob, ok.blt, ok.above, ok.inj, ok.has, ok.cab, ok.hd, ok.frames, ok.stk, ok.exf, ok.bs, ok.UQ, ok.LJ, ok.Rr, ok.vD, ok.XR⟩
theorem Inv.afs {pins : List (Addr × Obj)} {σ : St} {H : Hp} {s : Shared} (I : Inv X pins σ H s) : Inv (X.pinned pins) [] σ H s :=
 ⟨I.ok.pinned pins, I.os, I.bare, I.base, I.loc, I.cell, I.free, I.oY, (fun p hp => I.pin p (by rw [amH] at hp; exact hp)), I.fS, I.len⟩
theorem Inv.acI {pins p2 : List (Addr × Obj)} {σ : St} {H : Hp} {s : Shared} (ok : X.Ok) (I : Inv (X.pinned pins) p2 σ H s) : Inv X pins σ H s :=
 ⟨ok, I.os, I.bare, I.base, I.loc, I.cell, I.free, I.oY, (fun p hp => I.pin p (al4 _ hp)), I.fS, I.len⟩
end
end L2
namespace L3
open PySem PySem.Spec PyProof.Rows L2
noncomputable def Ct (b : Bx) (E : XK) (C : Addr) : Prop := ∀ H' Z' : Hp, aM b.B H' -> aM b.Z Z' -> aM Z' H' -> (∀ a o, Z' a = some o -> b.Z a = none -> b.B a = none) -> (∀ a o, H' a = some o -> qc o = true -> Z' a = some o) -> E (.ref C) none H'
noncomputable def spR (K : PySem.W.Frag) (CL : Str -> Addr) {A : Type} (n : Nat) (arg : A -> List D) (Pre : A -> Prop) (exc : A -> Str) : Sp := fun vs H _ E =>
 ∃ (W : Hp) (a : A), aM W H /\ (∀ c o, H c = some o -> qc o = true -> W c = some o) /\ aL K CL W (arg a) vs /\ (arg a).length = n /\ Pre a /\ qL CL W /\ Ct ⟨H, W⟩ E (CL (exc a))
section
variable {X : Cx} {CL : Str -> Addr} {b : Bx} {δ δ1 δ2 : List (Option T)} {e : Expr} {es : List Expr} {eW : List Stmt} {D : dg} {x c : Str} {i : Nat} {pos pp : Pos} {W : XK}
theorem xY {np xR : Pos} (hc : X.calm = true) (hg : Gl X c) (hm : X.mg c = some (.ref (CL c))) (O : iN X.K (CL c)) (hE : Ct b W (CL c)) (hd : (c == ("__debug__" : Str)) = false := by decide) :
   gw (X.wish (XE X W)) CL b (.Raise (some (.Call (.Name c np) [] [] xR)) none pos :: eW) δ D := dD fun H Z σ ts vs E S M =>
 Sh hc hg hm O (hE H Z S.bh S.zz S.zh S.new S.tp) hd
theorem acJ {P : Program} {w : World} {K : PySem.W.Frag} {mg : Str -> Option Value} {base : Heap} {qual : Str} {st : Stmt} {f : Addr} {fd : FuncData} {N ps : List Str} {k : Nat} {A : Type} {arg : A -> List L3.D} {Pre : A -> Prop} {exc : A -> Str} (F : nS K x qual st f fd) (S : aT N ps (aA st))
   (hb : ∀ (gu : Value) (Ar : Around) (outer : List Env) (s : Shared) (H : Hp) (E : XK) (b : Bx) (a : A), jk k (Ar.deeper (envOfC qual (aA st) s.heap.objs.size f gu)) -> Pre a -> Ct b E (CL (exc a)) →
     gw ((EW (CX8 P w) P w K mg base N qual (aA st) f gu Ar outer s H E).wish (XE (EW (CX8 P w) P w K mg base N qual (aA st) f gu Ar outer s H E) E)) CL b (iZ st) (entry N (arg a)) { nx := fun _ => False, rt := fun _ _ => False }) :
   cJ P w K mg base (CX8 P w) (k + 1) f fd ps (spR K CL ps.length arg Pre exc) := by
 obtain ⟨oc, od, kV, doc, pm, an, gu, ct, UI, rfl, lk, qo⟩ := F.ex
 refine aau lk qo S (fun vs H Q E h => ?_) fun Ar outer s H vs Q E hr h => ?_
 . obtain ⟨W, a, _, _, r, hl, _⟩ := h
   rw [← r.length]; exact hl
 . obtain ⟨W, a, wh, tp, r, hl, hp, tb, hE⟩ := h
   have h0 : i6 K CL H W (entry N (arg a)) (start N vs) [] := by
     unfold entry L2.start
     rw [← r.length]
     exact n8 _ r
   have h1 : ∀ c o, W c = some o -> W c = none -> H c = none := fun c o q z => by rw [q] at z; cases z
   have body := hb gu Ar outer s H E ⟨H, W⟩ a hr hp hE H W (start N vs) [] [] { nx := fun _ _ => False, rt := fun _ _ => False } ⟨⟨[], [], h0, .nil, am7, fun c hc => by cases hc⟩, .refl _, .refl _, wh, h1, tp, tb⟩ ⟨fun _ _ _ _ _ _ z => z.elim, fun _ _ _ _ _ _ _ _ z => z.elim, fun _ _ _ _ _ _ z => z.elim, fun _ _ _ _ _ _ z => z.elim⟩
   refine ⟨Vs _ (iZ st), XW, fun pins s1 I => ?_⟩
   refine amV (body pins s1 (I.wish _)) (fun fl s' z => ?_) fun ev s' z => acH rfl rfl rfl z
   cases fl with
   | next => obtain ⟨_, _, _, q⟩ := z; exact q.elim
   | brk => obtain ⟨_, _, _, q⟩ := z; exact q.elim
   | cont => obtain ⟨_, _, _, q⟩ := z; exact q.elim
   | ret u => obtain ⟨_, _, _, _, _, q⟩ := z; exact q.elim
structure FcR (X : Cx) (CL : Str -> Addr) (x : Str) (k n : Nat) {A : Type} (arg : A -> List L3.D) (Pre : A -> Prop) (exc : A -> Str) : Prop where
 ex : ∃ f fd ps, cJ X.prog X.w X.K X.mg X.base (CX8 X.prog X.w) k f fd ps (spR X.K CL n arg Pre exc) /\ X.mg x = some (.ref f) /\ PySem.W.keepIn X.K (.ref f) = true /\ Binds X.K fd ps []
 room : jk k X.A
noncomputable def Gv (X : Cx) (CL : Str -> Addr) (b : Bx) (Z : Hp) (δ1 : List (Option T)) (ts : List T) (vs : List V) (C : Addr) (ev : Value) (s' : Shared) : Prop :=
 ∃ (e : Addr) (a0 : Value) (B : Heap) (pins : List (Addr × Obj)) (σ : L2.St) (H : Hp) (s : Shared) (H' Z' : Hp), ev = .ref e /\ Lies X pins σ H s H' e C a0 B s' /\ aM Z Z' /\ cy X.K CL b H' Z' δ1 σ ts vs
noncomputable def TRv (X : Cx) (CL : Str -> Addr) (b : Bx) (e : Expr) (δ : List (Option T)) (c : Str) (δ1 : List (Option T)) : Prop :=
 ∀ (H Z : Hp) (σ : L2.St) (ts : List T) (vs : List V), cy X.K CL b H Z δ σ ts vs -> IQ (X.wish (Gv X CL b Z δ1 ts vs (CL c))) e σ H fun _ _ => False
noncomputable def TRs (X : Cx) (CL : Str -> Addr) (b : Bx) (st : List Stmt) (δ : List (Option T)) (c : Str) (δ1 : List (Option T)) : Prop :=
 ∀ (H Z : Hp) (σ : L2.St) (ts : List T) (vs : List V) (D : Ends), cy X.K CL b H Z δ σ ts vs -> Vs (X.wish (Gv X CL b Z δ1 ts vs (CL c))) st D σ H
theorem Si {H : Hp} {σ : L2.St} {Q : List V -> Hp -> Prop} {E : Value -> Shared -> Prop} (hx : X.xe = fun _ _ => False) (h : IU X es σ H Q) : IU (X.wish E) es σ H Q := fun pos pins s I =>
 amV (h pos pins s I.mJ) (fun us s' ⟨vs, H', I', r, q⟩ => ⟨vs, H', I'.wish E, r, q⟩) fun ev s' z => by rw [hx] at z; exact z.elim
theorem cy.grown {K : PySem.W.Frag} {H H' Z W W' : Hp} {σ : L2.St} {ts : List T} {vs : List V} (S : cy K CL b H Z δ σ ts vs) (hh : aM H H') (zw : aM Z W) (ww : aM W W') (wh : aM W' H') (new : ∀ a o, W' a = some o -> W a = none -> H a = none)
   (tp : ∀ a o, H' a = some o -> qc o = true -> W' a = some o) : ∃ Z', aM Z Z' /\ cy K CL b H' Z' δ σ ts vs := by
 obtain ⟨Z', z, S'⟩ := S.back (t := .sh .non) (v := .non) (fp := []) hh zw ww wh new tp (.sh .non) am7 (fun a ha => by cases ha) (.inr rfl)
 exact ⟨Z', z, S'.pop⟩
theorem Dl {k n : Nat} {A : Type} {arg : A -> List L3.D} {Pre : A -> Prop} {exc : A -> Str} (a : A) (hx : X.xe = fun _ _ => False) (F : FcR X CL x k n arg Pre exc) (hg : Gl X x) (h : Vw X CL b (e :: es) δ (arg a) δ1) (hp : Pre a) (hn : (arg a).length = n := by rfl)
   (CZ : (x == ("__debug__" : Str)) = false := by decide) (he : starEach (e :: es) X.env = (false, eval e X.env) :: starEach es X.env := by exact cz rfl) (hpl : (backTo pos (starEach es X.env)).any (·.1) = false := by rfl) :
   TRv X CL b (.Call (.Name x pp) (e :: es) [] pos) δ (exc a) δ1 := fun H Z σ ts vs S pins s I => by
 obtain ⟨f, fd, ps, F1, hm, hk, hb⟩ := F.ex
 have hA : IU X (e :: es) σ H fun us H1 => ∃ Z1, aM Z Z1 /\ cy X.K CL b H1 Z1 δ1 σ ts vs /\ aL X.K CL H1 (arg a) us := h H Z σ ts vs _ S fun us H1 Z1 z1 k1 S1 r => ⟨Z1, z1, S1, r⟩
 refine ane (qJ I hg hm ?_ CZ)
 refine PySem.W.callWith_K (h₀ := X.base) I.ok.mod.kin hk (fk (Si hx hA pos pins s I) fun us s1 ⟨ws, H1, I1, r, Z1, z1, S1, rf⟩ => ⟨I1.FQ, ?_⟩) he hpl
 let E0 : XK := fun cv _ H' => cv = .ref (CL (exc a)) /\ ∃ Z', aM Z Z' /\ cy X.K CL b H' Z' δ1 σ ts vs
 have Vb : spR X.K CL n arg Pre exc ws H1 (fun _ _ => False) E0 := ⟨H1, a, .refl _, fun _ _ q _ => q, rf, hn, hp, S1.Vt, fun H' Z' hh ww wh nw tp => ⟨rfl, by
   obtain ⟨Z2, z2, S2⟩ := S1.grown hh S1.zh ww wh nw tp
   exact ⟨Z2, z1.trans z2, S2⟩⟩⟩
 have hl : us.length = ps.length := by rw [← r.length]; exact F1.len _ _ _ _ Vb
 have hbd := hb s1 us I1.FQ (by rw [amH]; exact hl)
 rw [amH] at hbd
 refine wpAny_call (anv (F1.run X.A X.stack s1 H1 ⟨us, []⟩ us ws (fun _ _ => False) E0 F.room I1.mJ.abJ hbd r Vb) fun rr s' hq => ?_)
 cases rr with
 | error ev =>
   obtain ⟨e1, C, a0, B, H', rfl, o1, o2, o3, o4, o5, o6, hC, Z', z', S'⟩ := hq
   cases hC
   exact ⟨e1, a0, B, pins, σ, H1, s1, H', Z', rfl, ⟨I1.mJ, o1, o2, o3, o4, o5, o6⟩, z', S'⟩
 | ok fl =>
   cases fl with
   | ret u =>
     obtain ⟨v, H', _, _, _, _, _, q⟩ := hq
     exact q.elim
   | next => exact False.elim hq
   | brk => exact False.elim hq
   | cont => exact False.elim hq
theorem TRv.any {H Z : Hp} {σ : L2.St} {ts : List T} {vs : List V} {Q : VK} (h : TRv X CL b e δ c δ1) (S : cy X.K CL b H Z δ σ ts vs) : IQ (X.wish (Gv X CL b Z δ1 ts vs (CL c))) e σ H Q := fun pins s I =>
 amV (h H Z σ ts vs S pins s I) (fun _ _ ⟨_, _, _, _, q⟩ => q.elim) fun _ _ z => z
theorem Jv {kj : Nat} {p2 : Pos} (h : TRv X CL b e δ c δ1) : TRv X CL b (.Compare e [.Is] [.Constant .none kj p2] pos) δ c δ1 := fun H Z σ ts vs S => dw (LQ (LN eU)) (h.any S)
theorem Jw {pos' : Pos} (nd : X.N.Nodup) (n : Ln X i x) (h : TRv X CL b e δ c δ1) (hs : swapsWith e (some (.Name x pos')) pos.line X.env = pure false := by rfl) : TRs X CL b (.Assign [.Name x pos'] e pos :: eW) δ c δ1 := fun H Z σ ts vs D S =>
 abV (Iz psS XW) (zI (UU (X := X.wish (Gv X CL b Z δ1 ts vs (CL c))) nd n.hi n.loc eU hs n.hf) (h.any S))
theorem Vn.pin {p : List (Addr × Obj)} (h : Vn X i x) : Vn (X.pinned p) i x := ⟨h.hi, h.hv, h.hd, h.qo⟩
theorem FcR.pin {p : List (Addr × Obj)} {k n : Nat} {A : Type} {arg : A -> List L3.D} {Pre : A -> Prop} {exc : A -> Str} (F : FcR X CL x k n arg Pre exc) : FcR (X.pinned p) CL x k n arg Pre exc := ⟨F.ex, F.room⟩
inductive Sj (X : Cx) (CL : Str -> Addr) (c : Str) : List ExceptHandler -> List Stmt -> Prop
 | hit {x : Str} {Dd : Addr} {np pos : Pos} {b₀ : Stmt} {suite : List Stmt} {rest : List ExceptHandler} : Gl X x -> X.mg x = some (.ref Dd) -> PySem.W.exmOne X.K (.ref (CL c)) (.ref Dd) = some true -> (x == ("__debug__" : Str)) = false -> Sj X CL c (.ExceptHandler (some (.Name x np)) none (b₀ :: suite) pos :: rest) (b₀ :: suite)
 | miss {x : Str} {Dd : Addr} {np pos : Pos} {b₀ : Stmt} {suite st : List Stmt} {rest : List ExceptHandler} : Gl X x -> X.mg x = some (.ref Dd) -> PySem.W.exmOne X.K (.ref (CL c)) (.ref Dd) = some false -> (x == ("__debug__" : Str)) = false -> Sj X CL c rest st -> Sj X CL c (.ExceptHandler (some (.Name x np)) none (b₀ :: suite) pos :: rest) st
theorem Sj.run {Q : Flow -> Shared -> Prop} {E : Value -> Shared -> Prop} {hs : List ExceptHandler} {st : List Stmt} {pins p : List (Addr × Obj)} {σ : L2.St} {H H' : Hp} {s s' : Shared} {e : Addr} {a0 : Value} {B : Heap} (h : Sj X CL c hs st) (L : Lies (X.pinned p) pins σ H s H' e (CL c) a0 B s')
   (k : ∀ s4, Lies (X.pinned p) pins σ H s H' e (CL c) a0 B s4 -> wpAny (model X.prog X.w) (X.hand e).A (execs st X.env) Q (fun _ _ => False) s4) : wpAny (model X.prog X.w) X.A (handleBy (.ref e) X.env hs) Q E s' := by
 induction h generalizing s' with
 | hit h1 h2 h3 h4 => exact aaL (X := X.pinned p) (m := true) L h1 h2 h3 k h4
 | miss h1 h2 h3 h4 _ ih => exact aaL (X := X.pinned p) (m := false) L h1 h2 h3 (fun s4 L4 => ih L4 k) h4
theorem Dm {body : List Stmt} {h0 : ExceptHandler} {hs : List ExceptHandler} {st : List Stmt} (qH : X.stack = X.env :: X.outer) (LC : X.env.frame = some X.env.locals) (hxf : X.xe = fun _ _ => False) (r : ∀ p, TRs (X.pinned p) CL b body δ c δ1) (hh : Sj X CL c (h0 :: hs) st)
   (k : ∀ e, gw (X.hand e) CL b st δ1 { D with nx := fun δ2 => gw X CL b eW δ2 D }) : gw X CL b (.Try body (h0 :: hs) [] [] pos :: eW) δ D := dD fun H Z σ ts vs E S M pins s I => by
 refine wpAny_Try_except (amV (r pins H Z σ ts vs { nx := fun _ _ => False, rt := fun _ _ => False } S [] s (I.afs.wish _)) (fun f s1 z => ?_) fun ev s1 z => ?_)
 . cases f with
   | next => obtain ⟨_, _, _, q⟩ := z; exact q.elim
   | brk => obtain ⟨_, _, _, q⟩ := z; exact q.elim
   | cont => obtain ⟨_, _, _, q⟩ := z; exact q.elim
   | ret u => obtain ⟨_, _, _, _, _, q⟩ := z; exact q.elim
 . obtain ⟨e, a0, B, Iq, σ', H1, s0, H', Z', rfl, L, z', S'⟩ := z
   refine aiw (X := X.pinned pins) qH LC L fun s3 L3 => hh.run L3 fun s4 L4 => ?_
   have J := (L4.now.acI I.ok).hand e
   refine amV (k e H' Z' σ' ts vs E S' (M.mono z') pins s4 J) (fun f s5 z => ?_) fun _ _ z => by rw [show (X.hand e).xe = X.xe from rfl, hxf] at z; exact z
   cases f with
   | next => obtain ⟨σ5, H5, I5, q⟩ := z; exact ⟨σ5, H5, I5.Gu I.ok, q⟩
   | brk => obtain ⟨σ5, H5, I5, q⟩ := z; exact ⟨σ5, H5, I5.Gu I.ok, q⟩
   | cont => obtain ⟨σ5, H5, I5, q⟩ := z; exact ⟨σ5, H5, I5.Gu I.ok, q⟩
   | ret u => obtain ⟨v, σ5, H5, I5, rv, q⟩ := z; exact ⟨v, σ5, H5, I5.Gu I.ok, rv, q⟩
theorem acK {body : List Stmt} {h0 : ExceptHandler} {hs : List ExceptHandler} (hxf : X.xe = fun _ _ => False) (h : gw X CL b body δ { D with nx := fun δ2 => gw X CL b eW δ2 D }) : gw X CL b (.Try body (h0 :: hs) [] [] pos :: eW) δ D := dD fun H Z σ ts vs E S M pins s I => by
 refine wpAny_Try_except (amV (h H Z σ ts vs E S M pins s I) (fun f s1 z => ?_) fun ev s1 z => by rw [hxf] at z; exact z.elim)
 cases f with
 | next => exact wpAny_execs_nil z
 | brk => exact z
 | cont => exact z
 | ret u => exact z
end
end L3
namespace L2
open PySem PySem.Spec PyProof.Rows
section
variable {prog : Program} {w : World} {A : Around} {E : Value -> Shared -> Prop} {s : Shared} {K : PySem.W.Frag} {x D : Addr}
open PySem.W in
open PySem PySem.Calls PyProof.Rows Builtin Builtin.ObjectAttr Builtin.Getset_descriptor PySem.W PySem.Builtin.ObjectAttr in
variable {X : Cx}
section
variable {pins : List (Addr × Obj)} {σ : St} {H H' : Hp} {s s' : Shared} {e C : Addr} {a0 : Value} {B : Heap}
end
end
end L2
namespace L3
open PySem PySem.Spec PyProof.Rows L2
section
variable {X : Cx} {CL : Str -> Addr} {b : Bx} {δ δ1 δ2 : List (Option T)} {e e1 e2 : Expr} {es : List Expr} {eW : List Stmt} {D : dg} {x c : Str} {i : Nat} {pos pp : Pos} {W : XK}
theorem Ln.hand {a : Addr} (h : Ln X i x) : Ln (X.hand a) i x := ⟨⟨h.hi, h.hv, h.hd, h.qo⟩, h.loc, h.hf⟩
theorem Dn {t : T} {pos' : Pos} (nd : X.N.Nodup) (n : Ln X i x) (h : cY X CL b e δ t δ1) (k : gw X CL b eW (δ1.set i (some t)) D) (hl : i < δ1.length := by exact alY rfl) (hs : swapsWith e (some (.Name x pos')) pos.line X.env = pure false := by rfl) :
   gw X CL b (.Assign [.Name x pos'] e pos :: eW) δ D := dD (Mj i h k hl nd n.hi n.loc hs n.hf)
end
section
variable {prog : Program} {w : World} {A : Around} {E : Value -> Shared -> Prop} {s : Shared}
noncomputable def cD (ns : List Str) : Nat -> Nat
 | 0 => 0
 | i + 1 => cD ns i + (if pA ns i (ns.getD i Str.empty) = true then 0 else 1)
theorem Qu (ns : List Str) : ∀ i, cD ns i <= i
 | 0 => al9 _
 | i + 1 => by have := Qu ns i; unfold cD; split <;> omega
theorem Sl {R : Result -> Shared -> Prop} {I a : Addr} {items : Array Value} (hh : A.in1.handled = none) (hne : a ≠ I) {S : Addr} (hS1 : S ≠ I) (hS2 : S ≠ a) {ns : List Str} (hn : items.size = ns.length) (hb : ns.length + 1 < scanBound)
   (hv : ∀ (i : Nat) (v : Value), items[i]? = some v -> ∃ x t, ns[i]? = some x /\ v = Value.str x t) :
   ∀ (k i : Nat) (h : Heap) (tk : Nat), i + k = ns.length -> h.IsListIter I a i -> h.IsList a items -> h.SetOf (strKind prog w) S (pA ns i) (cD ns i) →
     (∀ h' tk', (∀ b o, b ≠ S -> b ≠ I -> h.get? b = some o -> h'.get? b = some o) -> h'.SetOf (strKind prog w) S (pA ns ns.length) (cD ns ns.length) -> R (.ok (.ret .none)) { s with heap := h', toks := tk' }) →
     codeAny (model prog w) A (.builtin "set.update.loop" ⟨[.ref S, .ref I], []⟩) R { s with heap := h, toks := tk } := by
 have W := Walks.list (prog := prog) (w := w) (A := A.in1) hh I a hne items
 have aaM : ∀ {h h' : Heap} {f : Str -> Bool} {n : Nat}, (∀ b o, b ∉ [I] -> h.get? b = some o -> h'.get? b = some o) -> h.SetOf (strKind prog w) S f n -> h'.SetOf (strKind prog w) S f n := fun hk ⟨o, es, ep, t, ho, r⟩ => ⟨o, es, ep, t, hk S o (by simp [hS1]) ho, r⟩
 intro k
 induction k with
 | zero =>
   intro i h tk hi hit hl hs hR
   have ei : i = items.size := by omega
   refine codeAny_builtin F.entry_set_update_loop ?_
   rw [Around.under_plainId anG _]
   refine amq (m := pyNext (.ref I)) (W.done { s with heap := h, toks := tk } _ _ ⟨ei ▸ hit, hl⟩ fun h' tk' hk => ?_)
   refine amL (hR h' tk' (fun b o _ b2 e => hk b o (by simp [b2]) e) (aaM hk ?_))
   rw [← hn, ← ei]
   rw [ei] at hs ⊢
   exact hs
 | succ k ih =>
   intro i h tk hi hit hl hs hR
   refine codeAny_builtin F.entry_set_update_loop ?_
   rw [Around.under_plainId anG _]
   refine amq (m := pyNext (.ref I)) (W.item i { s with heap := h, toks := tk } _ _ (by omega) ⟨hit, hl⟩ fun v h1 t1 hv1 st1 hk => ?_)
   obtain ⟨x, t, hx, rfl⟩ := hv i v hv1
   have hs1 := aaM hk hs
   have hxi : i < ns.length := by omega
   have hxe : ns[i] = x := (amj.mp hx).2
   have hle := Qu ns i
   have hgd : ns.getD i Str.empty = x := by rw [amJ, hx]; rfl
   refine amq (m := holding [Value.str x t] (setAdd S (.str x t))) (anJ ?_)
   unfold setAdd
   refine anJ (amq ((strKind prog w).pyHash (k := x) (strKind_is _ _ _ _) ?_))
   refine wpAny_setAddHashed_of (knd := strKind prog w) (strKind_is _ _ _ _) rfl hs1 (by omega) fun h2 sb LW => ?_
   have hs3 : h2.SetOf (strKind prog w) S (pA ns (i + 1)) (cD ns (i + 1)) := by
     have ec : cD ns (i + 1) = (if pA ns i x = true then cD ns i else cD ns i + 1) := by
       show cD ns i + (if pA ns i (ns.getD i Str.empty) = true then 0 else 1) = _
       rw [hgd]
       split <;> rfl
     have e : (fun k' => pA ns i k' || decide (k' = x)) = pA ns (i + 1) := by
       funext q
       unfold pA
       rw [anu, hx, ← Bool.decide_or]
       exact amY.mpr (by simp)
     rw [← e, ec]
     exact LW
   have k12 : ∀ b o, b ≠ S -> h1.get? b = some o -> h2.get? b = some o := fun b o hb e => (sb.2 b hb).trans e
   refine amL ⟨plainId_quiet anG _, ih (i + 1) h2 _ (by omega) (st1.1.at fun o e => k12 I o (ani hS1) e) (st1.2.at fun o e => k12 a o (ani hS2) e) hs3 fun h' tk' hk2 hs' => ?_⟩
   exact hR h' tk' (fun b o b1 b2 e => hk2 b o b1 b2 (k12 b o b1 (hk b o (by simp [b2]) e))) hs'
theorem Gw {a : Addr} {items : Array Value} {ns : List Str} {Q : Value -> Shared -> Prop} (hh : A.handled = none) (hl : s.heap.IsList a items) (hn : items.size = ns.length) (hb : ns.length + 1 < scanBound)
   (hv : ∀ (i : Nat) (v : Value), items[i]? = some v -> ∃ x t, ns[i]? = some x /\ v = Value.str x t)
   (hQ : ∀ h' tk, h'.SetOf (strKind prog w) s.heap.objs.size (pA ns ns.length) (cD ns ns.length) -> (∀ b o, s.heap.get? b = some o -> h'.get? b = some o) -> Q (.ref s.heap.objs.size) { s with heap := h', toks := tk }) :
   wpAny (model prog w) A (call (.type "set") [.ref a]) Q E s := by
 obtain ⟨c, tl, q1⟩ := anj.mro
 have q2 := anj.made; have q3 := anj.sub; have q4 := anj.notType; have q5 := anj.canCreate; have q6 := F.typeCall_set_1 (.ref a)
 refine wpAny_call (codeAny_of_tree (show wpAny _ _ (callAny (.type "set") _) _ _ _ from amL ⟨Code.quiet_builtin _ (by decide +kernel), codeAny_builtin F.entry_type_call ?_⟩))
 rw [Around.under_plain (weight_type_call_type "set" [.ref a] []) rfl]
 repeat (any_goals (first | assumption | wp_step))
 refine anv (code_set_new_1 (.ref a) (E := E) (Q₁ := fun z s₁ => ∃ led : Bool, z = .ref s.heap.objs.size /\ s₁ = { s with heap := s.heap.push { cls := .type "set", dict := none, data := .set #[] 0 (.fresh 0 0 led) } }) fun led => ⟨led, rfl, rfl⟩) fun r s1 hr => ?_
 cases r with
 | error e => exact hr
 | ok fl =>
   cases fl with
   | ret z =>
     obtain ⟨led, rfl, rfl⟩ := hr
     have hS : (s.heap.push { cls := .type "set", dict := none, data := .set #[] 0 (.fresh 0 0 led) }).get? s.heap.objs.size = some { cls := .type "set", dict := none, data := .set #[] 0 (.fresh 0 0 led) } := amx _ rfl
     have hT : Shared.TypeIs { s with heap := s.heap.push { cls := .type "set", dict := none, data := .set #[] 0 (.fresh 0 0 led) } } (.ref s.heap.objs.size) "set" := ⟨_, hS, rfl⟩
     have q7 := anj.init.lookup; have q8 := anj.init.bind (.ref s.heap.objs.size)
     repeat (any_goals (first | assumption | wp_step))
     refine anv (codeAny_call_builtin (R := wants (fun r s2 => r = .none /\ ∃ h' tk, s2 = { s with heap := h', toks := tk } /\ h'.SetOf (strKind prog w) s.heap.objs.size (pA ns ns.length) (cD ns ns.length) /\ ∀ b o, s.heap.get? b = some o -> h'.get? b = some o) E) anj.init.plain F.entry_set_init (check_set_init_1 hT ?body)) fun r2 s2 hr2 => ?back
     case back =>
       cases r2 with
       | error e => exact hr2
       | ok fl =>
         cases fl with
         | ret z =>
           obtain ⟨rfl, h', tk, rfl, hS', hk'⟩ := hr2
           repeat (any_goals (first | assumption | wp_step))
           exact hQ _ _ hS' hk'
         | _ => exact hr2.elim
     case body =>
       have h0 := hl
       obtain ⟨⟨oc, od, ob, os⟩, hol, hcl, nl, hdl⟩ := hl
       cases hcl
       cases hdl
       have aiD : (s.heap.push { cls := .type "set", dict := none, data := .set #[] 0 (.fresh 0 0 led) }).get? a = some { cls := .type "list", dict := od, data := .seq items nl, slots := os } := al8 _ hol
       have hl1 : (s.heap.push { cls := .type "set", dict := none, data := .set #[] 0 (.fresh 0 0 led) }).IsList a items := ⟨_, aiD, rfl, nl, rfl⟩
       have p1 := F.sub_list_set; have p2 := F.sub_list_frozenset
       have p3 : (Value.type "list" == Value.type "dict") = false := by decide
       have ha : a < s.heap.objs.size := amb hol
       have hz : (s.heap.push { cls := .type "set", dict := none, data := .set #[] 0 (.fresh 0 0 led) }).objs.size = s.heap.objs.size + 1 := Heap.size_push ..
       unfold Builtin.«set.__init__» noKeywords Builtin.Frozenset.updateFrom
       generalize hPI : pyIter = PI
       wp_walk
       subst hPI
       refine wpAny_pyIter_list hl1 (amq (wpAny_runValue ?_))
       refine Sl (A := A.in1.in1) (S := s.heap.objs.size) (by simp [hh]) (by rw [hz]; exact amA (Nat.lt_succ_of_lt ha)) (by rw [hz]; exact amA (Nat.lt_succ_self _)) (Nat.ne_of_gt ha) hn hb hv ns.length 0 _ _ (Nat.zero_add _) ⟨_, amx _ rfl, rfl, rfl⟩ (hl1.push _) ?_ fun h' tk' hk hS' => ?_
       . have hg : ((s.heap.push { cls := .type "set", dict := none, data := .set #[] 0 (.fresh 0 0 led) }).push { cls := .type "list_iterator", data := .fields #[.ref a, .int 0 0] }).get? s.heap.objs.size = some { cls := .type "set", dict := none, data := .set #[] 0 (.fresh 0 0 led) } := al8 _ hS
         exact SetOf_congr ((setObjOf_fresh (knd := strKind prog w) led).setOf hg (by unfold scanBound; omega)) (fun q => by unfold pA; simp) rfl
       . refine amL (amL ⟨rfl, h', tk', rfl, hS', fun b o e => hk b o (amA (amb e)) ?_ (al8 _ (al8 _ e))⟩)
         rw [hz]
         exact amA (Nat.lt_succ_of_lt (amb e))
   | _ => exact hr.elim
end
section
variable {X : Cx}
theorem Mw (hc : X.calm = true) : qp X (.type "set") (fun xs H Q => ∃ (p : Addr) (ns : List Str), xs = [.ref p] /\ rV X.K H p (ns.map V.str) /\ ns.length <= 1000 /\ ∀ l, H l = none -> Q (.ref l) (upd H l (.ext (V8 X.prog X.w l (cD ns ns.length))))) := by
 intro pins s σ H xs us Q I r h
 obtain ⟨p, ns, rfl, hp, hn, q⟩ := h
 obtain ⟨u, rfl, ru⟩ := vals1 r
 cases ru
 obtain ⟨its, rv, pl, hz⟩ := I.list hp
 have hl : its.length = ns.length := by rw [← rv.length, alR]
 have hv : ∀ {ns : List Str} {us : List Value}, Vals (ns.map V.str) us -> ∀ (i : Nat) (v : Value), us[i]? = some v -> ∃ x t, ns[i]? = some x /\ v = Value.str x t := by
   intro ns
   induction ns with
   | nil => intro us h i v e; cases h; cases i <;> cases e
   | cons y ns ih =>
     intro us h i v e
     cases h with
     | cons r rr =>
       obtain ⟨t, rfl⟩ := r
       cases i with
       | zero => cases e; exact ⟨y, t, rfl, rfl⟩
       | succ i => exact ih rr i v e
 refine Gw (ns := ns) (I.ok.hd hc) pl.isList (by rw [List.size_toArray, hl]) (by unfold scanBound; omega) (fun i v e => hv rv i v (by simpa using e)) fun h' tk hS ek => ?_
 have hS2 : V8 X.prog X.w s.heap.objs.size (cD ns ns.length) h' := ⟨_, hS⟩
 refine ⟨.ref s.heap.objs.size, _, I.laid (t' := tk) (o := .ext (V8 X.prog X.w s.heap.objs.size (cD ns ns.length))) ek (al9 _) ⟨hS2, ?_, ?_⟩, rfl, q _ (I.fS.fresh (al9 _))⟩
 . obtain ⟨_, o, _, _, _, e, _⟩ := hS2
   exact ⟨o, e⟩
 . rintro h1 h2 ⟨S, o, es, ep, t, e, rest⟩ k
   exact ⟨S, o, es, ep, t, k o e, rest⟩
end
section
variable {X : Cx} {CL : Str -> Addr} {b : Bx} {δ δ1 : List (Option T)} {e : Expr} {pos pp pq pr : Pos}
theorem vN {ns : List Str} (g : Gx X) (hm : X.mg "len" = none) (hmr : X.mg "set" = none) (h : dz X CL b e δ (.lst (ns.map D.str)) δ1) (hn : ns.length <= 1000) (hg : Gl X "len") (hgr : Gl X "set") (hs : starEach [e] X.env = (false, eval e X.env) :: starEach [] X.env := by exact cz rfl) :
   cY X CL b (.Call (.Name "len" pp) [.Call (.Name "set" pq) [e] [] pr] [] pos) δ (.sh (.int (cD ns ns.length : Nat))) δ1 := fun H Z σ ts vs Q S k =>
 dw (n6 Gs hg hm PySem.boot_len (c9 (qq (Mw g.calm) hgr hmr Sf (c9 eU gf hs) (he := hs)) gf (cz rfl)) (he := cz rfl)) (h H Z σ ts vs _ S fun v H1 Z1 z1 k1 S1 r => by
   cases r with
   | lst hq rr =>
   have eu := Sg rr
   refine ⟨_, ns, rfl, by rw [← eu]; exact hq, hn, fun r hr => ⟨r, cD ns ns.length, rfl, bu, amS (Qu ns ns.length) hn, ?_⟩⟩
   have same : aM H1 (upd H1 r (.ext (V8 X.prog X.w r (cD ns ns.length)))) := aM.upd hr
   obtain ⟨Z', z', S2⟩ := S1.back (t := .sh (.int (cD ns ns.length : Nat))) (v := .int (cD ns ns.length : Nat)) (fp := []) (W := Z1) (W' := Z1) same (.refl _) (.refl _) (S1.zh.trans same) (fun a o q z => by rw [q] at z; cases z) (fun a o q im => by
     by_cases ha : a = r
     . subst ha; rw [bu] at q; cases q; cases im
     . rw [aK ha] at q; exact S1.tp a o q im) (.sh (.int _)) am7 (fun a ha => by cases ha) (.inl rfl)
   exact k _ _ _ (z1.trans z') (k1.trans same) S2)
end
theorem Qv {ns : List Str} : ∀ i, i <= ns.length -> (cD ns i = i ↔ (ns.take i).Nodup)
 | 0, _ => by rw [List.take_zero]; exact ⟨fun _ => am7, fun _ => rfl⟩
 | i + 1, hi => by
   have ih := Qv (ns := ns) i (by omega)
   have hle := Qu ns i
   have hx : ns[i]? = some (ns.getD i Str.empty) := by rw [amJ, amm (by omega)]; rfl
   rw [anu, hx, Option.toList_some, amK, ← ih]
   show cD ns i + (if pA ns i (ns.getD i Str.empty) = true then 0 else 1) = i + 1 ↔ _
   unfold pA
   by_cases z : ns.getD i Str.empty ∈ ns.take i
   . rw [alW (alV z)]
     refine ⟨fun q => by omega, fun q => absurd rfl (q.2.2 _ z _ (anr.mpr rfl))⟩
   . rw [alT (fun q => z (al2 q))]
     refine ⟨fun q => ⟨by omega, amO.mpr ⟨amC, am7⟩, fun a ha c hc e => z ?_⟩, fun q => by omega⟩
     rw [← anr.mp hc, ← e]
     exact ha
theorem Mx {ns : List Str} : cD ns ns.length = ns.length ↔ ns.Nodup := by
 have := Qv (ns := ns) ns.length (al9 _)
 rwa [List.take_length] at this
theorem Wg (l q : Addr) (xs ys : Array Value) (n m : Nat) (dq : Option Addr) (sq : Array (Option Value)) (hc : ¬(!xs.isEmpty && Builtin.List.listTooLong (xs.size + ys.size)) = true) (hx : xs.size <= sizeLine) (hy : xs.size + ys.size <= sizeLine + 1) :
   PySem.Meets (Builtin.«list.extend» ⟨[.ref l, .ref q], []⟩) (fun _ R s => s.heap.get? l = some { cls := .type "list", dict := none, data := .seq xs n, slots := #[] } /\ s.heap.get? q = some { cls := .type "list", dict := dq, data := .seq ys m, slots := sq } ∧
     R (.ok (.ret Value.none)) { s with heap := s.heap.update l (Obj.mapSeq fun x => x ++ ys), toks := s.toks }) :=
 PySem.Meets.of_wp fun prog w A R s h => by
   obtain ⟨hp, g, d, tk, os⟩ := s
   obtain ⟨hl, hb, h⟩ := h
   have f1 := AutoSeq1.idx_int
   have f2 := AutoSeq1.sub_tuple_tuple
   have f3 := AutoSeq1.sub_list_list
   have f4 := AutoSeq1.sub_tuple_list
   have f5 := AutoSeq1.sub_list_tuple
   have hz : (xs ++ ys).size <= sizeLine + 1 := by
     rw [Array.size_append]
     exact hy
   wp_walk using (wpAny_updateSeq hl rfl (hz := hx) (_hz' := hz)), wpAny_loadPart' hl, wpAny_loadPart' hb
   exact ⟨_, rfl, h⟩
noncomputable def afv (K : PySem.W.Frag) : V -> List V -> Hp -> VK -> Prop := fun x vs H Q => ∃ l q xs zs, x = .ref l /\ vs = [.ref q] /\ H l = some (.lst xs) /\ rV K H q zs /\ xs.length + zs.length <= sizeLine /\ Q .non (upd H l (.lst (xs ++ zs)))
theorem Y6 {X : Cx} : MtM X "list.extend" (afv X.K) := by
 intro pins s σ H x vs v us Q I rx rv h
 obtain ⟨l, q, xs, zs, rfl, rfl, hH, hB, hz, k⟩ := h
 cases rx
 obtain ⟨u, rfl, ru⟩ := rv.one
 cases ru
 obtain ⟨z, its, n, r, hl, e⟩ := I.Yr hH
 obtain ⟨Je, r2, ⟨⟨c2, d2, da2, s2⟩, n2, e2, hc2, _, hd2⟩, z2⟩ := I.list hB
 cases hc2
 cases hd2
 have hl2 := r2.length
 have hsz : its.toArray.size + Je.toArray.size <= sizeLine := by
   rw [amg, amg]
   omega
 have afw : ¬ (!its.toArray.isEmpty && Builtin.List.listTooLong (its.toArray.size + Je.toArray.size)) = true := by
   rw [Vi hsz, amf]
   decide
 refine call_meets F.slot_list_extend ⟨_, e, rfl⟩ F.entry_list_extend (F.args_list_extend_2 _ _) (Wg l q its.toArray Je.toArray n n2 d2 s2 afw (by rw [amg]; omega) (by omega)) ⟨e, e2, ?_⟩
 refine ⟨.non, _, I.Yq (its' := its ++ Je) hH e (by simp) (r.append r2) ?_, rfl, k⟩
 rw [amM]
 omega
section
variable {K : PySem.W.Frag} {CL : Str -> Addr} {b : Bx} {H Z : Hp} {δ : List (Option T)} {σ : L2.St} {ts tl : List T} {vs : List V} {ds : List D} {us : List V} {y : Addr}
end
section
variable {X : Cx} {CL : Str -> Addr} {b : Bx} {δ δ1 : List (Option T)} {e : Expr} {tl Qg : List T} {ds : List L3.D} {D : dg} {pos pp pa pb : Pos} {i : Nat} {x : Str} {eW : List Stmt} {y : Addr}
end
theorem Ln.pin {X : Cx} {i : Nat} {x : Str} {p : List (Addr × Obj)} (h : Ln X i x) : Ln (X.pinned p) i x := ⟨⟨h.hi, h.hv, h.hd, h.qo⟩, h.loc, h.hf⟩
theorem Dp {y : Int} : ∀ {l : List Int} {vs : List Value}, Vals (l.map V.int) vs -> vs.countP (acD y) = l.count y
 | [], _, .nil => rfl
 | k :: l, _, .cons q r => by
   obtain ⟨t, rfl⟩ := q
   rw [List.countP_cons, List.count_cons, Dp r]
   rfl
section
variable {X : Cx}
theorem Wh : MtR X "list.count" (fun x xs H Q => ∃ (p : Addr) (l : List Int) (y : Int), x = .ref p /\ xs = [.int y] /\ rV X.K H p (l.map .int) /\ Q (.int (l.count y : Nat)) H) := by
 intro pins s σ H x xs v us Q I rx rs h
 obtain ⟨p, l, y, rfl, rfl, hq, q⟩ := h
 cases rx
 obtain ⟨u, rfl, ru⟩ := rs.one
 obtain ⟨t, rfl⟩ := ru
 obtain ⟨its, r, ⟨⟨oc, od, oda, UI⟩, n, e, hc, hd, hs⟩, hz⟩ := I.list hq
 dsimp only at hc hd hs
 subst hc hd hs
 have at' : ∀ {i : Nat} (hi : i < its.toArray.size), ∃ k t, its.toArray[i] = .int k t := fun {i} EK => by
   have aiE : i < its.length := by simpa using EK
   have hl : i < l.length := by have := r.length; rw [alR] at this; omega
   obtain ⟨u, e1, e2⟩ := r.get (i := i) (x := .int l[i]) (by rw [aml, amm hl]; rfl)
   obtain ⟨t, rfl⟩ := e2
   refine ⟨l[i], t, ?_⟩
   rw [amm aiE] at e1
   simpa using Option.some.inj e1
 refine call_meets F.slot_list_count ⟨_, e, rfl⟩ F.entry_list_count (F.args_list_count_2 _ _) (SeqAt.list_countAt p its.toArray n none UI (.int y t) (acD y)) ⟨e, fun w hw => ?eqs, ?_⟩
 case eqs =>
   obtain ⟨i, EK, rfl⟩ := Array.mem_iff_getElem.mp hw
   obtain ⟨k, t', e1⟩ := at' EK
   rw [e1]
   exact SeqAt.EqAt.int_int k t' y t
 have ec : its.toArray.toList.countP (acD y) = l.count y := Dp r
 rw [ec]
 exact ⟨.int (l.count y : Nat), H, I.tok _, ⟨_, rfl⟩, q⟩
end
section
variable {X : Cx} {CL : Str -> Addr} {b : Bx} {δ δ1 δ2 : List (Option T)} {o e : Expr} {apos pos : Pos}
theorem Wi {l : List Int} {y : Int} (h1 : dz X CL b o δ (.lst (l.map .int)) δ1) (h2 : dz X CL b e δ1 (.int y) δ2)
   (mw : attributeBase o "count" X.env (eval o X.env) = eval o X.env := by rfl) (C1 : ((backTo pos (starEach [e] X.env)).all (fun x => !x.1) && (backToKw pos (keywordEach [] X.env)).all (fun x => x.1.isSome)
     && decide (([e] : List Expr).length + ([] : List Keyword).length + (if ([] : List Keyword).isEmpty then 0 else 1) < 30)) = true := by rfl)
   (hline : (apos.endLine == pos.line) = true := by rfl) (hs : starEach [e] X.env = (false, eval e X.env) :: starEach [] X.env := by exact cz rfl) (L8 : (backTo pos (starEach [] X.env)).any (·.1) = false := by rfl) :
   cY X CL b (.Call (.Attribute o "count" apos) [e] [] pos) δ (.sh (.int (l.count y : Nat))) δ2 := fun H Z σ ts vs Q S k =>
 dw (P1 (T := "list") (id := "list.count") F.plainAttrs_list F.slot_list_count F.type_list_count Wh eU (c9 eU gf hs) mw C1 hline hs L8) (h1 H Z σ ts vs _ S fun v1 H1 Z1 z1 k1 S1 r1 => by
   cases r1 with
   | @lst a us _ hq rr =>
     have := Fx rr
     subst this
     refine ⟨?_, h2 H1 Z1 σ ts vs _ S1 fun v2 H2 Z2 z2 k2 S2 r2 => ?_⟩
     . exact .inl ⟨rfl, _, hq⟩
     . cases r2
       exact ⟨a, l, y, rfl, rfl, k2.seq hq, k _ H2 Z2 (z1.trans z2) (k1.trans k2) (S2.push (.int _))⟩)
end
section
variable {K : PySem.W.Frag} {CL : Str -> Addr} {b : Bx} {H Z : Hp} {δ : List (Option T)} {σ : L2.St} {ts tl : List T} {vs : List V} {ds : List D} {us2 : List V}
theorem cy.aiF {i : Nat} (S : cy K CL b H Z δ σ ts vs) (hi : δ[i]? = some (some (.lst tl))) :
   ∃ a ws, σ[i]? = some (some (.ref a)) /\ H a = some (.lst ws) /\ cy K CL b (upd H a (.lst ws.reverse)) Z (δ.set i (some (.lst tl.reverse))) σ ts vs := by
 obtain ⟨fp, gp, e, r, nd, k⟩ := S.rep
 obtain ⟨v0, f1, f2, f3, hv, sG, rt, put, _⟩ := e.get hi
 subst sG
 cases rt with
 | @lst a ws _ g ha rs =>
   obtain ⟨g', r', pm⟩ := aZ.rev (as := tl.reverse) (us := ws.reverse) (g := g) (by rw [List.reverse_reverse, List.reverse_reverse]; exact rs)
   have ne : ∀ c ∈ (f1 ++ (g ++ f3)) ++ gp, c ≠ a := fun c hc e => by
     subst e
     have hp : ((f1 ++ ((c :: g) ++ f3)) ++ gp).Perm (c :: ((f1 ++ (g ++ f3)) ++ gp)) := by
       rw [ami, ← ami]
       exact (amU.append_right _)
     exact (amO.mp (hp.nodup_iff.mp nd)).1 hc
   refine ⟨a, ws, hv, ha, ?_⟩
   have r1 : dN K CL (upd H a (.lst ws.reverse)) Z (.lst tl.reverse) (.ref a) (a :: g') :=
     .lst bu (r'.mono (.refl _) fun c hc => aK (ne c (by simp [pm.mem_iff.mp hc])))
   have e2 := put (H' := upd H a (.lst ws.reverse)) (.refl _) (fun c hc => aK (ne c (by
     rcases al7.mp hc with h | h
     . simp [h]
     . simp [h]))) r1
   rw [jl hv] at e2
   have hp : ((f1 ++ ((a :: g') ++ f3)) ++ gp).Perm ((f1 ++ ((a :: g) ++ f3)) ++ gp) := (((pm.cons a).append_right f3).append_left f1).append_right gp
   exact S.write nd k (al0) ⟨_, ha⟩ e2 (r.mono (.refl _) fun c hc => aK (ne c (by simp [hc]))) (hp.nodup_iff.mpr nd) fun c hc => hp.mem_iff.mp hc
theorem cy.Sn {i j : Nat} {tt : List T} (S : cy K CL b H Z δ σ ts vs) (hr : aL K CL Z ds us2) (hi : δ[i]? = some (some (.lst tt))) (hj : tt[j]? = some (.lst tl)) :
   ∃ a0 Mq a us, σ[i]? = some (some (.ref a0)) /\ H a0 = some (.lst Mq) /\ Mq[j]? = some (.ref a) /\ Mq.length = tt.length /\ H a = some (.lst us) /\ us.length = tl.length /\ cy K CL b (upd H a (.lst (us ++ us2))) Z (δ.set i (some (.lst (tt.set j (.lst (tl ++ ds.map T.sh)))))) σ ts vs := by
 obtain ⟨fp, gp, e, r, nd, k⟩ := S.rep
 obtain ⟨v0, f1, f2, f3, hv, sG, rt, put, _⟩ := e.get hi
 subst sG
 cases rt with
 | @lst a0 Mq _ g0 hq r0 =>
   obtain ⟨vj, g1, g2, g3, X3, hg, rj, set⟩ := r0.at hj
   subst hg
   cases rj with
   | @lst a us _ g ha rs =>
     have ne : ∀ c ∈ (f1 ++ ((a0 :: (g1 ++ (g ++ g3))) ++ f3)) ++ gp, c ≠ a := fun c hc e => by
       subst e
       have hp : ((f1 ++ ((a0 :: (g1 ++ ((c :: g) ++ g3))) ++ f3)) ++ gp).Perm (c :: ((f1 ++ ((a0 :: (g1 ++ (g ++ g3))) ++ f3)) ++ gp)) := by
         have h1 : (a0 :: (g1 ++ ((c :: g) ++ g3))).Perm (c :: (a0 :: (g1 ++ (g ++ g3)))) := by
           have h0 : (g1 ++ ((c :: g) ++ g3)).Perm (c :: (g1 ++ (g ++ g3))) := amU
           exact (h0.cons a0).trans (List.Perm.swap c a0 _)
         have h2 := (((h1.append_right f3).append_left f1).append_right gp)
         refine h2.trans ?_
         rw [ami]
         exact amU.append_right _
       exact (amO.mp (hp.nodup_iff.mp nd)).1 hc
     have a0a : a0 ≠ a := ne a0 (by simp)
     refine ⟨a0, Mq, a, us, hv, hq, X3, r0.length.symm, ha, rs.length.symm, ?_⟩
     have r1 : dN K CL (upd H a (.lst (us ++ us2))) Z (.lst (tl ++ ds.map T.sh)) (.ref a) (a :: (g ++ [])) :=
       .lst bu (aZ.app (rs.mono (.refl _) fun c hc => aK (ne c (by simp [hc]))) (aZ.ofF hr))
     rw [amH] at r1
     have r2 := set (H' := upd H a (.lst (us ++ us2))) (fun c hc => aK (ne c (by
       rcases al7.mp hc with h | h
       . simp [h]
       . simp [h]))) r1
     rw [jl X3] at r2
     have e2 := put (H' := upd H a (.lst (us ++ us2))) (.refl _) (fun c hc => aK (ne c (by
       rcases al7.mp hc with h | h
       . simp [h]
       . simp [h]))) (.lst (by rw [aK a0a]; exact hq) r2)
     rw [jl hv] at e2
     exact S.write nd k (by simp) ⟨_, ha⟩ e2 (r.mono (.refl _) fun c hc => aK (ne c (by simp [hc]))) nd fun c hc => hc
end
section
variable {X : Cx} {CL : Str -> Addr} {b : Bx} {δ δ1 : List (Option T)} {e : Expr} {tl Qg tt tt0 : List T} {ds : List L3.D} {D : dg} {pos pp pa pb pc ps : Pos} {i : Nat} {x : Str} {eW : List Stmt} {kj : Nat}
theorem acM (n : Vn X i x) (h : δ[i]? = some (some (.lst tl))) (mw : attributeBase (.Name x pp) "reverse" X.env (eval (.Name x pp) X.env) = eval (.Name x pp) X.env := by rfl) (hline : (pa.endLine == pos.line) = true := by rfl) :
   TEm X CL b (.Call (.Attribute (.Name x pp) "reverse" pa) [] [] pos) δ (.sh .non) (δ.set i (some (.lst tl.reverse))) := fun H Z σ ts vs Q S k =>
 dw (Vh anl PySem.F.slot_list_reverse PySem.F.type_list_reverse Mb (nY n.hi n.hv n.hd n.qo) mw hline) (by
   obtain ⟨a, us, hv, ha, S2⟩ := S.aiF h
   refine ⟨_, hv, .inl ⟨rfl, _, .inl (.inl ha)⟩, ?_⟩
   exact ⟨a, us, rfl, rfl, ha, k .non _ Z (.refl _) (S2.push .non)⟩)
theorem Wj (j : Nat) (n : Vn X i x) (h0 : δ[i]? = some (some (.lst tt0))) (h0j : tt0[j]? = some (.lst Qg)) (h : dz X CL b e δ (.lst ds) δ1) (him : L3.D.cM ds = true) (h1 : δ1[i]? = some (some (.lst tt))) (h1j : tt[j]? = some (.lst tl)) (hl : tl.length + ds.length <= 1000000) (k : gw X CL b eW (δ1.set i (some (.lst (tt.set j (.lst (tl ++ ds.map T.sh)))))) D)
   (mw : attributeBase (.Subscript (.Name x pp) (.Constant (.int j) kj pc) ps) "extend" X.env (eval (.Subscript (.Name x pp) (.Constant (.int j) kj pc) ps) X.env) = eval (.Subscript (.Name x pp) (.Constant (.int j) kj pc) ps) X.env := by rfl)
   (C1 : ((backTo pb (starEach [e] X.env)).all (fun x => !x.1) && (backToKw pb (keywordEach [] X.env)).all (fun x => x.1.isSome) && decide ([e].length + ([] : List Keyword).length + (if ([] : List Keyword).isEmpty then 0 else 1) < 30)) = true := by rfl)
   (hline : (pa.endLine == pb.line) = true := by rfl) (hs : starEach [e] X.env = (false, eval e X.env) :: starEach [] X.env := by exact cz rfl) (Ml : swapsWith (.Call (.Attribute (.Subscript (.Name x pp) (.Constant (.int j) kj pc) ps) "extend" pa) [e] [] pb) none pos.line X.env = pure false := by rfl) :
   gw X CL b (.Expr (.Call (.Attribute (.Subscript (.Name x pp) (.Constant (.int j) kj pc) ps) "extend" pa) [e] [] pb) pos :: eW) δ D := dD fun H Z σ ts vs E S M =>
 zI (FY (P1 anl PySem.F.slot_list_extend PySem.F.type_list_extend Y6 (Fi F5 (nY n.hi n.hv n.hd n.qo) LK (fun _ _ => rfl)) (c9 eU gf hs) mw C1 hline hs rfl) Ml) (by
   obtain ⟨fp, gp, e0, r0, nd0, k0⟩ := S.rep
   obtain ⟨v0, f1, f2, f3, hv0, sG, rt, _, _⟩ := e0.get h0
   cases rt with
   | @lst a0 Mq _ _ hq rs =>
     obtain ⟨vj, gj, X3, rj, _⟩ := rs.get h0j
     refine ⟨_, hv0, a0, Mq, j, vj, rfl, rfl, rV.of hq, aD X3, ?_, ?_⟩
     . cases rj with
       | lst ha _ => exact .inl ⟨rfl, _, rV.of ha⟩
     . refine h H Z σ ts vs _ S fun v H1 Z1 z1 k1 S1 r => ?_
       cases r with
       | lst hqL rr =>
         obtain ⟨b0, ws0, a, us, eb, hq1, hw, hwl, ha, hu', S2⟩ := S1.Sn (aL.rW S1.tp him rr) h1 h1j
         rw [hv0] at eb
         cases eb
         have aiG : ws0[j]? = Mq[j]? := by
           have h2 := k1 _ _ hq
           rw [hq1] at h2
           injection h2 with h2
           injection h2 with h2
           rw [h2]
         rw [aiG, X3] at hw
         cases hw
         have hz := rr.length
         exact ⟨a, _, us, _, rfl, rfl, ha, hqL, by rw [hu', ← hz]; exact amo (anB hl (by rw [anb]; decide)), M.nx _ σ _ Z1 z1 S2 k⟩)
end
inductive Stp where
 | ix (j : Nat) | fld (f : Str)
section
variable {K : PySem.W.Frag} {CL : Str -> Addr} {b : Bx} {H H' Z Z' : Hp} {δ δ' : List (Option T)} {σ σ' : L2.St} {ts tl : List T} {vs us : List V} {t u t0 : T} {v v0 w : V} {fp : List Addr} {i : Nat} {p : List Stp}
end
section
variable {X : Cx} {CL : Str -> Addr} {b : Bx} {δ δ1 δ2 : List (Option T)} {e e0 e2 : Expr} {t t0 t1 u : T} {tl Qg tl2 : List T} {d : L3.D} {ds : List L3.D} {D : dg} {pos pp pa pb ps : Pos} {i : Nat} {x c f : Str} {eW : List Stmt} {p : List Stp} {fs : List (Str × T)}
end
section
variable {X : Cx} {CL : Str -> Addr} {b : Bx} {δ δ1 δ2 : List (Option T)} {e o : Expr} {es : List Expr} {t : T} {pos pp apos : Pos} {i : Nat} {x c m : Str} {is : List Nat} {fx : List Addr -> Prop} {al : List Addr -> List T} {y : Addr} {fs : List (Str × T)}
variable {A : Type} {k n : Nat} {f : Addr} {fd : FuncData} {ps : List Str} {arg : A -> List T} {Pre : A -> Prop} {res : A -> T} {out : A -> List T}
end
end L3
namespace L2
open PySem PySem.Spec PyProof.Rows
section
variable {X : Cx} {CX : PY} {k : Nat} {f C : Addr} {fd : FuncData} {ps : List Str} {sp : Sp} {Ik : List V} {ds : List Value} {E : XK} {x m : Str} {p pos apos : Pos} {e : Expr} {es : List Expr} {t : TA}
end
end L2
namespace L3
open PySem PySem.Spec PyProof.Rows L2
section
variable {X : Cx} {CL : Str -> Addr} {b : Bx} {δ δ1 δ2 : List (Option T)} {e o : Expr} {es : List Expr} {t : T} {pos pp apos : Pos} {i : Nat} {x c m : Str} {is : List Nat} {fx : List Addr -> Prop} {al : List Addr -> List T} {y : Addr} {fs : List (Str × T)}
variable {A : Type} {k n : Nat} {arg : A -> List T} {Pre : A -> Prop} {res : A -> T} {out : A -> List T}
end
end L3
namespace L2
open PySem PySem.Spec PyProof.Rows
section
variable {X : Cx}
end
end L2
namespace L3
open PySem PySem.Spec PyProof.Rows L2
section
variable {X : Cx} {CL : Str -> Addr} {b : Bx} {δ δ1 δ2 : List (Option T)} {e e1 e2 o : Expr} {es : List Expr} {pos pp apos pos' : Pos} {i : Nat} {x c m : Str} {fs : List (Str × L3.D)} {ds : List L3.D} {D : dg} {eW : List Stmt}
variable {A : Type} {k n : Nat} {arg : A -> List L3.D} {Pre : A -> Prop} {res : A -> T}
end
end L3
namespace L3
end L3
namespace Law
open PySem L2 L3
noncomputable def top (i : Nat) : Stmt := PySem.Challenge.pw_moodtree_k18_whole_look_by_a_judge.main.body.getD i (.Pass ⟨0, 0, 0, 0⟩)
noncomputable def E3 : Nat -> List Int -> Int -> List Int
 | 0, _, _ => []
 | n + 1, es, k => if k = -1 then [] else k :: E3 n es (es.getD k.toNat 0)
noncomputable def qd (es : List Int) (m : Int) : List Int := E3 (es.length + 1) es (es.getD m.toNat 0)
noncomputable def gT (ks : List Str) (es ss : List Int) : L3.D := .ins "Tree" [("kinds", .lst (ks.map .str)), ("elders", .lst (es.map .int)), ("starts", .lst (ss.map .int))]
theorem vO {ks : List Str} {es ss : List Int} : List.lookup ("kinds" : Str) [(("kinds" : Str), L3.D.lst (ks.map .str)), ("elders", .lst (es.map .int)), ("starts", .lst (ss.map .int))] = some (.lst (ks.map .str)) := nj
theorem eK {ks : List Str} {es ss : List Int} : List.lookup ("elders" : Str) [(("kinds" : Str), L3.D.lst (ks.map .str)), ("elders", .lst (es.map .int)), ("starts", .lst (ss.map .int))] = some (.lst (es.map .int)) := by
 rw [e7 (by decide +kernel), nj]
theorem Bk {ks : List Str} {es ss : List Int} : List.lookup ("starts" : Str) [(("kinds" : Str), L3.D.lst (ks.map .str)), ("elders", .lst (es.map .int)), ("starts", .lst (ss.map .int))] = some (.lst (ss.map .int)) := by
 rw [e7 (by decide +kernel), e7 (by decide +kernel), nj]
theorem cR (ds : List L3.D) : T.iY (.lst (ds.map T.sh)) = .lst ds := by rw [T.iY, qN]
theorem qR (l : List Int) : (T.lst ((l.map L3.D.int).map T.sh)).clean = true := by rw [qu]; exact Bd _
theorem My (l : List Str) : (T.lst ((l.map L3.D.str).map T.sh)).clean = true := by
 rw [qu]
 induction l with
 | nil => rfl
 | cons x l ih => exact ih
noncomputable def rY (ks : List Str) (es ss : List Int) : List (Str × T) := [("kinds", .lst ((ks.map .str).map T.sh)), ("elders", .lst ((es.map .int).map T.sh)), ("starts", .lst ((ss.map .int).map T.sh))]
theorem Sq (ks : List Str) (es ss : List Int) : T.iY (.ins "Tree" (rY ks es ss)) = gT ks es ss := by
 unfold rY
 rw [T.iY, T.vf, T.vf, T.vf, T.vf, cR, cR, cR]
 rfl
theorem Bl (ks : List Str) (es ss : List Int) : T.bY (rY ks es ss) = true := by
 unfold rY
 rw [T.bY, T.bY, T.bY, T.bY, My, qR, qR]
 rfl
theorem Qw : ∀ (n : Nat) (es : List Int) (k : Int), (E3 n es k).length <= n
 | 0, _, _ => al9 _
 | n + 1, es, k => by
   rw [E3]
   split
   . exact amu _
   . exact Nat.succ_le_succ (Qw n es _)
noncomputable def fV (bs nm : List L3.D) (tr : L3.D) (is os ws : List L3.D) : L3.D := .ins "Chart" [("boxes", .lst bs), ("names", .lst nm), ("tree", tr), ("ins", .lst is), ("outs", .lst os), ("ways", .lst ws)]
section
variable {bs nm is os ws : List L3.D} {tr : L3.D}
theorem pB : List.lookup ("boxes" : Str) [(("boxes" : Str), L3.D.lst bs), ("names", .lst nm), ("tree", tr), ("ins", .lst is), ("outs", .lst os), ("ways", .lst ws)] = some (.lst bs) := nj
theorem gy : List.lookup ("names" : Str) [(("boxes" : Str), L3.D.lst bs), ("names", .lst nm), ("tree", tr), ("ins", .lst is), ("outs", .lst os), ("ways", .lst ws)] = some (.lst nm) := by
 rw [e7 (by decide +kernel), nj]
theorem Dq : List.lookup ("tree" : Str) [(("boxes" : Str), L3.D.lst bs), ("names", .lst nm), ("tree", tr), ("ins", .lst is), ("outs", .lst os), ("ways", .lst ws)] = some tr := by
 rw [e7 (by decide +kernel), e7 (by decide +kernel), nj]
theorem Fy : List.lookup ("ins" : Str) [(("boxes" : Str), L3.D.lst bs), ("names", .lst nm), ("tree", tr), ("ins", .lst is), ("outs", .lst os), ("ways", .lst ws)] = some (.lst is) := by
 rw [e7 (by decide +kernel), e7 (by decide +kernel), e7 (by decide +kernel), nj]
theorem Dr : List.lookup ("outs" : Str) [(("boxes" : Str), L3.D.lst bs), ("names", .lst nm), ("tree", tr), ("ins", .lst is), ("outs", .lst os), ("ways", .lst ws)] = some (.lst os) := by
 rw [e7 (by decide +kernel), e7 (by decide +kernel), e7 (by decide +kernel), e7 (by decide +kernel), nj]
theorem Ds : List.lookup ("ways" : Str) [(("boxes" : Str), L3.D.lst bs), ("names", .lst nm), ("tree", tr), ("ins", .lst is), ("outs", .lst os), ("ways", .lst ws)] = some (.lst ws) := by
 rw [e7 (by decide +kernel), e7 (by decide +kernel), e7 (by decide +kernel), e7 (by decide +kernel), e7 (by decide +kernel), nj]
end
noncomputable def zP (bs nm : List L3.D) : List (Str × T) := [("boxes", .lst (bs.map T.sh)), ("names", .lst (nm.map T.sh))]
noncomputable def zQ (is os ws : List L3.D) : List (Str × T) := [("ins", .lst (is.map T.sh)), ("outs", .lst (os.map T.sh)), ("ways", .lst (ws.map T.sh))]
noncomputable def oh (bs nm : List L3.D) (t : T) (is os ws : List L3.D) : List (Str × T) := zP bs nm ++ (("tree" : Str), t) :: zQ is os ws
theorem Mz (bs nm : List L3.D) (t : T) (is os ws : List L3.D) : T.iY (.ins "Chart" (oh bs nm t is os ws)) = fV bs nm t.iY is os ws := by
 unfold oh zP zQ
 rw [ami, ami, anp, T.iY, T.vf, T.vf, T.vf, T.vf, T.vf, T.vf, T.vf, cR, cR, cR, cR, cR]
 rfl
theorem bK {ds : List L3.D} (h : D.cM ds = true) : (T.lst (ds.map T.sh)).clean = true := by
 rw [qu]
 induction ds with
 | nil => rfl
 | cons d ds ih =>
   rw [D.cM, ame] at h
   rw [amh, T.ef, ih h.2, T.clean, h.1]; rfl
theorem Gy {bs nm : List L3.D} (h1 : D.cM bs = true) (h2 : D.cM nm = true) : T.bY (zP bs nm) = true := by
 unfold zP
 rw [T.bY, T.bY, T.bY, bK h1, bK h2]; rfl
theorem Gz {is os ws : List L3.D} (h1 : D.cM is = true) (h2 : D.cM os = true) (h3 : D.cM ws = true) : T.bY (zQ is os ws) = true := by
 unfold zQ
 rw [T.bY, T.bY, T.bY, T.bY, bK h1, bK h2, bK h3]; rfl
noncomputable def bI (ns : List Int) (k : Int) : Int := if k < ns.length then ns.getD k.toNat 0 else 0
noncomputable def aiH : List Nat := (List.range 26).map (· + 97) ++ (List.range 10).map (· + 48)
noncomputable def aiI (k : Int) : Str := ⟨#[aiH.getD k.toNat 0]⟩
noncomputable def afy (m : Int) : Int := (m * 48271 + 11) % 2147483647
noncomputable def MA (p : Int × Str) : Nat -> Int × Str
 | 0 => p
 | n + 1 => (afy (MA p n).1, (MA p n).2 ++ aiI (afy (MA p n).1 % 36))
noncomputable def Bm (es : List Int) (m : Int) : List Int := ((List.range es.length).filter (fun (i : Nat) => decide (es.getD i 0 = m))).map (fun (i : Nat) => (i : Int))
theorem Y7 {es : List Int} {m x : Int} (h : x ∈ Bm es m) : 0 <= x /\ x < es.length /\ es.getD x.toNat 0 = m := by
 unfold Bm at h
 obtain ⟨i, hi, rfl⟩ := amn.mp h
 obtain ⟨h1, h2⟩ := List.mem_filter.mp hi
 have h1 := amI.mp h1
 have h2 := al2 h2
 exact ⟨by omega, by omega, by rw [amR]; exact h2⟩
noncomputable def pC : List Str := ["all", "and", "box", "call", "do", "far", "if", "in", "leaf", "near", "on", "one", "open", "out", "put", "say", "shut", "then", "to"]
noncomputable def isLt (c : Nat) : Bool := decide (97 <= c) && decide (c <= 122)
noncomputable def qe (c : Nat) : Bool := decide (48 <= c) && decide (c <= 57)
theorem Dt (c : Nat) : pe ⟨#[c]⟩ "abcdefghijklmnopqrstuvwxyz" = isLt c := by
 unfold pe
 rw [anH]
 have e : ("abcdefghijklmnopqrstuvwxyz" : Str).cps.toList = (List.range 26).map (· + 97) := by decide +kernel
 rw [e]
 apply ang.mpr
 simp only [isLt, amQ, ame, amn, amI]
 constructor
 . rintro ⟨a, h, rfl⟩
   omega
 . intro h
   exact ⟨c - 97, by omega, by omega⟩
theorem GA (c : Nat) : pe ⟨#[c]⟩ "abcdefghijklmnopqrstuvwxyz0123456789" = (isLt c || qe c) := by
 unfold pe
 rw [anH]
 have e : ("abcdefghijklmnopqrstuvwxyz0123456789" : Str).cps.toList = (List.range 26).map (· + 97) ++ (List.range 10).map (· + 48) := by decide +kernel
 rw [e]
 apply ang.mpr
 simp only [isLt, qe, amQ, ame, ans, al7, amn, amI]
 constructor
 . rintro (⟨a, h, rfl⟩ | ⟨a, h, rfl⟩) <;> omega
 . intro h
   rcases h with h | h
   . exact .inl ⟨c - 97, by omega, by omega⟩
   . exact .inr ⟨c - 48, by omega, by omega⟩
noncomputable def cu (x : Str) : Bool := decide (1 <= x.length) && (decide (x.length <= 12) && (!decide (x ∈ pC) && (isLt (x.cps.toList.getD 0 0) && x.cps.toList.all (fun c => isLt c || qe c))))
theorem GB {x : Str} (h : x.length = 0) : x = "" := by
 obtain ⟨⟨l⟩⟩ := x
 have : l.length = 0 := h
 have e : l = [] := List.eq_nil_of_length_eq_zero this
 subst e
 rfl
theorem Du {x : Str} {j : Nat} {d : L3.D} (h : (jo x)[j]? = some d) : ∃ c, d = .str ⟨#[c]⟩ /\ x.cps.toList[j]? = some c := by
 unfold jo at h
 rw [aml] at h
 obtain ⟨c, hc, rfl⟩ := amv.mp h
 exact ⟨c, rfl, hc⟩
noncomputable def sJ (i : Int) (n : Nat) : Bool := decide (0 <= i) && decide (i < (n : Int))
noncomputable def Bo (i : Int) : Bool := decide (-(10 ^ (30 : Int).toNat) < i) && decide (i < 10 ^ (30 : Int).toNat)
noncomputable def uE (n : Nat) (a c : Int) : Bool := (decide (a = -1) || sJ a n) && Bo c
inductive Wk
 | Ss (x : Str) (m : Int)
 | num (mk : Str) (a1 c1 a2 c2 : Int)
noncomputable def E4 : Wk -> L3.D
 | .Ss x m => .tup [.str x, .int m]
 | .num mk a1 c1 a2 c2 => .tup [.str mk, .tup [.int a1, .int c1], .tup [.int a2, .int c2]]
noncomputable def LD (n m : Nat) : Wk -> Bool
 | .Ss _ k => sJ k n
 | .num mk a1 c1 a2 c2 => decide (mk ∈ (["<", "<=", "=", "!="] : List Str)) && (uE m a1 c1 && uE m a2 c2)
noncomputable def Wm : Wk -> Prop
 | .Ss x _ => x ∈ (["open", "shut"] : List Str)
 | .num mk _ _ _ _ => ¬ mk ∈ (["open", "shut"] : List Str)
theorem xZ : ∀ al : List Wk, D.rW (.tup (al.map E4)) = true := fun al => c5 (fun q => by cases q <;> rfl) al
noncomputable def afz : L3.D -> L3.D
 | .tup [_, _, _, d, _, _] => d
 | d => d
noncomputable def E5 (l : List Int) (s : Int) : List Int := if s ∈ l then l else l ++ [s]
noncomputable def UL (l : List Int) : List (Key × L3.D) := l.map fun s => ((Sum.inl s : Key), L3.D.bl true)
theorem Qx (l : List Int) (s : Int) : ((UL l).any fun kv => decide (kv.1 = Sum.inl s)) = decide (s ∈ l) := by
 unfold UL
 induction l with
 | nil => rfl
 | cons y l ih =>
   rw [amh, am3, ih]
   by_cases h : y = s
   . subst h; simp
   . have h' : ¬ s = y := fun e => h e.symm
     have h2 : ¬ (Sum.inl y : Key) = Sum.inl s := fun e => h (Sum.inl.inj e)
     simp [h', h2]
theorem Y8 (l : List Int) (s : Int) : Dh (UL l) (.inl s) (.bl true) = UL (E5 l s) := by
 unfold Dh
 rw [Qx]
 unfold E5
 by_cases h : s ∈ l
 . rw [alW (alV h), alW h]
   unfold UL
   rw [al5]
   refine amP fun y _ => ?_
   show (if (Sum.inl y : Key) = Sum.inl s then ((Sum.inl y : Key), L3.D.bl true) else ((Sum.inl y : Key), L3.D.bl true)) = _
   split <;> rfl
 . rw [if_neg (by simpa using h), if_neg h]
   unfold UL
   rw [amk]; rfl
noncomputable def adds (l : List Int) : List Int := l.foldl E5 []
theorem Sv (l : List Int) (x : Int) : adds (l ++ [x]) = E5 (adds l) x := by unfold adds; rw [List.foldl_append]; rfl
theorem zR : ∀ (l acc : List Int), (l.foldl E5 acc).length <= acc.length + l.length /\ ∀ x, x ∈ l.foldl E5 acc ↔ x ∈ acc \/ x ∈ l
 | [], acc => ⟨al9 _, fun x => by simp⟩
 | y :: l, acc => by
   obtain ⟨h1, h2⟩ := zR l (E5 acc y)
   rw [List.foldl_cons]
   refine ⟨?_, fun x => (h2 x).trans ?_⟩
   . have : (E5 acc y).length <= acc.length + 1 := by unfold E5; split <;> simp
     rw [amT]; omega
   . unfold E5
     by_cases hy : y ∈ acc
     . rw [alW hy, al6]
       constructor
       . rintro (z | z)
         . exact .inl z
         . exact .inr (.inr z)
       . rintro (z | rfl | z)
         . exact .inl z
         . exact .inl hy
         . exact .inr z
     . rw [alT hy, al7, anr, al6, or_assoc]
theorem Y9 (l : List Int) (s : Int) : (Gr (UL l) (.inl s)).isSome = decide (s ∈ l) := by
 rw [← Qx]
 unfold Gr
 rw [Option.isSome_map]
 generalize UL l = k
 induction k with
 | nil => rfl
 | cons y k ih =>
   rw [anh, am3]
   cases h : decide (y.1 = Sum.inl s) with
   | true => rfl
   | false => rw [Bool.false_or]; exact ih
noncomputable def qf (q : Str × Int) : L3.D := .tup [.str q.1, .int q.2]
theorem E6 {b : Bool} (h : (!b) = false) : b = true := by cases b <;> first | rfl | cases h
theorem Wn {b : Bool} (h : (!b) = false) : ¬ b = false := by rw [E6 h]; decide
theorem Dv {b : Bool} (h : (!b) = true) : b = false := by cases b <;> first | rfl | cases h
theorem aiJ {α : Type} {p : α -> Bool} {l : List α} (h : ∀ (j : Nat) (x : α), l[j]? = some x -> p x = true) : l.all p = true := List.all_eq_true.mpr fun x hx => by
 obtain ⟨j, hj, e⟩ := List.getElem_of_mem hx
 exact h j x (by rw [amm hj, e])
theorem GC {α : Type} {p : α -> Bool} {l : List α} {x : α} (h : x ∈ l) (hx : p x = false) : l.all p = false := List.all_eq_false.mpr ⟨x, h, by rw [hx]; decide⟩
noncomputable def qS {α : Type} (p : α -> Bool) (l : List α) (j : Nat) : Prop := ∀ (q : Nat) (x : α), q < j -> l[q]? = some x -> p x = true
theorem qS.zero {α : Type} {p : α -> Bool} {l : List α} : qS p l 0 := fun q x h => absurd h (Nat.not_lt_zero q)
theorem qS.next {α : Type} {p : α -> Bool} {l : List α} {j : Nat} {x : α} (h : qS p l j) (hx : l[j]? = some x) (hp : p x = true) : qS p l (j + 1) := fun q y hq hy => by
 by_cases e : q = j
 . subst e
   rw [hx] at hy
   cases hy
   exact hp
 . exact h q y (by omega) hy
theorem qS.all {α : Type} {p : α -> Bool} {l : List α} (h : qS p l l.length) : l.all p = true := aiJ fun j x hj => h j x (amj.mp hj).1 hj
inductive qI
 | put (i a c : Int)
 | say (w x : Str) (a c : Int)
 | call (x : Str)
noncomputable def Dw : qI -> L3.D
 | .put i a c => .tup [.str "put", .int i, .tup [.int a, .int c]]
 | .say w x a c => .tup [.str w, .str x, .tup [.int a, .int c]]
 | .call x => .tup [.str "call", .str x]
noncomputable def dgL : qI -> Prop
 | .put _ _ _ => True
 | .say w x _ _ => (w ≠ "put" /\ w ≠ "call") /\ x.length <= 1000
 | .call x => x.length <= 1000
noncomputable def Jx (n : Nat) : qI -> Bool
 | .put i a c => sJ i n && uE n a c
 | .say w x a c => decide (w = "say") && (cu x && uE n a c)
 | .call x => cu x
theorem Cu (q : qI) : (Dw q).rW = true := by cases q <;> rfl
noncomputable def bM (l : List qI) : L3.D := .tup (l.map Dw)
theorem iO (l : List qI) : (bM l).rW = true := c5 Cu l
structure BF where
 src : Int
 sign : Str
 al : List Wk
 dl : List qI
 tgt : Int
 mode : Str
noncomputable def pD (w : BF) : L3.D := .tup [.int w.src, .str w.sign, .tup (w.al.map E4), bM w.dl, .int w.tgt, .str w.mode]
noncomputable def jE : List Str := ["new", "near", "far"]
noncomputable def X4 (n m : Nat) (w : BF) : Bool := sJ w.src n && (cu w.sign && (decide (w.mode ∈ jE) && ((if w.tgt = -1 then decide (w.mode = "new") else sJ w.tgt n) && w.al.all (LD n m))))
noncomputable def BF.ok (w : BF) : Prop := w.sign.length <= 1000 /\ ∀ q ∈ w.al, Wm q
noncomputable def Cv (n m : Nat) : Int -> List BF -> Bool
 | _, [] => true
 | l, w :: ws => !decide (w.src < l) && (X4 n m w && Cv n m w.src ws)
noncomputable def sr (l : List Str) : Bool := l.all cu && decide l.Nodup
noncomputable def x6 (l : List (Str × Int)) : Bool := l.all (fun q => Bo q.2) && sr (l.map (·.1))
noncomputable def sL (nl bl : Nat) (is os : List (List qI)) (ws : List BF) : Bool := decide (is.length = nl) && (decide (os.length = nl) && (is ++ os ++ ws.map (·.dl)).all fun l => l.all (Jx bl))
noncomputable def qT : List Str := ["leaf", "one", "all"]
noncomputable def Qy (ks : List Str) (es : List Int) (m : Nat) : Bool := decide (ks.getD m Str.empty ∈ qT) && (decide (ks.getD m Str.empty = "leaf") == !decide ((m : Int) ∈ es))
noncomputable def zS (ks : List Str) (es : List Int) : Bool := (List.range ks.length).all (Qy ks es)
noncomputable def Il (ks : List Str) (es ss : List Int) (m : Nat) : Bool := if ks.getD m Str.empty = "one" then sJ (ss.getD m 0) es.length && decide (es.getD (ss.getD m 0).toNat 0 = (m : Int)) else decide (ss.getD m 0 = -1)
noncomputable def x8 (ks : List Str) (es ss : List Int) : Bool := (List.range ss.length).all (Il ks es ss)
noncomputable def vq (es : List Int) : Nat -> Bool
 | 0 => decide (es.getD 0 0 = -1)
 | j + 1 => vq es j && (decide (es.getD (j + 1) 0 ∈ (j : Int) :: qd es (j : Int)) && decide ((qd es ((j : Int) + 1)).length <= 12))
noncomputable def Jy (ks : List Str) (es ss : List Int) (nl : Nat) : Bool := decide (0 < ks.length) && (decide (es.length = ks.length) && (decide (ss.length = ks.length) && (decide (nl = ks.length) && (vq es (es.length - 1) && (zS ks es && x8 ks es ss)))))
noncomputable def zT (es : List Int) (m : Int) : Prop := ∀ k : Nat, k < es.length -> (k : Int) <= m -> -1 <= es.getD k 0 /\ es.getD k 0 < (k : Int)
theorem zT.at {es : List Int} {m k : Int} (h : zT es m) (k0 : 0 <= k) (k1 : k < es.length) (km : k <= m) : -1 <= es.getD k.toNat 0 /\ es.getD k.toNat 0 < k := by
 have := h k.toNat (by omega) (by omega)
 omega
theorem zT.Cw {es : List Int} {m : Int} (h : zT es m) : ∀ (n : Nat) {k : Int}, -1 <= k -> k < es.length -> k <= m -> ∀ x ∈ E3 n es k, 0 <= x /\ x <= k
 | 0, _, _, _, _, x, hx => by rw [E3] at hx; cases hx
 | n + 1, k, k0, k1, km, x, hx => by
   rw [E3] at hx
   by_cases e : k = -1
   . rw [alW e] at hx; cases hx
   . rw [alT e] at hx
     have ha := h.at (k := k) (by omega) k1 km
     rcases al6.mp hx with rfl | hx
     . omega
     . have := h.Cw n ha.1 (by omega) (by omega) x hx
       omega
theorem MB {es : List Int} : ∀ {j : Nat}, j < es.length -> vq es j = true -> zT es (j : Int)
 | 0, hj, h => fun k hk hm => by
   have e : es.getD 0 0 = -1 := al2 h
   have : k = 0 := by omega
   subst this
   omega
 | j + 1, hj, h => fun k hk hm => by
   rw [vq, ame, ame] at h
   have ih := MB (j := j) (by omega) h.1
   by_cases e : k = j + 1
   . subst e
     have Qz := al2 h.2.1
     rcases al6.mp Qz with z | z
     . omega
     . have ha := ih.at (k := (j : Int)) (by omega) (by omega) (by omega)
       have := ih.Cw (es.length + 1) ha.1 (by omega) (by omega) _ z
       omega
   . exact ih k hk (by omega)
theorem sM {es : List Int} : ∀ {i j : Nat}, i <= j -> vq es i = false -> vq es j = false
 | i, 0, h, e => by
   have : i = 0 := by omega
   subst this
   exact e
 | i, j + 1, h, e => by
   by_cases q : i = j + 1
   . subst q; exact e
   . rw [vq, sM (i := i) (j := j) (by omega) e]
     rfl
noncomputable def nk (bs : List (Str × Int)) (nm ks : List Str) (es ss : List Int) (is os : List (List qI)) (ws : List BF) : Int :=
 if Jy ks es ss nm.length = false then 0 else if sr nm = false then 1 else if x6 bs = false then 2 else if sL nm.length bs.length is os ws = false then 3 else if Cv nm.length bs.length 0 ws = false then 4 else -1
noncomputable def Sw (k : Int) : Str := if k = 0 then "BadTree" else if k = 1 then "BadName" else if k = 2 then "BadBox" else if k = 3 then "BadDeed" else "BadWay"
structure x9 (bs : List (Str × Int)) (nm ks : List Str) (is os : List (List qI)) (ws : List BF) : Prop where
 k1 : ks.length <= 900
 n1 : ∀ x ∈ nm, x.length <= 1000
 n2 : nm.length <= 1000
 b1 : ∀ q ∈ bs, q.1.length <= 1000
 b2 : bs.length <= 1000
 i1 : is.length <= 300
 o1 : os.length <= 300
 w1 : ws.length <= 100
 d1 : ∀ l ∈ is ++ os ++ ws.map (·.dl), ∀ q ∈ l, dgL q
 w2 : ∀ w ∈ ws, w.ok
theorem QB (c : Nat) : pe ⟨#[c]⟩ "0123456789" = qe c := by
 unfold pe
 rw [anH]
 have e : ("0123456789" : Str).cps.toList = (List.range 10).map (· + 48) := by decide +kernel
 rw [e]
 apply ang.mpr
 simp only [qe, amQ, ame, amn, amI]
 constructor
 . rintro ⟨a, h, rfl⟩
   omega
 . intro h
   exact ⟨c - 48, by omega, by omega⟩
theorem Wo {x : Str} (h1 : 1 <= x.length) (h2 : x.length <= 12) (h3 : x ∉ pC) (h4 : qe (x.cps.toList.getD 0 0) = false) : cu x = x.cps.toList.all (fun c => isLt c || qe c) := by
 unfold cu
 rw [alV h1, alV h2, alS h3]
 show (isLt (x.cps.toList.getD 0 0) && x.cps.toList.all (fun c => isLt c || qe c)) = _
 have hll : x.cps.toList.length = x.length := by simp [Str.length]
 cases hl : x.cps.toList with
 | nil => rw [hl] at hll; simp at hll; omega
 | cons c l =>
   rw [hl] at h4
   have h4 : qe c = false := h4
   show (isLt c && ((isLt c || qe c) && _)) = ((isLt c || qe c) && _)
   rw [h4]
   cases isLt c <;> simp
theorem acO {x : Str} (h : qe (x.cps.toList.getD 0 0) = true) : cu x = false := by
 have e : isLt (x.cps.toList.getD 0 0) = false := by
   have h' := h
   unfold qe at h'
   simp only [ame, amQ] at h'
   unfold isLt
   rw [alS (by omega)]
   rfl
 unfold cu
 rw [e]
 simp
theorem Wq (i : Int) : (decide (0 - 10 ^ (30 : Int).toNat < i) && decide (i < 10 ^ (30 : Int).toNat)) = Bo i := by
 unfold Bo
 rw [Int.zero_sub]
theorem Wr (n : Nat) (a c : Int) : (decide (-1 <= a) && (decide (a < (n : Int)) && Bo c)) = uE n a c := by
 unfold uE sJ
 by_cases h1 : a = -1
 . subst h1
   rw [alV (show (-1 : Int) <= -1 by omega), alV (show (-1 : Int) < (n : Int) by omega), alV rfl]
   rfl
 . rw [alS h1, Bool.false_or]
   by_cases h2 : 0 <= a
   . rw [alV h2, alV (show -1 <= a by omega), am9, am9]
   . rw [alS h2, alS (show ¬ -1 <= a by omega), amy, amy, amy]
noncomputable def fB (c : Int) (g l : List Str) : Str := if c % 16 = 0 then l.getD (c / 16 % (l.length : Nat)).toNat Str.empty else g.getD (c / 16 % (g.length : Nat)).toNat Str.empty
theorem Jz (n m : Nat) (w : BF) {l : Int} (hl : 0 <= l) (hs : ¬ w.src < l) : X4 n m w = ((decide (w.src < (n : Int)) && (!decide (w.tgt < -1) && (decide (w.tgt < (n : Int)) && cu w.sign))) && ((decide (w.mode ∈ jE) && !(decide (w.tgt = -1) && !decide (w.mode = "new"))) && w.al.all (LD n m))) := by
 unfold X4 sJ
 rw [alV (show 0 <= w.src by omega), am9]
 by_cases h1 : w.tgt = -1
 . rw [alW h1, h1, alS (show ¬ (-1 : Int) < -1 by omega), alV (show (-1 : Int) < (n : Int) by omega), alV rfl]
   generalize decide (w.src < (n : Int)) = b1
   generalize cu w.sign = b2
   generalize decide (w.mode ∈ jE) = b3
   generalize decide (w.mode = "new") = b4
   generalize w.al.all (LD n m) = b5
   cases b1 <;> cases b2 <;> cases b3 <;> cases b4 <;> cases b5 <;> rfl
 . rw [alT h1, alS h1]
   have e : (!decide (w.tgt < -1) && decide (w.tgt < (n : Int))) = (decide (0 <= w.tgt) && decide (w.tgt < (n : Int))) := by
     by_cases h2 : 0 <= w.tgt
     . rw [alV h2, alS (show ¬ w.tgt < -1 by omega)]; rfl
     . rw [alS h2, alV (show w.tgt < -1 by omega)]; rfl
   rw [← Bool.and_assoc (!decide (w.tgt < -1)), e]
   generalize (decide (0 <= w.tgt) && decide (w.tgt < (n : Int))) = b0
   generalize decide (w.src < (n : Int)) = b1
   generalize cu w.sign = b2
   generalize decide (w.mode ∈ jE) = b3
   generalize w.al.all (LD n m) = b5
   cases b0 <;> cases b1 <;> cases b2 <;> cases b3 <;> cases b5 <;> rfl
theorem zT.fuel {es : List Int} {m : Int} (h : zT es m) : ∀ (a b : Nat) {k : Int}, -1 <= k -> k < es.length -> k <= m -> k < a -> k < b -> E3 a es k = E3 b es k
 | 0, 0, _, _, _, _, _, _ => rfl
 | 0, b + 1, k, h0, _, _, ha, _ => by
   rw [E3, E3, alW (by omega)]
 | a + 1, 0, k, h0, _, _, _, hb => by
   rw [E3, E3, alW (by omega)]
 | a + 1, b + 1, k, h0, h1, hm, ha, hb => by
   rw [E3, E3]
   by_cases e : k = -1
   . rw [alW e, alW e]
   . have hk := h.at (k := k) (by omega) h1 hm
     rw [alT e, alT e, h.fuel a b hk.1 (by omega) (by omega) (by omega) (by omega)]
theorem zT.eq {es : List Int} {m : Int} (h : zT es m) {k : Int} (h0 : 0 <= k) (h1 : k < es.length) (hm : k <= m) : qd es k = if es.getD k.toNat 0 = -1 then [] else es.getD k.toNat 0 :: qd es (es.getD k.toNat 0) := by
 have ha := h.at h0 h1 hm
 unfold qd
 rw [E3]
 by_cases e : es.getD k.toNat 0 = -1
 . rw [alW e, alW e]
 . have hk2 := h.at (k := es.getD k.toNat 0) (by omega) (by omega) (by omega)
   rw [alT e, alT e, h.fuel es.length (es.length + 1) hk2.1 (by omega) (by omega) (by omega) (by omega)]
noncomputable def mL (e : Int) (R : List Int) : List Int := R.dropWhile (fun x => !decide (x = e))
theorem uF (e x : Int) (R : List Int) : mL e (x :: R) = if x = e then x :: R else mL e R := by
 unfold mL
 rw [List.dropWhile_cons]
 by_cases h : x = e
 . rw [alW h, alT (by simp [h])]
 . rw [alT h, alW (by simp [h])]
theorem JA {e : Int} : ∀ {R : List Int}, e ∉ R -> mL e R = []
 | [], _ => rfl
 | x :: R, h => by
   have hx : ¬ x = e := fun z => h (by rw [z]; exact al0)
   rw [uF, alT hx, JA (fun z => h (al3 _ z))]
theorem Dy {es : List Int} {m : Int} (h : zT es m) {e : Int} : ∀ (n : Nat) {k : Int}, 0 <= k -> k < es.length -> k <= m -> k < n -> e ∈ k :: qd es k -> mL e (k :: qd es k) = e :: qd es e
 | 0, k, h0, _, _, hn, _ => by omega
 | n + 1, k, h0, h1, hm, hn, he => by
   rw [uF]
   by_cases c : k = e
   . rw [alW c, c]
   . rw [alT c]
     have he2 : e ∈ qd es k := (al6.mp he).resolve_left (fun z => c z.symm)
     have eq := h.eq h0 h1 hm
     have ha := h.at h0 h1 hm
     by_cases z : es.getD k.toNat 0 = -1
     . rw [eq, alW z] at he2; cases he2
     . rw [eq, alT z] at he2 ⊢
       exact Dy h n (by omega) (by omega) (by omega) (by omega) he2
noncomputable def rZ (es : List Int) : Nat -> Option (List Int)
 | 0 => some []
 | j + 1 => match rZ es j with
   | none => none
   | some R => if ((mL (es.getD j 0) R = []) ↔ j = 0) /\ (mL (es.getD j 0) R).length <= 12 then some ((j : Int) :: mL (es.getD j 0) R) else none
theorem Dz {es : List Int} : ∀ {i j : Nat}, i <= j -> rZ es i = none -> rZ es j = none
 | i, 0, h, e => by
   have : i = 0 := by omega
   subst this
   exact e
 | i, j + 1, h, e => by
   by_cases q : i = j + 1
   . subst q; exact e
   . rw [rZ, Dz (i := i) (j := j) (by omega) e]
theorem QC {es : List Int} (h0 : es.getD 0 0 = -1) : ∀ {j : Nat}, j < es.length -> rZ es (j + 1) = if vq es j = true then some ((j : Int) :: qd es (j : Int)) else none
 | 0, hj => by
   have e : vq es 0 = true := alV h0
   have ec : qd es ((0 : Nat) : Int) = [] := by
     unfold qd
     rw [E3, alW (by exact h0)]
   rw [alW e, ec]
   show (if ((mL (es.getD 0 0) [] = []) ↔ 0 = 0) /\ (mL (es.getD 0 0) []).length <= 12 then some (((0 : Nat) : Int) :: mL (es.getD 0 0) []) else none) = _
   rw [show mL (es.getD 0 0) [] = [] from rfl, alW ⟨⟨fun _ => rfl, fun _ => rfl⟩, by simp⟩]
 | j + 1, hj => by
   have ih := QC h0 (j := j) (by omega)
   rw [rZ, ih]
   by_cases hE : vq es j = true
   . have hT := MB (by omega) hE
     rw [alW hE]
     show (if ((mL (es.getD (j + 1) 0) ((j : Int) :: qd es j) = []) ↔ j + 1 = 0) /\ (mL (es.getD (j + 1) 0) ((j : Int) :: qd es j)).length <= 12 then some (((j + 1 : Nat) : Int) :: mL (es.getD (j + 1) 0) ((j : Int) :: qd es j)) else none) = _
     have eB : vq es (j + 1) = (decide (es.getD (j + 1) 0 ∈ (j : Int) :: qd es (j : Int)) && decide ((qd es ((j : Int) + 1)).length <= 12)) := by
       rw [vq, hE]
       rfl
     by_cases Qz : es.getD (j + 1) 0 ∈ (j : Int) :: qd es (j : Int)
     . have hc := Dy hT (j + 1) (by omega) (by omega) (by omega) (by omega) Qz
       have hp : 0 <= es.getD (j + 1) 0 /\ es.getD (j + 1) 0 <= j := by
         rcases al6.mp Qz with z | z
         . omega
         . have ha := hT.at (k := (j : Int)) (by omega) (by omega) (by omega)
           have := hT.Cw (es.length + 1) ha.1 (by omega) (by omega) _ z
           omega
       have hT2 : zT es ((j + 1 : Nat) : Int) := fun k hk hm => by
         by_cases e : k = j + 1
         . subst e; omega
         . exact hT k hk (by omega)
       have ec : qd es ((j + 1 : Nat) : Int) = es.getD (j + 1) 0 :: qd es (es.getD (j + 1) 0) := by
         rw [hT2.eq (by omega) (by omega) (by omega), amR, alT (by omega)]
       rw [hc, ← ec, eB, alV Qz, am9]
       have e1 : ((j : Int) + 1) = ((j + 1 : Nat) : Int) := by omega
       rw [e1]
       by_cases hl : (qd es ((j + 1 : Nat) : Int)).length <= 12
       . rw [alW ⟨⟨(fun z => by rw [ec] at z; cases z), (fun z => by omega)⟩, hl⟩, alW (alV hl)]
       . rw [alT (fun z => hl z.2), alT (by rw [alS hl]; decide)]
     . rw [JA Qz, alT (fun z => absurd (z.1.mp rfl) (by omega)), eB, alS Qz]
       rfl
   . rw [alT hE]
     have : vq es (j + 1) = false := sM (Nat.le_succ j) (by simpa using hE)
     rw [this]
     rfl
theorem MC {es : List Int} (hl : 0 < es.length) : ((rZ es es.length).isSome && decide (es.getD 0 0 = -1)) = vq es (es.length - 1) := by
 by_cases h0 : es.getD 0 0 = -1
 . have := QC h0 (j := es.length - 1) (by omega)
   rw [show es.length - 1 + 1 = es.length by omega] at this
   rw [this, alV h0, Bool.and_true]
   by_cases hE : vq es (es.length - 1) = true
   . rw [alW hE, hE]; rfl
   . rw [alT hE]
     have : vq es (es.length - 1) = false := by simpa using hE
     rw [this]; rfl
 . rw [alS h0, amf]
   exact (sM (amu _) (alS h0)).symm
theorem Sx (es : List Int) (k : Int) : decide ((((es.count k : Nat) : Int)) = 0) = !decide (k ∈ es) := by
 by_cases h : k ∈ es
 . have := List.count_pos_iff.mpr h
   rw [alV h, alS (by omega)]; rfl
 . have := List.count_eq_zero.mpr h
   rw [alS h, alV (by omega)]; rfl
theorem Ws {ks : List Str} {es ss : List Int} (h0 : es.getD 0 0 = -1) {k : Nat} (hs : ss.getD k 0 < es.length) :
   (Qy ks es k && Il ks es ss k) = ((decide (ks.getD k Str.empty ∈ qT) && (decide (ks.getD k Str.empty = "leaf") == decide (((es.count (k : Int) : Nat) : Int) = 0))) && (!(!decide (ks.getD k Str.empty = "one") && !decide (ss.getD k 0 = -1)) && !(decide (ks.getD k Str.empty = "one") && (decide (ss.getD k 0 < 1) || !decide (es.getD (ss.getD k 0).toNat 0 = (k : Int)))))) := by
 unfold Qy
 rw [Sx]
 congr 1
 unfold Il
 by_cases h1 : ks.getD k Str.empty = "one"
 . rw [alW h1, alV h1]
   unfold sJ
   by_cases h2 : ss.getD k 0 < 1
   . rw [alV h2]
     by_cases h3 : ss.getD k 0 = 0
     . rw [h3, show ((0 : Int)).toNat = 0 from rfl, h0, alS (show ¬ (-1 : Int) = (k : Int) by omega), amf]; rfl
     . rw [alS (show ¬ 0 <= ss.getD k 0 by omega)]; rfl
   . rw [alS h2, alV (show 0 <= ss.getD k 0 by omega), alV (show ss.getD k 0 < (es.length : Nat) by omega)]
     generalize decide (es.getD (ss.getD k 0).toNat 0 = (k : Int)) = b
     cases b <;> rfl
 . rw [alT h1, alS h1]
   generalize decide (ss.getD k 0 = -1) = b
   cases b <;> rfl
theorem QD {α : Type} (p q : α -> Bool) : ∀ l : List α, (l.all p && l.all q) = l.all fun x => p x && q x
 | [] => rfl
 | x :: l => by
   rw [amX, amX, amX, ← QD p q l]
   generalize p x = a
   generalize q x = b
   generalize l.all p = c
   generalize l.all q = d
   cases a <;> cases b <;> cases c <;> cases d <;> rfl
theorem JB {ks : List Str} {es ss : List Int} (hl : ss.length = ks.length) : (zS ks es && x8 ks es ss) = (List.range ks.length).all fun k => Qy ks es k && Il ks es ss k := by
 unfold zS x8
 rw [hl]
 exact QD _ _ _
seal L3.gw L3.XY L3.cY L3.dz L3.qM L3.P8 L3.Vw
noncomputable abbrev uG : Stmt := top 45
noncomputable abbrev zU : Type := List Int × Int
noncomputable def iP : zU -> List L3.D := fun (ns, j) => [.lst (ns.map .int), .int j]
noncomputable def iQ : zU -> Prop := fun (ns, j) => 0 <= j
noncomputable def iS : zU -> T := fun (ns, j) => (.sh (.int (bI ns j)) : T)
structure Sy (X : Cx) (CL : Str -> Addr) : Prop extends c7 X where
 cB : Ln X 0 "script"
 r6 : Ln X 1 "k"
 b6 : Gl X "len"
 b7 : X.mg "len" = none
theorem Sz {X : Cx} {CL : Str -> Addr} {b : Bx} (E : Sy X CL) (ns j) (h : iQ (ns, j)) :
   aG X CL b uG ["script", "k"] (iP (ns, j)) (iS (ns, j)) := by
 dsimp only [aG, iQ, iP, iS] at h ⊢
 refine bO (vo (aJ E.r6) (ah (Qd E.b7 (aJ E.cB) E.b6))).1 (fun hp => ?_) (fun hp => ?_)
 . have e : j < ns.length := by simpa using of_decide_eq_true hp
   refine aN (cS (aU (aJ E.cB) (aJ E.r6) (eX h e)) rfl) ?_
   show T.sh _ = T.sh (.int (bI ns j))
   rw [bI, alW e]
 . have e : ¬ j < ns.length := by simpa using of_decide_eq_false hp
   refine az (aN ai ?_)
   show T.sh _ = T.sh (.int (bI ns j))
   rw [bI, alT e]
theorem vP : oW (aA uG) ([("script", aE), ("k", aE), ("len", aC)]) = true := by decide +kernel
theorem DB : aT ["script", "k"] ["script", "k"] (aA uG) := bf
noncomputable def elK (s : List Int) (m : Nat) (dp : Bool) (k : Nat) : Int :=
 if k = 0 then -1 - (if bI s 1 % 30 = 7 then 1 else 0)
 else if bI s ((k : Int) + 1) % 10 ^ (9 : Int).toNat % 9 = 8 /\ dp = false then
   (if bI s ((k : Int) + 1) % 10 ^ (9 : Int).toNat / 9 % 5 = 4 then ([-9, 10 ^ (9 : Int).toNat] : List Int).getD (bI s ((k : Int) + 1) % 10 ^ (9 : Int).toNat / 18 % 2).toNat 0 else bI s ((k : Int) + 1) % 10 ^ (9 : Int).toNat / 9 % ((m : Int) + 3) - 2)
 else if dp = false then bI s ((k : Int) + 1) % 10 ^ (9 : Int).toNat / 9 % (k : Int)
 else (if (k : Int) - 1 - ([0, 0, 1] : List Int).getD (bI s ((k : Int) + 1) % 10 ^ (9 : Int).toNat / 9 % 3).toNat 0 > 0 then (k : Int) - 1 - ([0, 0, 1] : List Int).getD (bI s ((k : Int) + 1) % 10 ^ (9 : Int).toNat / 9 % 3).toNat 0 else 0)
noncomputable def E7 (s : List Int) (m : Nat) (dp : Bool) (j : Nat) : List Int := (List.range j).map (elK s m dp)
theorem SD (s : List Int) (m : Nat) (dp : Bool) (j : Nat) : E7 s m dp (j + 1) = E7 s m dp j ++ [elK s m dp j] := by
 unfold E7
 rw [ant, amk]
 rfl
theorem DC (s : List Int) (m : Nat) (dp : Bool) (j : Nat) : (E7 s m dp j).length = j := by simp [E7]
noncomputable abbrev uH : Stmt := top 47
noncomputable abbrev zV : Type := List Int × Nat × Bool
noncomputable def pF : zV -> List L3.D := fun (s, m, dp) => [.lst (s.map .int), .int m, .bl dp]
noncomputable def mC : zV -> Prop := fun (s, m, dp) => s.length <= 1000 /\ 1 <= m /\ m <= 100
noncomputable def pG : zV -> T := fun (s, m, dp) => (.lst (((E7 s m dp m).map .int).map T.sh) : T)
structure SG (X : Cx) (CL : Str -> Addr) : Prop extends c7 X where
 cB : Ln X 0 "script"
 bw : Ln X 1 "many"
 zW : Ln X 2 "deep"
 cC : Ln X 3 "elders"
 r6 : Ln X 4 "k"
 aO : Ln X 5 "cell"
 Fz : Gl X "int"
 bL : Gl X "_law_cell_at"
 eo : Gl X "range"
 afB : Gl X "max"
 FD : X.mg "int" = none
 dQ : Fc X CL "_law_cell_at" 1 2 iP iQ iS
 er : X.mg "range" = none
 afC : X.mg "max" = none
theorem SJ {X : Cx} {CL : Str -> Addr} {b : Bx} (E : SG X CL) (s m dp) (h : mC (s, m, dp)) :
   aG X CL b uH ["script", "many", "deep", "elders", "k", "cell"] (pF (s, m, dp)) (pG (s, m, dp)) := by
 dsimp only [aG, mC, pF, pG] at h ⊢
 obtain ⟨hs, h1, h2⟩ := h
 refine aY E.g E.cC (aF (e9 (bC (gA (ah (dh (ah ai))) (ah (Cq E.FD (ah (cj (ah (aS (ah (c_ ((s, 1)) E.dQ E.bL (aq (aJ E.cB) (aq (ah ai) aI)) ((show (0 : Int) <= 1 by omega)) rfl)) (ah ai) (by decide))) (ah ai)).2) E.Fz))) dU) (aH rfl)) (t2 := .lst (((E7 s m dp 1).map .int).map T.sh)) ?e0) ?_
 case e0 =>
   show T.lst [T.sh (.int (-1 - (if decide (bI s 1 % 30 = 7) then 1 else 0)))] = T.lst [T.sh (.int (elK s m dp 0))]
   unfold elK
   rw [alW rfl]
   by_cases e : bI s 1 % 30 = 7
   . rw [alW e, alV e]; rfl
   . rw [alT e, alS e]; rfl
 refine lG E.g E.r6 (fun j δ => ∃ o4 o5, δ = [some (.sh (.lst (s.map .int))), some (.sh (.int m)), some (.sh (.bl dp)), some (.lst (((E7 s m dp (j + 1)).map .int).map T.sh)), o4, o5])
   (Fq E.er (ah ai) (aJ E.bw) (by omega) E.eo) ⟨_, _, rfl⟩ (fun j δ ⟨_, _, e⟩ => by subst e; exact alY rfl) ?turn ?fin
 case turn =>
   rintro j d δ hj ⟨o4, o5, rfl⟩
   obtain ⟨rfl, vQ⟩ := mz hj
   have vQ : j + 1 < m := by simp at vQ; omega
   have hlen := DC s m dp (j + 1)
   have ek : (1 + (j : Int)) = ((j + 1 : Nat) : Int) := by omega
   rw [ek, SD s m dp (j + 1)]
   generalize hL : E7 s m dp (j + 1) = L at hlen ⊢
   refine aY E.g E.aO (aS (ah (c_ ((s, ((j + 1 : Nat) : Int) + 1)) E.dQ E.bL (aq (aJ E.cB) (aq (ah (fU (aJ E.r6) (ah ai))) aI)) ((show (0 : Int) <= ((j + 1 : Nat) : Int) + 1 by omega)) rfl)) (ah (dS (ah ai) (ah ai) ⟨by decide, by decide, by decide⟩)) (by decide)) ?_
   have hK : elK s m dp (j + 1) = (if bI s (((j + 1 : Nat) : Int) + 1) % 10 ^ (9 : Int).toNat % 9 = 8 /\ dp = false then
       (if bI s (((j + 1 : Nat) : Int) + 1) % 10 ^ (9 : Int).toNat / 9 % 5 = 4 then ([-9, 10 ^ (9 : Int).toNat] : List Int).getD (bI s (((j + 1 : Nat) : Int) + 1) % 10 ^ (9 : Int).toNat / 18 % 2).toNat 0 else bI s (((j + 1 : Nat) : Int) + 1) % 10 ^ (9 : Int).toNat / 9 % ((m : Int) + 3) - 2)
     else if dp = false then bI s (((j + 1 : Nat) : Int) + 1) % 10 ^ (9 : Int).toNat / 9 % ((j + 1 : Nat) : Int)
     else (if ((j + 1 : Nat) : Int) - 1 - ([0, 0, 1] : List Int).getD (bI s (((j + 1 : Nat) : Int) + 1) % 10 ^ (9 : Int).toNat / 9 % 3).toNat 0 > 0 then ((j + 1 : Nat) : Int) - 1 - ([0, 0, 1] : List Int).getD (bI s (((j + 1 : Nat) : Int) + 1) % 10 ^ (9 : Int).toNat / 9 % 3).toNat 0 else 0)) := by
     unfold elK
     rw [alT (by omega)]
   rw [hK]
   clear hK hL ek
   show gw X CL b _ [some (.sh (.lst (s.map .int))), some (.sh (.int m)), some (.sh (.bl dp)), some (.lst ((L.map .int).map T.sh)), some (.sh (.int ((j + 1 : Nat) : Int))), some (.sh (.int (bI s (((j + 1 : Nat) : Int) + 1) % 10 ^ (9 : Int).toNat)))] _
   generalize bI s (((j + 1 : Nat) : Int) + 1) % 10 ^ (9 : Int).toNat = c
   have a1 := ama (c / 9) (b := 3) (by decide)
   have a2 := al1 (c / 9) (b := 3) (by decide)
   have b1 := ama (c / 18) (b := 2) (by decide)
   have b2 := al1 (c / 18) (b := 2) (by decide)
   have f1 : ∀ (p : Bool), (0 : Int) <= (if p then 1 else 0) /\ ((if p then 1 else 0 : Int)) < 2 := fun p => by cases p <;> decide
   generalize hv : (if ((j + 1 : Nat) : Int) - 1 - ([0, 0, 1] : List Int).getD (c / 9 % 3).toNat 0 > 0 then ((j + 1 : Nat) : Int) - 1 - ([0, 0, 1] : List Int).getD (c / 9 % 3).toNat 0 else 0) = v
   refine Bc E.cC.1 rfl (aF (YN E.g E.afC E.afB (aq (ah ai) (aq (ah (gA (ah (gA (aJ E.r6) (ah ai))) (aU (aQ (b8 (aW ai (aW ai (aW ai n9))) (aH rfl))) (ah (aS (ah (aR (aJ E.aO) (ah ai) ⟨by decide, by decide⟩)) (ah ai) (by decide))) (eX (bs := [0, 0, 1]) a1 a2)))) aI))) (t2 := .sh (.int v)) (by rw [← hv])) rfl (by simp; omega) ?_
   have eL : (L.map L3.D.int).map T.sh ++ [T.sh (.int v)] = ((L ++ [v]).map L3.D.int).map T.sh := by simp
   rw [eL]
   have QF : (((L ++ [v]).map L3.D.int).map T.sh).length = L.length + 1 := by simp
   have Za : ∀ x : Int, (L ++ [v]).set ((j + 1 : Nat) : Int).toNat x = L ++ [x] := fun x => by
     rw [amR, ← hlen]
     simp
   refine bO (gD (gF (cj (ah (aS (aJ E.aO) (ah ai) (by decide))) (ah ai)).1 (fun hb => (lT (cN (eG (v_ E.zW.1))))))) (fun hp => ?_) (fun hp => ?_)
   . rw [ame] at hp
     have q1 : c % 9 = 8 := al2 hp.1
     have q2 : dp = false := Dv hp.2
     rw [alW ⟨q1, q2⟩]
     have hx : BD (([c / 9 % ((m : Int) + 3) - 2, ([-9, 10 ^ (9 : Int).toNat] : List Int).getD (c / 18 % 2).toNat 0] : List Int).map L3.D.int) (if decide (c / 9 % 5 = 4) then 1 else 0) = some (.int (if c / 9 % 5 = 4 then ([-9, 10 ^ (9 : Int).toNat] : List Int).getD (c / 18 % 2).toNat 0 else c / 9 % ((m : Int) + 3) - 2)) := by
       by_cases e : c / 9 % 5 = 4
       . rw [alV e, alW e]; rfl
       . rw [alS e, alT e]; rfl
     generalize (if c / 9 % 5 = 4 then ([-9, 10 ^ (9 : Int).toNat] : List Int).getD (c / 18 % 2).toNat 0 else c / 9 % ((m : Int) + 3) - 2) = x at hx ⊢
     refine VH E.cC.1 (cS (d := .int x) (aU (aQ (aF (e9 (bC (gA (ah (aS (ah (aR (aJ E.aO) (ah ai) ⟨by decide, by decide⟩)) (ah (fU (aJ E.bw) (ah ai))) (by omega))) (ah ai)) (bC (cS (aU (aQ (aF (e9 (bC (dh (ah ai)) (bC (dS (ah ai) (ah ai) ⟨by decide, by decide, by decide⟩) dU)) (aH rfl)) (t2 := .lst ((([-9, 10 ^ (9 : Int).toNat] : List Int).map .int).map T.sh)) rfl)) (ah (aS (ah (aR (aJ E.aO) (ah ai) ⟨by decide, by decide⟩)) (ah ai) (by decide))) (eX (bs := [-9, 10 ^ (9 : Int).toNat]) b1 b2)) rfl) dU)) (aH rfl)) (t2 := .lst ((([c / 9 % ((m : Int) + 3) - 2, ([-9, 10 ^ (9 : Int).toNat] : List Int).getD (c / 18 % 2).toNat 0] : List Int).map .int).map T.sh)) rfl)) (ah (Cq E.FD (ah (cj (ah (aS (ah (aR (aJ E.aO) (ah ai) ⟨by decide, by decide⟩)) (ah ai) (by decide))) (ah ai)).2) E.Fz)) hx) rfl) (aJ E.r6) rfl (Mp (by omega) (by rw [QF]; omega)) (az (az ?_))
     rw [← anD, ← anD, Za]
     exact ⟨_, _, rfl⟩
   . have hp : (decide (c % 9 = 8) && !dp) = false := hp
     rw [alT (fun z => by rw [alV z.1, z.2] at hp; cases hp)]
     refine bO (cN (eG (v_ E.zW.1))) (fun hq => ?_) (fun hq => az (az ?_))
     . rw [alW (Dv hq)]
       refine VH E.cC.1 (aS (ah (aR (aJ E.aO) (ah ai) ⟨by decide, by decide⟩)) (aJ E.r6) (by omega)) (aJ E.r6) rfl (Mp (by omega) (by rw [QF]; omega)) (az (az ?_))
       rw [← anD, ← anD, Za]
       exact az ⟨_, _, rfl⟩
     . rw [alT (by rw [E6 hq]; decide)]
       exact az ⟨_, _, rfl⟩
 case fin =>
   rintro δ ⟨o4, o5, rfl⟩
   have e : (bZ 1 ((m : Int) - 1).toNat).length + 1 = m := by simp [bZ]; omega
   first
     | rw [e]
     | (have e2 : ∀ z : Nat, z + 1 = m -> z + 1 = m := fun _ h => h
        simp only [bZ, alR, am8]
        rw [show ((m : Int) - 1).toNat + 1 = m by omega])
   exact aN (vM E.cC.1) rfl
theorem fW : oW (aA uH) ([("script", aE), ("many", aE), ("deep", aE), ("elders", aE), ("k", aE), ("cell", aE), ("int", aC), ("_law_cell_at", aC), ("range", aC), ("max", aC)]) = true := by decide +kernel
theorem DE : aT ["script", "many", "deep", "elders", "k", "cell"] ["script", "many", "deep"] (aA uH) := bf
noncomputable def Cy (s : List Int) (k : Nat) : Int := bI s (3 + (k : Int)) % 10 ^ (9 : Int).toNat
noncomputable def UM (s es : List Int) (k : Nat) : Str := if Bm es (k : Int) = [] then "leaf" else (["one", "all"] : List Str).getD (Cy s k / 5 % 2).toNat Str.empty
noncomputable def X5 (s es : List Int) (k : Nat) : Int := if UM s es k = "one" then (Bm es (k : Int)).getD (Cy s k / 10 % ((Bm es (k : Int)).length : Nat)).toNat 0 else -1
noncomputable def kdK (s es : List Int) (k : Nat) : Str := if Cy s k % 50 = 3 then (["leaf", "one", "all", "two"] : List Str).getD (Cy s k / 50 % 4).toNat Str.empty else UM s es k
noncomputable def stK (s es : List Int) (k : Nat) : Int := if Cy s k % 50 = 7 then Cy s k / 50 % ((es.length : Int) + 1) - 1 else X5 s es k
theorem afD (s es : List Int) (k : Nat) : X5 s es k < es.length \/ es.length = 0 := by
 by_cases hz : es.length = 0
 . exact .inr hz
 refine .inl ?_
 unfold X5
 split
 . rename_i h
   have hne : Bm es (k : Int) ≠ [] := fun z => by
     unfold UM at h
     rw [alW z] at h
     exact absurd h (by decide +kernel)
   have aiK : 0 < (Bm es (k : Int)).length := List.length_pos_iff.mpr hne
   have c1 := ama (Cy s k / 10) (b := ((Bm es (k : Int)).length : Nat)) (by omega)
   have c2 := al1 (Cy s k / 10) (b := ((Bm es (k : Int)).length : Nat)) (by omega)
   rw [amJ, amm (by omega)]
   exact (Y7 (List.getElem_mem _)).2.1
 . omega
theorem afE (s es : List Int) (k : Nat) (h : 0 < es.length) : stK s es k < es.length := by
 unfold stK
 split
 . have := al1 (Cy s k / 50) (b := (es.length : Int) + 1) (by omega)
   omega
 . exact (afD s es k).resolve_right (by omega)
noncomputable def nq (s es : List Int) (j : Nat) : List Str := (List.range j).map (kdK s es)
noncomputable def oi (s es : List Int) (j : Nat) : List Int := (List.range j).map (stK s es)
theorem SK (s es : List Int) (j : Nat) : ((nq s es (j + 1)).map L3.D.str).map T.sh = ((nq s es j).map L3.D.str).map T.sh ++ [T.sh (.str (kdK s es j))] := by
 unfold nq
 rw [ant, amk, amk, amk]
 rfl
theorem SM (s es : List Int) (j : Nat) : ((oi s es (j + 1)).map L3.D.int).map T.sh = ((oi s es j).map L3.D.int).map T.sh ++ [T.sh (.int (stK s es j))] := by
 unfold oi
 rw [ant, amk, amk, amk]
 rfl
noncomputable abbrev qU : Stmt := top 48
noncomputable abbrev vR : Type := List Int × List Int
noncomputable def nu : vR -> List L3.D := fun (s, es) => [.lst (s.map .int), .lst (es.map .int)]
noncomputable def ko : vR -> Prop := fun (s, es) => s.length <= 1000 /\ es.length <= 100
noncomputable def ny : vR -> T := fun (s, es) => (.tup [.lst (((nq s es es.length).map .str).map T.sh), .lst (((oi s es es.length).map .int).map T.sh)] : T)
structure MD (X : Cx) (CL : Str -> Addr) : Prop extends c7 X where
 cB : Ln X 0 "script"
 cC : Ln X 1 "elders"
 Wt : X.env.kindOf "elders" = some .cell
 kr : Ln X 2 "kinds"
 ku : Ln X 3 "starts"
 r6 : Ln X 4 "k"
 k_k : X.env.kindOf "k" = some .cell
 aO : Ln X 5 "cell"
 qV : Ln X 6 "near"
 dB : Ln X 7 "kind"
 lV : Ln X 8 "start"
 eo : Gl X "range"
 b6 : Gl X "len"
 bL : Gl X "_law_cell_at"
 er : X.mg "range" = none
 b7 : X.mg "len" = none
 dQ : Fc X CL "_law_cell_at" 1 2 iP iQ iS
theorem MF {X : Cx} {CL : Str -> Addr} {b : Bx} (E : MD X CL) (s es) (h : ko (s, es)) :
   aG X CL b qU ["script", "elders", "kinds", "starts", "k", "cell", "near", "kind", "start"] (nu (s, es)) (ny (s, es)) := by
 dsimp only [aG, ko, nu, ny] at h ⊢
 obtain ⟨hs, hl⟩ := h
 refine aY E.g E.kr (e9 dU (amu _)) ?_
 refine aY E.g E.ku (e9 dU (amu _)) ?_
 refine lG E.g E.r6 (fun j δ => ∃ o4 o5 o6 o7 o8, δ = [some (.sh (.lst (s.map .int))), some (.sh (.lst (es.map .int))), some (.lst (((nq s es j).map .str).map T.sh)), some (.lst (((oi s es j).map .int).map T.sh)), o4, o5, o6, o7, o8])
   (gS E.er (ah (cH (alR ..) E.b7 (aJ E.cC) E.b6)) (by omega) E.eo) ⟨_, _, _, _, _, rfl⟩ (fun j δ ⟨_, _, _, _, _, e⟩ => by subst e; exact alY rfl) ?turn ?fin
 case turn =>
   rintro j d δ hj ⟨o4, o5, o6, o7, o8, rfl⟩
   obtain ⟨rfl, vQ⟩ := mz hj
   have vQ : j < es.length := by simp at vQ; omega
   rw [amZ]
   have hkl : (nq s es j).length = j := by simp [nq]
   have hsl : (oi s es j).length = j := by simp [oi]
   refine aY E.g E.aO (aF (aS (ah (c_ ((s, 3 + (j : Int))) E.dQ E.bL (aq (aJ E.cB) (aq (ah (fU (ah ai) (aJ E.r6))) aI)) ((show (0 : Int) <= 3 + (j : Int) by omega)) rfl)) (ah (dS (ah ai) (ah ai) ⟨by decide, by decide, by decide⟩)) (by decide)) (t2 := .sh (.int (Cy s j))) rfl) ?_
   have Qz : ((bZ 0 (es.length : Int).toNat).filter (fun d => decide (es.getD d.UJ.toNat 0 = (j : Int)))).map (fun d => T.sh d) = ((Bm es (j : Int)).map L3.D.int).map T.sh := by
     unfold bZ Bm
     rw [List.filter_map, al5, al5, al5, amR]
     have e1 : ((fun d : L3.D => decide (es.getD d.UJ.toNat 0 = (j : Int))) ∘ fun i : Nat => L3.D.int (0 + (i : Int))) = fun i : Nat => decide (es.getD i 0 = (j : Int)) := by
       funext i
       show decide (es.getD (0 + (i : Int)).toNat 0 = (j : Int)) = _
       rw [amZ, amR]
     rw [e1]
     congr 1
     funext i
     show T.sh (.int (0 + (i : Int))) = T.sh (.int i)
     rw [amZ]
   refine Mv (p := fun d => decide (es.getD d.UJ.toNat 0 = (j : Int))) (gg := fun d => T.sh d) E.g E.qV (cF (.cons E.cC.1 (.inl E.Wt) (.cons E.r6.1 (.inl E.k_k) .nil)) (by decide +kernel)) (gS E.er (ah (cH (alR ..) E.b7 (aJ E.cC) E.b6)) (by omega) E.eo) (.inr rfl) (fun C s0 H0 f0 b' d hd => ?Wu) (amo (bE (by simp [bZ]; omega))) ?rest (by exact alY rfl) (C5 ⟨_, rfl⟩)
   case Wu =>
     obtain ⟨i, hi, rfl⟩ := amn.mp hd
     have hi : i < es.length := by have := amI.mp hi; omega
     exact ⟨(cj (aU (ah (v_ (g7 (i := 1) rfl (by decide +kernel)))) (ah (v_ (gi (i := 0) rfl (by decide +kernel)))) (eX (k := 0 + (i : Int)) (by omega) (by omega))) (ah (v_ (g7 (i := 2) rfl (by decide +kernel))))).1, fun _ => (v_ (gi (i := 0) rfl (by decide +kernel)))⟩
   case rest =>
   rw [Qz]
   refine aY E.g E.dB bR ?_
   refine aY E.g E.lV (dh (ah ai)) ?_
   have c1 := ama (Cy s j / 5) (b := 2) (by decide)
   have c2 := al1 (Cy s j / 5) (b := 2) (by decide)
   have d1 := ama (Cy s j / 50) (b := 4) (by decide)
   have d2 := al1 (Cy s j / 50) (b := 4) (by decide)
   have eN : Qh (.lst ((Bm es (j : Int)).map .int)) (.lst (([] : List Int).map .int)) = decide (Bm es (j : Int) = []) := by rw [Dg]
   have hml : ((Bm es (j : Int)).map L3.D.int).length = (Bm es (j : Int)).length := by simp
   refine vp (fun δ => δ = [some (.sh (.lst (s.map .int))), some (.sh (.lst (es.map .int))), some (.lst (((nq s es j).map .str).map T.sh)), some (.lst (((oi s es j).map .int).map T.sh)), some (.sh (.int (j : Int))), some (.sh (.int (Cy s j))), some (.lst (((Bm es (j : Int)).map .int).map T.sh)), some (.sh (.str (UM s es j))), some (.sh (.int (-1)))]) (Mm E.u (d1 := .lst ((Bm es (j : Int)).map .int)) (d2 := .lst (([] : List Int).map .int)) (vL E.qV.1) (aQ (e9 dU (amu _))) (Ji 59 _) (Ji 59 [])).1 (fun hp => ?_) (fun hp => ?_) ?_
   . rw [eN] at hp
     have e : UM s es j = (["one", "all"] : List Str).getD (Cy s j / 5 % 2).toNat Str.empty := by unfold UM; rw [alT (amd (Dv hp))]
     rw [e]
     exact aY E.g E.dB (cS (aU (aQ (b8 (ds := (["one", "all"] : List Str).map .str) (cP (l := ["one", "all"]) rfl) (aH rfl))) (ah (aS (ah (aR (aJ E.aO) (ah ai) ⟨by decide, by decide⟩)) (ah ai) (by decide))) (sH (l := (["one", "all"] : List Str)) Str.empty c1 c2)) rfl) (az rfl)
   . rw [eN] at hp
     have e : UM s es j = "leaf" := by unfold UM; rw [alW (al2 (E6 hp))]
     rw [e]
     exact az rfl
   rintro δ rfl
   refine vp (fun δ => δ = [some (.sh (.lst (s.map .int))), some (.sh (.lst (es.map .int))), some (.lst (((nq s es j).map .str).map T.sh)), some (.lst (((oi s es j).map .int).map T.sh)), some (.sh (.int (j : Int))), some (.sh (.int (Cy s j))), some (.lst (((Bm es (j : Int)).map .int).map T.sh)), some (.sh (.str (UM s es j))), some (.sh (.int (X5 s es j)))]) (gC (aJ E.dB) (ah bR)).1 (fun hp => ?_) (fun hp => ?_) ?_
   . have hp1 : UM s es j = "one" := al2 hp
     have hne : Bm es (j : Int) ≠ [] := fun z => by
       unfold UM at hp1
       rw [alW z] at hp1
       exact absurd hp1 (by decide +kernel)
     have aiK : 0 < (Bm es (j : Int)).length := List.length_pos_iff.mpr hne
     have f1 := ama (Cy s j / 10) (b := ((Bm es (j : Int)).length : Nat)) (by omega)
     have f2 := al1 (Cy s j / 10) (b := ((Bm es (j : Int)).length : Nat)) (by omega)
     have e : X5 s es j = (Bm es (j : Int)).getD (Cy s j / 10 % ((Bm es (j : Int)).length : Nat)).toNat 0 := by unfold X5; rw [alW hp1]
     rw [e]
     exact aY E.g E.lV (cS (aU (vL E.qV.1) (ah (aS (ah (aR (aJ E.aO) (ah ai) ⟨by decide, by decide⟩)) (ah (cH (hml) E.b7 (vL E.qV.1) E.b6)) (by omega))) (eX f1 f2)) rfl) (az rfl)
   . have e : X5 s es j = -1 := by unfold X5; rw [alT (amd hp)]
     rw [e]
     exact az rfl
   rintro δ rfl
   refine vp (fun δ => δ = [some (.sh (.lst (s.map .int))), some (.sh (.lst (es.map .int))), some (.lst (((nq s es j).map .str).map T.sh)), some (.lst (((oi s es j).map .int).map T.sh)), some (.sh (.int (j : Int))), some (.sh (.int (Cy s j))), some (.lst (((Bm es (j : Int)).map .int).map T.sh)), some (.sh (.str (kdK s es j))), some (.sh (.int (X5 s es j)))]) (cj (ah (aS (aJ E.aO) (ah ai) (by decide))) (ah ai)).1 (fun hp => ?_) (fun hp => ?_) ?_
   . have e : kdK s es j = (["leaf", "one", "all", "two"] : List Str).getD (Cy s j / 50 % 4).toNat Str.empty := by unfold kdK; rw [alW (al2 hp)]
     rw [e]
     exact aY E.g E.dB (cS (aU (aQ (b8 (ds := (["leaf", "one", "all", "two"] : List Str).map .str) (cP (l := ["leaf", "one", "all", "two"]) rfl) (aH rfl))) (ah (aS (ah (aR (aJ E.aO) (ah ai) ⟨by decide, by decide⟩)) (ah ai) (by decide))) (sH (l := (["leaf", "one", "all", "two"] : List Str)) Str.empty d1 d2)) rfl) (az rfl)
   . have e : kdK s es j = UM s es j := by unfold kdK; rw [alT (amd hp)]
     rw [e]
     exact az rfl
   rintro δ rfl
   refine vp (fun δ => δ = [some (.sh (.lst (s.map .int))), some (.sh (.lst (es.map .int))), some (.lst (((nq s es j).map .str).map T.sh)), some (.lst (((oi s es j).map .int).map T.sh)), some (.sh (.int (j : Int))), some (.sh (.int (Cy s j))), some (.lst (((Bm es (j : Int)).map .int).map T.sh)), some (.sh (.str (kdK s es j))), some (.sh (.int (stK s es j)))]) (cj (ah (aS (aJ E.aO) (ah ai) (by decide))) (ah ai)).1 (fun hp => ?_) (fun hp => ?_) ?_
   . have e : stK s es j = Cy s j / 50 % ((es.length : Int) + 1) - 1 := by unfold stK; rw [alW (al2 hp)]
     rw [e]
     exact aY E.g E.lV (gA (ah (aS (ah (aR (aJ E.aO) (ah ai) ⟨by decide, by decide⟩)) (ah (fU (ah (cH (alR ..) E.b7 (aJ E.cC) E.b6)) (ah ai))) (by omega))) (ah ai)) (az rfl)
   . have e : stK s es j = X5 s es j := by unfold stK; rw [alT (amd hp)]
     rw [e]
     exact az rfl
   rintro δ rfl
   refine Bc E.kr.1 rfl (v_ E.dB.1) rfl (by simp; omega) ?_
   refine Bc E.ku.1 rfl (v_ E.lV.1) rfl (by simp; omega) (az ?_)
   rw [SK, SM]
   exact ⟨_, _, _, _, _, rfl⟩
 case fin =>
   rintro δ ⟨o4, o5, o6, o7, o8, rfl⟩
   have e : (bZ 0 (es.length : Int).toNat).length = es.length := by simp [bZ]
   rw [e]
   exact aN (VA (bC (vM E.kr.1) (bC (vM E.ku.1) dU)) (aH rfl)) rfl
theorem cI : oW (aA qU) ([("script", aE), ("elders", .cell), ("kinds", aE), ("starts", aE), ("k", .cell), ("cell", aE), ("near", aE), ("kind", aE), ("start", aE), ("range", aC), ("len", aC), ("_law_cell_at", aC)]) = true := by decide +kernel
theorem Bp : aT ["script", "elders", "kinds", "starts", "k", "cell", "near", "kind", "start"] ["script", "elders"] (aA qU) := bf
noncomputable abbrev GD : Stmt := top 46
noncomputable abbrev MG : Type := Int × List Str × List Str
noncomputable def oj : MG -> List L3.D := fun (c, g, l) => [.int c, .lst (g.map .str), .lst (l.map .str)]
noncomputable def gk : MG -> Prop := fun (c, g, l) => 0 < g.length /\ 0 < l.length
noncomputable def res_some : MG -> T := fun (c, g, l) => (.sh (.str (fB c g l)) : T)
structure acP (X : Cx) (CL : Str -> Addr) : Prop extends c7 X where
 aO : Ln X 0 "cell"
 Wv : Ln X 1 "good"
 aaP : Ln X 2 "bad"
 b6 : Gl X "len"
 b7 : X.mg "len" = none
theorem acQ {X : Cx} {CL : Str -> Addr} {b : Bx} (E : acP X CL) (c g l) (h : gk (c, g, l)) :
   aG X CL b GD ["cell", "good", "bad"] (oj (c, g, l)) (res_some (c, g, l)) := by
 dsimp only [aG, gk, oj, res_some] at h ⊢
 obtain ⟨h1, h2⟩ := h
 have eg : (g.map L3.D.str).length = g.length := alR ..
 have el : (l.map L3.D.str).length = l.length := alR ..
 have a1 := ama (c / 16) (b := (l.length : Nat)) (by omega)
 have a2 := al1 (c / 16) (b := (l.length : Nat)) (by omega)
 have b1 := ama (c / 16) (b := (g.length : Nat)) (by omega)
 have b2 := al1 (c / 16) (b := (g.length : Nat)) (by omega)
 refine bO (cj (ah (aS (aJ E.aO) (ah ai) (by decide))) (ah ai)).1 (fun hp => ?_) (fun hp => az ?_)
 . refine aN (cS (aU (aJ E.aaP) (ah (aS (ah (aR (aJ E.aO) (ah ai) ⟨by decide, by decide⟩)) (ah (cH (el) E.b7 (aJ E.aaP) E.b6)) (by omega))) (sH Str.empty a1 a2)) rfl) ?_
   unfold fB
   rw [alW (al2 hp)]
 . refine aN (cS (aU (aJ E.Wv) (ah (aS (ah (aR (aJ E.aO) (ah ai) ⟨by decide, by decide⟩)) (ah (cH (eg) E.b7 (aJ E.Wv) E.b6)) (by omega))) (sH Str.empty b1 b2)) rfl) ?_
   unfold fB
   rw [alT (amd hp)]
theorem Cz : oW (aA GD) ([("cell", aE), ("good", aE), ("bad", aE), ("len", aC)]) = true := by decide +kernel
theorem QG : aT ["cell", "good", "bad"] ["cell", "good", "bad"] (aA GD) := bf
noncomputable def Ww (c : Int) : List Int := [c / 160 - 3, 10 ^ (30 : Int).toNat - 1, 1 - 10 ^ (30 : Int).toNat, 10 ^ (30 : Int).toNat, 0 - 10 ^ (30 : Int).toNat]
noncomputable def ixC : List Int := [0, 0, 0, 1, 2, 0, 3, 4]
noncomputable def qv (c : Int) : Int := (Ww c).getD (ixC.getD (c / 2 % 8).toNat 0).toNat 0
noncomputable def vg (c : Int) (n : Nat) : Int := if c / 16 % 23 = 22 then ([-2, (n : Int)] : List Int).getD (c / 400 % 2).toNat 0 else c / 16 % ((n : Int) + 1) - 1
theorem afG : ∀ k : Nat, k < 8 -> 0 <= ixC.getD k 0 /\ ixC.getD k 0 < 5 := by decide
noncomputable abbrev GF : Stmt := top 49
noncomputable abbrev MH : Type := Int × Nat
noncomputable def sN : MH -> List L3.D := fun (c, n) => [.int c, .int n]
noncomputable def sO : MH -> Prop := fun (c, n) => n <= 1000
noncomputable def sP : MH -> T := fun (c, n) => (.sh (.tup [.int (vg c n), .int (qv c)]) : T)
structure acR (X : Cx) (CL : Str -> Addr) : Prop extends c7 X where
 aO : Ln X 0 "cell"
 bw : Ln X 1 "many"
 GH : Ln X 2 "some"
 Wx : Ln X 3 "more"
 sQ : Ln X 4 "box"
theorem acS {X : Cx} {CL : Str -> Addr} {b : Bx} (E : acR X CL) (c n) (h : sO (c, n)) :
   aG X CL b GF ["cell", "many", "some", "more", "box"] (sN (c, n)) (sP (c, n)) := by
 dsimp only [aG, sO, sN, sP] at h ⊢
 have a1 := ama (c / 2) (b := 8) (by decide)
 have a2 := al1 (c / 2) (b := 8) (by decide)
 obtain ⟨i1, i2⟩ := afG (c / 2 % 8).toNat (by omega)
 have b1 := ama (c / 400) (b := 2) (by decide)
 have b2 := al1 (c / 400) (b := 2) (by decide)
 refine aY E.g E.GH (aF (e9 (bC (gA (ah (aR (aJ E.aO) (ah ai) ⟨by decide, by decide⟩)) (ah ai)) (bC (gA (ah (dS (ah ai) (ah ai) ⟨by decide, by decide, by decide⟩)) (ah ai)) (bC (gA (ah ai) (ah (dS (ah ai) (ah ai) ⟨by decide, by decide, by decide⟩))) (bC (dS (ah ai) (ah ai) ⟨by decide, by decide, by decide⟩) (bC (gA (ah ai) (ah (dS (ah ai) (ah ai) ⟨by decide, by decide, by decide⟩))) dU))))) (aH rfl)) (t2 := .lst (((Ww c).map .int).map T.sh)) rfl) ?_
 refine aY E.g E.Wx (cS (d := .int (qv c)) (aU (vL E.GH.1) (aU (aQ (b8 (ds := ixC.map .int) (Cr (l := ixC) rfl) (aH rfl))) (ah (aS (ah (aR (aJ E.aO) (ah ai) ⟨by decide, by decide⟩)) (ah ai) (by decide))) (eX a1 a2)) (eX i1 i2)) rfl) ?_
 refine aY E.g E.sQ (gA (ah (aS (ah (aR (aJ E.aO) (ah ai) ⟨by decide, by decide⟩)) (ah (fU (aJ E.bw) (ah ai))) (by omega))) (ah ai)) ?_
 refine vp (fun δ => δ = [some (.sh (.int c)), some (.sh (.int n)), some (.lst (((Ww c).map .int).map T.sh)), some (.sh (.int (qv c))), some (.sh (.int (vg c n)))]) (cj (ah (aS (ah (aR (aJ E.aO) (ah ai) ⟨by decide, by decide⟩)) (ah ai) (by decide))) (ah ai)).1 (fun hp => ?_) (fun hp => ?_) ?_
 . have e : vg c n = ([-2, (n : Int)] : List Int).getD (c / 400 % 2).toNat 0 := by unfold vg; rw [alW (al2 hp)]
   rw [e]
   exact aY E.g E.sQ (cS (aU (aQ (aF (e9 (bC (dh (ah ai)) (bC (v_ E.bw.1) dU)) (aH rfl)) (t2 := .lst ((([-2, (n : Int)] : List Int).map .int).map T.sh)) rfl)) (ah (aS (ah (aR (aJ E.aO) (ah ai) ⟨by decide, by decide⟩)) (ah ai) (by decide))) (eX (bs := [-2, (n : Int)]) b1 b2)) rfl) (az rfl)
 . have e : vg c n = c / 16 % ((n : Int) + 1) - 1 := by unfold vg; rw [alT (amd hp)]
   rw [e]
   exact az rfl
 rintro δ rfl
 exact aN (ni (ds := [.int (vg c n), .int (qv c)]) (aW (v_ E.sQ.1) (aW (v_ E.Wx.1) n9)) (aH rfl)) rfl
theorem yb : oW (aA GF) ([("cell", aE), ("many", aE), ("some", aE), ("more", aE), ("box", aE)]) = true := by decide +kernel
theorem QH : aT ["cell", "many", "some", "more", "box"] ["cell", "many"] (aA GF) := bf
noncomputable def gW : List Str := ["go", "a1", "halt", "z"]
noncomputable def bW : List Str := ["", "do", "Go", "g o", "1a"]
noncomputable def sW : List Str := ["say"]
noncomputable def tW : List Str := ["tell", "Say", "", "puts"]
theorem uI (c : Int) {g l : List Str} (hg : 0 < g.length) (hl : 0 < l.length) : fB c g l ∈ g ++ l := by
 have a1 := ama (c / 16) (b := (l.length : Nat)) (by omega)
 have a2 := al1 (c / 16) (b := (l.length : Nat)) (by omega)
 have b1 := ama (c / 16) (b := (g.length : Nat)) (by omega)
 have b2 := al1 (c / 16) (b := (g.length : Nat)) (by omega)
 unfold fB
 split
 . rw [amJ, amm (by omega)]
   exact alU _ (List.getElem_mem _)
 . rw [amJ, amm (by omega)]
   exact al4 _ (List.getElem_mem _)
theorem DF (c : Int) : (fB c gW bW).length <= 1000 := by
 have h : ∀ x ∈ gW ++ bW, x.length <= 1000 := by decide +kernel
 exact h _ (uI c (by decide) (by decide))
theorem Wy (c : Int) : fB c sW tW ≠ "put" /\ fB c sW tW ≠ "call" := by
 have h : ∀ x ∈ sW ++ tW, x ≠ "put" /\ x ≠ "call" := by decide +kernel
 exact h _ (uI c (by decide) (by decide))
noncomputable def Zb (c : Int) (n : Nat) : qI :=
 if c % 3 = 0 then .call (fB (c / 3) gW bW)
 else if c % 3 = 1 then .say (fB (c / 11) sW tW) (fB (c / 3) gW bW) (vg (c / 500) n) (qv (c / 500))
 else .put (if c / 30 % 12 = 5 then (n : Int) - c / 360 % 2 * ((n : Int) + 1) else if 0 < n then c / 3 % (n : Int) else 0) (vg (c / 500) n) (qv (c / 500))
noncomputable def QI (c : Int) (n : Nat) : qI := Zb (c % 10 ^ (12 : Int).toNat) n
theorem Wz (c : Int) (n : Nat) : dgL (QI c n) := by
 unfold QI Zb
 split
 . exact DF _
 . split
   . exact ⟨Wy _, DF _⟩
   . trivial
noncomputable abbrev GJ : Stmt := top 50
noncomputable abbrev MJ : Type := Int × Nat
noncomputable def sR : MJ -> List L3.D := fun (c, n) => [.int c, .int n]
noncomputable def om : MJ -> Prop := fun (c, n) => n <= 1000
noncomputable def sS : MJ -> T := fun (c, n) => (.sh (Dw (QI c n)) : T)
structure acT (X : Cx) (CL : Str -> Addr) : Prop extends c7 X where
 aO : Ln X 0 "cell"
 bw : Ln X 1 "many"
 kB : Ln X 2 "word"
 fX : Ln X 3 "way"
 sQ : Ln X 4 "box"
 fD : Gl X "_law_some"
 pH : Gl X "_law_term"
 qW : Fc X CL "_law_some" 1 3 oj gk res_some
 GK : Fc X CL "_law_term" 1 2 sN sO sP
theorem acU {X : Cx} {CL : Str -> Addr} {b : Bx} (E : acT X CL) (c n) (h : om (c, n)) :
   aG X CL b GJ ["cell", "many", "word", "way", "box"] (sR (c, n)) (sS (c, n)) := by
 dsimp only [aG, om, sR, sS] at h ⊢
 refine aY E.g E.aO (aS (aJ E.aO) (ah (dS (ah ai) (ah ai) ⟨by decide, by decide, by decide⟩)) (by decide)) ?_
 unfold QI
 generalize c % 10 ^ (12 : Int).toNat = c
 show gw X CL b _ _ { nx := _, rt := fun v__ _ => v__ = T.sh (Dw (Zb c n)), bk := _, ct := _ }
 unfold Zb
 refine aY E.g E.kB (aF (c_ (c / 3, gW, bW) E.qW E.fD (aq (ah (aR (aJ E.aO) (ah ai) ⟨by decide, by decide⟩)) (aq (aQ (b8 (cP rfl) (aH rfl))) (aq (aQ (b8 (cP rfl) (aH rfl))) aI))) (by dsimp only [gk]; decide) rfl) (t2 := .sh (.str (fB (c / 3) gW bW))) rfl) ?_
 generalize fB (c / 3) gW bW = w
 refine aY E.g E.fX (aS (aJ E.aO) (ah ai) (by decide)) ?_
 refine bO (cj (aJ E.fX) (ah ai)).1 (fun hp => ?_) (fun hp => az ?_)
 . rw [alW (al2 hp)]
   exact aN (ni (ds := [.str "call", .str w]) (aW bR (aW (v_ E.kB.1) n9)) (aH rfl)) rfl
 rw [alT (amd hp)]
 have tm : ∀ (p1 p2 p3 p4 p5 p6 : Pos) (k1 : Nat) (o3 o4 : Option T), cY X CL b (.Call (.Name "_law_term" p1) [.BinOp (.Name "cell" p2) .FloorDiv (.Constant (.int 500) k1 p3) p4, .Name "many" p5] [] p6) [some (.sh (.int c)), some (.sh (.int n)), some (.sh (.str w)), o3, o4] (.sh (.tup [.int (vg (c / 500) n), .int (qv (c / 500))])) [some (.sh (.int c)), some (.sh (.int n)), some (.sh (.str w)), o3, o4] := fun p1 p2 p3 p4 p5 p6 k1 o3 o4 =>
   aF (c_ (c / 500, n) E.GK E.pH (aq (ah (aR (aJ E.aO) (ah ai) ⟨by decide, by decide⟩)) (aq (aJ E.bw) aI)) h rfl) rfl
 refine bO (cj (aJ E.fX) (ah ai)).1 (fun hq => ?_) (fun hq => az ?_)
 . rw [alW (al2 hq)]
   exact aN (ni (ds := [.str (fB (c / 11) sW tW), .str w, .tup [.int (vg (c / 500) n), .int (qv (c / 500))]]) (aW (aF (c_ (c / 11, sW, tW) E.qW E.fD (aq (ah (aR (aJ E.aO) (ah ai) ⟨by decide, by decide⟩)) (aq (aQ (b8 (cP rfl) (aH rfl))) (aq (aQ (b8 (cP rfl) (aH rfl))) aI))) (by dsimp only [gk]; decide) rfl) (t2 := .sh (.str (fB (c / 11) sW tW))) rfl) (aW (v_ E.kB.1) (aW (tm _ _ _ _ _ _ _ _ _) n9))) (aH rfl)) rfl
 rw [alT (amd hq)]
 refine aY E.g E.sQ ai ?_
 refine vp (fun δ => δ = [some (.sh (.int c)), some (.sh (.int n)), some (.sh (.str w)), some (.sh (.int (c % 3))), some (.sh (.int (if 0 < n then c / 3 % (n : Int) else 0)))]) (Fp (aJ E.bw) (ah ai)).1 (fun hz => ?_) (fun hz => ?_) ?_
 . have hz : 0 < n := by have : (0 : Int) < (n : Int) := al2 hz
                         omega
   rw [alW hz]
   exact aY E.g E.sQ (aS (ah (aR (aJ E.aO) (ah ai) ⟨by decide, by decide⟩)) (aJ E.bw) (by omega)) (az rfl)
 . have hz : ¬ 0 < n := by have : ¬ (0 : Int) < (n : Int) := amd hz
                           omega
   rw [alT hz]
   exact az rfl
 rintro δ rfl
 generalize (if 0 < n then c / 3 % (n : Int) else 0) = bx0
 refine vp (fun δ => δ = [some (.sh (.int c)), some (.sh (.int n)), some (.sh (.str w)), some (.sh (.int (c % 3))), some (.sh (.int (if c / 30 % 12 = 5 then (n : Int) - c / 360 % 2 * ((n : Int) + 1) else bx0)))]) (cj (ah (aS (ah (aR (aJ E.aO) (ah ai) ⟨by decide, by decide⟩)) (ah ai) (by decide))) (ah ai)).1 (fun hz => ?_) (fun hz => ?_) ?_
 . rw [alW (al2 hz)]
   have d1 := ama (c / 360) (b := 2) (by decide)
   have d2 := al1 (c / 360) (b := 2) (by decide)
   exact aY E.g E.sQ (gA (aJ E.bw) (ah (vH (ah (aS (ah (aR (aJ E.aO) (ah ai) ⟨by decide, by decide⟩)) (ah ai) (by decide))) (ah (fU (aJ E.bw) (ah ai))) (.inl ⟨by omega, by omega⟩)))) (az rfl)
 . rw [alT (amd hz)]
   exact az rfl
 rintro δ rfl
 generalize (if c / 30 % 12 = 5 then (n : Int) - c / 360 % 2 * ((n : Int) + 1) else bx0) = bx1
 exact aN (ni (ds := [.str "put", .int bx1, .tup [.int (vg (c / 500) n), .int (qv (c / 500))]]) (aW bR (aW (v_ E.sQ.1) (aW (tm _ _ _ _ _ _ _ _ _) n9))) (aH rfl)) rfl
theorem qX : oW (aA GJ) ([("cell", aE), ("many", aE), ("word", aE), ("way", aE), ("box", aE), ("_law_some", aC), ("_law_term", aC)]) = true := by decide +kernel
theorem QJ : aT ["cell", "many", "word", "way", "box"] ["cell", "many"] (aA GJ) := bf
noncomputable def mG : List Str := ["<", "<=", "=", "!="]
noncomputable def mB : List Str := [">", "", "=="]
noncomputable def opW : List Str := ["open", "shut"]
noncomputable def Zc (c : Int) (m n : Nat) : Wk :=
 if c % 3 = 0 then .Ss (opW.getD (c / 3 % 2).toNat Str.empty) (c / 6 % ((n : Int) + 1) - (if c / 6 % 11 = 10 then 1 else 0))
 else .num (fB (c / 3) mG mB) (vg (c / 99) m) (qv (c / 99)) (vg (c / 7) m) (qv (c / 7))
noncomputable def WB (c : Int) (m n : Nat) : Wk := Zc (c % 10 ^ (12 : Int).toNat) m n
theorem acV (c : Int) (m n : Nat) : Wm (WB c m n) := by
 unfold WB
 generalize c % 10 ^ (12 : Int).toNat = c
 unfold Zc
 split
 . have b1 := ama (c / 3) (b := 2) (by decide)
   have b2 := al1 (c / 3) (b := 2) (by decide)
   have h : ∀ k : Nat, k < 2 -> opW.getD k Str.empty ∈ (["open", "shut"] : List Str) := by decide +kernel
   exact h _ (by omega)
 . have h : ∀ x ∈ mG ++ mB, ¬ x ∈ (["open", "shut"] : List Str) := by decide +kernel
   exact h _ (uI _ (by decide) (by decide))
noncomputable abbrev QK : Stmt := top 51
noncomputable abbrev WC : Type := Int × Nat × Nat
noncomputable def CB : WC -> List L3.D := fun (c, m, n) => [.int c, .int m, .int n]
noncomputable def yc : WC -> Prop := fun (c, m, n) => m <= 1000 /\ n <= 1000
noncomputable def CD : WC -> T := fun (c, m, n) => (.sh (E4 (WB c m n)) : T)
structure afI (X : Cx) (CL : Str -> Addr) : Prop extends c7 X where
 aO : Ln X 0 "cell"
 bw : Ln X 1 "many"
 cA : Ln X 2 "moods"
 sU : Ln X 3 "mark"
 Fz : Gl X "int"
 fD : Gl X "_law_some"
 pH : Gl X "_law_term"
 FD : X.mg "int" = none
 qW : Fc X CL "_law_some" 1 3 oj gk res_some
 GK : Fc X CL "_law_term" 1 2 sN sO sP
theorem afJ {X : Cx} {CL : Str -> Addr} {b : Bx} (E : afI X CL) (c m n) (h : yc (c, m, n)) :
   aG X CL b QK ["cell", "many", "moods", "mark"] (CB (c, m, n)) (CD (c, m, n)) := by
 dsimp only [aG, yc, CB, CD] at h ⊢
 obtain ⟨hm, hn⟩ := h
 refine aY E.g E.aO (aS (aJ E.aO) (ah (dS (ah ai) (ah ai) ⟨by decide, by decide, by decide⟩)) (by decide)) ?_
 unfold WB
 generalize c % 10 ^ (12 : Int).toNat = c
 show gw X CL b _ _ { nx := _, rt := fun v__ _ => v__ = T.sh (E4 (Zc c m n)), bk := _, ct := _ }
 unfold Zc
 have b1 := ama (c / 3) (b := 2) (by decide)
 have b2 := al1 (c / 3) (b := 2) (by decide)
 refine bO (cj (ah (aS (aJ E.aO) (ah ai) (by decide))) (ah ai)).1 (fun hp => ?_) (fun hp => az ?_)
 . rw [alW (al2 hp)]
   refine aN (ni (ds := [.str (opW.getD (c / 3 % 2).toNat Str.empty), .int (c / 6 % ((n : Int) + 1) - (if c / 6 % 11 = 10 then 1 else 0))]) (aW (cS (aU (aQ (b8 (ds := opW.map .str) (cP (l := opW) rfl) (aH rfl))) (ah (aS (ah (aR (aJ E.aO) (ah ai) ⟨by decide, by decide⟩)) (ah ai) (by decide))) (sH Str.empty b1 b2)) rfl) (aW (aF (gA (ah (aS (ah (aR (aJ E.aO) (ah ai) ⟨by decide, by decide⟩)) (ah (fU (aJ E.cA) (ah ai))) (by omega))) (ah (Cq E.FD (ah (cj (ah (aS (ah (aR (aJ E.aO) (ah ai) ⟨by decide, by decide⟩)) (ah ai) (by decide))) (ah ai)).2) E.Fz))) (t2 := .sh (.int (c / 6 % ((n : Int) + 1) - (if c / 6 % 11 = 10 then 1 else 0)))) ?_) n9)) (aH rfl)) rfl
   refine congrArg (fun z => T.sh (.int z)) ?_
   by_cases e : c / 6 % 11 = 10
   . rw [alW e, alV e]; rfl
   . rw [alT e, alS e]; rfl
 rw [alT (amd hp)]
 refine aY E.g E.sU (aF (c_ (c / 3, mG, mB) E.qW E.fD (aq (ah (aR (aJ E.aO) (ah ai) ⟨by decide, by decide⟩)) (aq (aQ (b8 (cP rfl) (aH rfl))) (aq (aQ (b8 (cP rfl) (aH rfl))) aI))) (by dsimp only [gk]; decide) rfl) (t2 := .sh (.str (fB (c / 3) mG mB))) rfl) ?_
 exact aN (ni (ds := [.str (fB (c / 3) mG mB), .tup [.int (vg (c / 99) m), .int (qv (c / 99))], .tup [.int (vg (c / 7) m), .int (qv (c / 7))]]) (aW (v_ E.sU.1) (aW (aF (c_ (c / 99, m) E.GK E.pH (aq (ah (aR (aJ E.aO) (ah ai) ⟨by decide, by decide⟩)) (aq (aJ E.bw) aI)) hm rfl) rfl) (aW (aF (c_ (c / 7, m) E.GK E.pH (aq (ah (aR (aJ E.aO) (ah ai) ⟨by decide, by decide⟩)) (aq (aJ E.bw) aI)) hm rfl) rfl) n9))) (aH rfl)) rfl
theorem vS : oW (aA QK) ([("cell", aE), ("many", aE), ("moods", aE), ("mark", aE), ("int", aC), ("_law_some", aC), ("_law_term", aC)]) = true := by decide +kernel
theorem WD : aT ["cell", "many", "moods", "mark"] ["cell", "many", "moods"] (aA QK) := bf
theorem WG (q : Wk) : (T.sh (E4 q)).clean = true := by rw [T.clean]; cases q <;> rfl
theorem JC (q : qI) : (T.sh (Dw q)).clean = true := by rw [T.clean]; exact Cu q
noncomputable def wM : List Str := ["new", "near", "far"]
noncomputable def wB : List Str := ["", "old"]
noncomputable def acW (c q src : Int) (m n : Nat) : BF :=
 ⟨src, fB q gW bW, (List.range (c % 3).toNat).map fun (k : Nat) => WB (q / (1 + 5 * (k : Int))) m n, (List.range (c / 3 % 3).toNat).map fun (k : Nat) => QI (c / (7 + 4 * (k : Int))) m,
  if c / 9 % 31 = 30 then ([(n : Int), -2] : List Int).getD (c / 300 % 2).toNat 0 else c / 9 % ((n : Int) + 1) - 1,
  if c / 9 % ((n : Int) + 1) - 1 = -1 /\ 0 < c / 90 % 5 then "new" else fB (c / 9) wM wB⟩
noncomputable def WH (s : List Int) (q src : Int) (m n : Nat) : BF := acW (bI s q % 10 ^ (15 : Int).toNat) (bI s (q + 1) % 10 ^ (15 : Int).toNat) src m n
theorem MK (s : List Int) (q src : Int) (m n : Nat) : (WH s q src m n).ok /\ (WH s q src m n).al.length <= 1000 /\ ((WH s q src m n).dl.length <= 1000 /\ ∀ x ∈ (WH s q src m n).dl, dgL x) := by
 unfold WH
 generalize bI s q % 10 ^ (15 : Int).toNat = c
 generalize bI s (q + 1) % 10 ^ (15 : Int).toNat = d
 have c1 := al1 c (b := 3) (by decide)
 have c2 := al1 (c / 3) (b := 3) (by decide)
 refine ⟨⟨DF _, fun x hx => ?_⟩, ?_, ?_, fun x hx => ?_⟩
 . obtain ⟨k, _, rfl⟩ := amn.mp hx
   exact acV _ _ _
 . show ((List.range (c % 3).toNat).map _).length <= 1000
   rw [alR, am8]
   omega
 . show ((List.range (c / 3 % 3).toNat).map _).length <= 1000
   rw [alR, am8]
   omega
 . obtain ⟨k, _, rfl⟩ := amn.mp hx
   exact Wz _ _
noncomputable abbrev QL : Stmt := top 52
noncomputable abbrev WK : Type := List Int × Int × Int × Nat × Nat
noncomputable def CF : WK -> List L3.D := fun (s, q, src, m, n) => [.lst (s.map .int), .int q, .int src, .int m, .int n]
noncomputable def yd : WK -> Prop := fun (s, q, src, m, n) => s.length <= 1000 /\ 0 <= q /\ m <= 1000 /\ n <= 1000
noncomputable def CG : WK -> T := fun (s, q, src, m, n) => (.sh (pD (WH s q src m n)) : T)
structure afK (X : Cx) (CL : Str -> Addr) : Prop extends c7 X where
 cB : Ln X 0 "script"
 afL : Ln X 1 "at"
 WL : Ln X 2 "source"
 bw : Ln X 3 "many"
 qY : X.env.kindOf "many" = some .cell
 cA : Ln X 4 "moods"
 uJ : X.env.kindOf "moods" = some .cell
 aO : Ln X 5 "cell"
 ML : X.env.kindOf "cell" = some .cell
 sV : Ln X 6 "next_cell"
 JD : X.env.kindOf "next_cell" = some .cell
 WM : Ln X 7 "asks"
 pI : Ln X 8 "deeds"
 mD : Ln X 9 "target"
 vU : Ln X 10 "mode"
 DG : Ln X 11 "sign"
 bL : Gl X "_law_cell_at"
 CH : Gl X "tuple"
 eo : Gl X "range"
 fD : Gl X "_law_some"
 dQ : Fc X CL "_law_cell_at" 1 2 iP iQ iS
 CJ : X.mg "tuple" = none
 er : X.mg "range" = none
 qW : Fc X CL "_law_some" 1 3 oj gk res_some
 afM : Fc X CL "_law_ask" 2 3 CB yc CD
 MN : Fc X CL "_law_deed" 2 2 sR om sS
theorem afN {X : Cx} {CL : Str -> Addr} {b : Bx} (E : afK X CL) (s q src m n) (h : yd (s, q, src, m, n)) :
   aG X CL b QL ["script", "at", "source", "many", "moods", "cell", "next_cell", "asks", "deeds", "target", "mode", "sign"] (CF (s, q, src, m, n)) (CG (s, q, src, m, n)) := by
 dsimp only [aG, yd, CF, CG] at h ⊢
 obtain ⟨hs, hq, hm, hn⟩ := h
 refine aY E.g E.aO (aS (ah (c_ ((s, q)) E.dQ E.bL (aq (aJ E.cB) (aq (aJ E.afL) aI)) (hq) rfl)) (ah (dS (ah ai) (ah ai) ⟨by decide, by decide, by decide⟩)) (by decide)) ?_
 refine aY E.g E.sV (aS (ah (c_ ((s, q + 1)) E.dQ E.bL (aq (aJ E.cB) (aq (ah (fU (aJ E.afL) (ah ai))) aI)) ((show 0 <= q + 1 by omega)) rfl)) (ah (dS (ah ai) (ah ai) ⟨by decide, by decide, by decide⟩)) (by decide)) ?_
 unfold WH
 have z1 := ama (bI s q) (b := 10 ^ (15 : Int).toNat) (by decide)
 have z2 := ama (bI s (q + 1)) (b := 10 ^ (15 : Int).toNat) (by decide)
 show gw X CL b _ [some (.sh (.lst (s.map .int))), some (.sh (.int q)), some (.sh (.int src)), some (.sh (.int m)), some (.sh (.int n)), some (.sh (.int (bI s q % 10 ^ (15 : Int).toNat))), some (.sh (.int (bI s (q + 1) % 10 ^ (15 : Int).toNat))), none, none, none, none, none] { nx := _, rt := fun v__ _ => v__ = T.sh (pD (acW (bI s q % 10 ^ (15 : Int).toNat) (bI s (q + 1) % 10 ^ (15 : Int).toNat) src m n)), bk := _, ct := _ }
 generalize bI s q % 10 ^ (15 : Int).toNat = c at z1 ⊢
 generalize bI s (q + 1) % 10 ^ (15 : Int).toNat = d at z2 ⊢
 have c1 := al1 c (b := 3) (by decide)
 have c0 := ama c (b := 3) (by decide)
 have e1 := al1 (c / 3) (b := 3) (by decide)
 have e0 := ama (c / 3) (b := 3) (by decide)
 have b1 := ama (c / 300) (b := 2) (by decide)
 have b2 := al1 (c / 300) (b := 2) (by decide)
 have iA : D.cM (((List.range (c % 3).toNat).map fun (k : Nat) => WB (d / (1 + 5 * (k : Int))) m n).map E4) = true := c5 (fun q => by cases q <;> rfl) _
 have iD : D.cM (((List.range (c / 3 % 3).toNat).map fun (k : Nat) => QI (c / (7 + 4 * (k : Int))) m).map Dw) = true := c5 Cu _
 refine aY E.g E.WM (zK (ds := ((List.range (c % 3).toNat).map fun (k : Nat) => WB (d / (1 + 5 * (k : Int))) m n).map E4) E.CJ (aQ (aF (i7 (p := fun _ => true) (g := fun x => T.sh (E4 (WB (d / (1 + 5 * x.UJ)) m n))) (cF (.cons E.bw.1 (.inl E.qY) (.cons E.cA.1 (.inl E.uJ) (.cons E.sV.1 (.inl E.JD) .nil))) (by decide +kernel)) E.g.calm (gS E.er (ah (aS (aJ E.aO) (ah ai) (by omega))) (by omega) E.eo) (.inr rfl) (fun C s0 H0 f0 b' x hx => ?acX) (amo (bE (by simp [bZ]; omega)))) ?acY)) iA E.CH) ?_
 case acX =>
   obtain ⟨k, hk, rfl⟩ := amn.mp hx
   have hk : k < 3 := by have := amI.mp hk; omega
   exact ⟨rfl, fun _ => aF (c_ (d / (1 + 5 * (0 + (k : Int))), m, n) (lU E.afM) (kg (by decide +kernel)) (aq (ah (aR (ah (v_ (g7 (i := 3) rfl (by decide +kernel)))) (ah (fU (ah ai) (ah (vH (ah ai) (ah (v_ (gi (i := 0) rfl (by decide +kernel)))) (.inl ⟨by omega, by omega⟩))))) (⟨by omega, by omega⟩))) (aq (ah (v_ (g7 (i := 1) rfl (by decide +kernel)))) (aq (ah (v_ (g7 (i := 2) rfl (by decide +kernel)))) aI))) (by dsimp only [yc]; exact ⟨hm, hn⟩) (WG _)) rfl⟩
 case acY =>
   refine congrArg T.lst ?_
   rw [ck]
   unfold bZ
   rw [al5, al5, al5]
   refine amP fun k _ => ?_
   show T.sh (E4 (WB (d / (1 + 5 * (0 + (k : Int)))) m n)) = _
   rw [amZ]
   rfl
 refine aY E.g E.pI (zK (ds := ((List.range (c / 3 % 3).toNat).map fun (k : Nat) => QI (c / (7 + 4 * (k : Int))) m).map Dw) E.CJ (aQ (aF (i7 (p := fun _ => true) (g := fun x => T.sh (Dw (QI (c / (7 + 4 * x.UJ)) m))) (cF (.cons E.aO.1 (.inl E.ML) (.cons E.bw.1 (.inl E.qY) .nil)) (by decide +kernel)) E.g.calm (gS E.er (ah (aS (ah (aR (aJ E.aO) (ah ai) ⟨by decide, by decide⟩)) (ah ai) (by decide))) (by omega) E.eo) (.inr rfl) (fun C s0 H0 f0 b' x hx => ?acZ) (amo (bE (by simp [bZ]; omega)))) ?aiL)) iD E.CH) ?_
 case acZ =>
   obtain ⟨k, hk, rfl⟩ := amn.mp hx
   have hk : k < 3 := by have := amI.mp hk; omega
   exact ⟨rfl, fun _ => aF (c_ (c / (7 + 4 * (0 + (k : Int))), m) (lU E.MN) (kg (by decide +kernel)) (aq (ah (aR (ah (v_ (g7 (i := 1) rfl (by decide +kernel)))) (ah (fU (ah ai) (ah (vH (ah ai) (ah (v_ (gi (i := 0) rfl (by decide +kernel)))) (.inl ⟨by omega, by omega⟩))))) (⟨by omega, by omega⟩))) (aq (ah (v_ (g7 (i := 2) rfl (by decide +kernel)))) aI)) (by dsimp only [om]; exact hm) (JC _)) rfl⟩
 case aiL =>
   refine congrArg T.lst ?_
   rw [ck]
   unfold bZ
   rw [al5, al5, al5]
   refine amP fun k _ => ?_
   show T.sh (Dw (QI (c / (7 + 4 * (0 + (k : Int)))) m)) = _
   rw [amZ]
   rfl
 have hV : pD (acW c d src m n) = .tup [.int src, .str (fB d gW bW), .tup (((List.range (c % 3).toNat).map fun (k : Nat) => WB (d / (1 + 5 * (k : Int))) m n).map E4), .tup (((List.range (c / 3 % 3).toNat).map fun (k : Nat) => QI (c / (7 + 4 * (k : Int))) m).map Dw), .int (if c / 9 % 31 = 30 then ([(n : Int), -2] : List Int).getD (c / 300 % 2).toNat 0 else c / 9 % ((n : Int) + 1) - 1), .str (if c / 9 % ((n : Int) + 1) - 1 = -1 /\ 0 < c / 90 % 5 then "new" else fB (c / 9) wM wB)] := rfl
 rw [hV]
 clear hV
 generalize ((List.range (c % 3).toNat).map fun (k : Nat) => WB (d / (1 + 5 * (k : Int))) m n).map E4 = aV at iA ⊢
 generalize ((List.range (c / 3 % 3).toNat).map fun (k : Nat) => QI (c / (7 + 4 * (k : Int))) m).map Dw = dV at iD ⊢
 refine aY E.g E.mD (gA (ah (aS (ah (aR (aJ E.aO) (ah ai) ⟨by decide, by decide⟩)) (ah (fU (aJ E.cA) (ah ai))) (by omega))) (ah ai)) ?_
 refine aY E.g E.vU (aF (c_ (c / 9, wM, wB) E.qW E.fD (aq (ah (aR (aJ E.aO) (ah ai) ⟨by decide, by decide⟩)) (aq (aQ (b8 (cP rfl) (aH rfl))) (aq (aQ (b8 (cP rfl) (aH rfl))) aI))) (by dsimp only [gk]; decide) rfl) (t2 := .sh (.str (fB (c / 9) wM wB))) rfl) ?_
 generalize fB (c / 9) wM wB = md0
 generalize hT : c / 9 % ((n : Int) + 1) - 1 = tg0
 refine vp (fun δ => δ = [some (.sh (.lst (s.map .int))), some (.sh (.int q)), some (.sh (.int src)), some (.sh (.int m)), some (.sh (.int n)), some (.sh (.int c)), some (.sh (.int d)), some (.sh (.tup aV)), some (.sh (.tup dV)), some (.sh (.int tg0)), some (.sh (.str (if tg0 = -1 /\ 0 < c / 90 % 5 then "new" else md0))), none]) (gD (gF (cj (aJ E.mD) (ah (dh (ah ai)))).1 (fun hb => (lT (Fp (ah (aS (ah (aR (aJ E.aO) (ah ai) ⟨by decide, by decide⟩)) (ah ai) (by decide))) (ah ai)).1)))) (fun hp => ?_) (fun hp => ?_) ?_
 . rw [ame] at hp
   rw [alW ⟨al2 hp.1, al2 hp.2⟩]
   exact aY E.g E.vU bR (az rfl)
 . have hp : (decide (tg0 = -1) && decide (0 < c / 90 % 5)) = false := hp
   rw [alT (fun z => by rw [alV z.1, alV z.2] at hp; cases hp)]
   exact az rfl
 rintro δ rfl
 generalize (if tg0 = -1 /\ 0 < c / 90 % 5 then ("new" : Str) else md0) = md1
 refine vp (fun δ => δ = [some (.sh (.lst (s.map .int))), some (.sh (.int q)), some (.sh (.int src)), some (.sh (.int m)), some (.sh (.int n)), some (.sh (.int c)), some (.sh (.int d)), some (.sh (.tup aV)), some (.sh (.tup dV)), some (.sh (.int (if c / 9 % 31 = 30 then ([(n : Int), -2] : List Int).getD (c / 300 % 2).toNat 0 else tg0))), some (.sh (.str md1)), none]) (cj (ah (aS (ah (aR (aJ E.aO) (ah ai) ⟨by decide, by decide⟩)) (ah ai) (by decide))) (ah ai)).1 (fun hp => ?_) (fun hp => ?_) ?_
 . rw [alW (al2 hp)]
   exact aY E.g E.mD (cS (aU (aQ (aF (e9 (bC (v_ E.cA.1) (bC (dh (ah ai)) dU)) (aH rfl)) (t2 := .lst ((([(n : Int), -2] : List Int).map .int).map T.sh)) rfl)) (ah (aS (ah (aR (aJ E.aO) (ah ai) ⟨by decide, by decide⟩)) (ah ai) (by decide))) (eX (bs := [(n : Int), -2]) b1 b2)) rfl) (az rfl)
 . rw [alT (amd hp)]
   exact az rfl
 rintro δ rfl
 generalize (if c / 9 % 31 = 30 then ([(n : Int), -2] : List Int).getD (c / 300 % 2).toNat 0 else tg0) = tg1
 refine aY E.g E.DG (aF (c_ (d, gW, bW) E.qW E.fD (aq (aJ E.sV) (aq (aQ (b8 (cP rfl) (aH rfl))) (aq (aQ (b8 (cP rfl) (aH rfl))) aI))) (by dsimp only [gk]; decide) rfl) (t2 := .sh (.str (fB d gW bW))) rfl) ?_
 exact aN (ni (ds := [.int src, .str (fB d gW bW), .tup aV, .tup dV, .int tg1, .str md1]) (aW (v_ E.WL.1) (aW (v_ E.DG.1) (aW (v_ E.WM.1) (aW (v_ E.pI.1) (aW (v_ E.mD.1) (aW (v_ E.vU.1) n9)))))) (aH rfl)) rfl
theorem gn : oW (aA QL) ([("script", aE), ("at", aE), ("source", aE), ("many", .cell), ("moods", .cell), ("cell", .cell), ("next_cell", .cell), ("asks", aE), ("deeds", aE), ("target", aE), ("mode", aE), ("sign", aE), ("_law_cell_at", aC), ("tuple", aC), ("range", aC), ("_law_some", aC)]) = true := by decide +kernel
theorem WN : aT ["script", "at", "source", "many", "moods", "cell", "next_cell", "asks", "deeds", "target", "mode", "sign"] ["script", "at", "source", "many", "moods"] (aA QL) := bf
theorem ye (k : Nat) (h : k <= 60) : (k : Int).natAbs.log2 < 1920 /\ (toString (k : Int) : Str).length <= 50 := by
 have h2 : ((List.range 61).all fun k => decide ((k : Int).natAbs.log2 < 1920) && decide ((toString (k : Int) : Str).length <= 50)) = true := by decide +kernel
 have := List.all_eq_true.mp h2 k (amI.mpr (by omega))
 simpa [Bool.and_eq_true, and_assoc] using this
noncomputable def nU (s : List Int) : Int := bI s 0 % 10 ^ (12 : Int).toNat
noncomputable def MP (s : List Int) : Bool := decide (nU s % 4 = 1)
noncomputable def lW (s : List Int) : Nat := (1 + nU s / 4 % ([6, 24] : List Int).getD (if MP s then 1 else 0) 0).toNat
noncomputable def qg (s : List Int) : Nat := (nU s / 96 % 4).toNat
noncomputable def exK : List Int := [0, 0, 0, 0, 0, 0, 0, 0, 1, -1]
theorem QM : ∀ k : Nat, k < 10 -> -1 <= exK.getD k 0 /\ exK.getD k 0 <= 1 := by decide
theorem QN (s : List Int) : 1 <= lW s /\ lW s <= 24 /\ ((lW s : Nat) : Int) = 1 + nU s / 4 % ([6, 24] : List Int).getD (if MP s then 1 else 0) 0 := by
 unfold lW
 cases MP s
 . have a1 := ama (nU s / 4) (b := 6) (by decide)
   have a2 := al1 (nU s / 4) (b := 6) (by decide)
   show 1 <= (1 + nU s / 4 % 6).toNat /\ (1 + nU s / 4 % 6).toNat <= 24 /\ (((1 + nU s / 4 % 6).toNat : Nat) : Int) = 1 + nU s / 4 % 6
   omega
 . have a1 := ama (nU s / 4) (b := 24) (by decide)
   have a2 := al1 (nU s / 4) (b := 24) (by decide)
   show 1 <= (1 + nU s / 4 % 24).toNat /\ (1 + nU s / 4 % 24).toNat <= 24 /\ (((1 + nU s / 4 % 24).toNat : Nat) : Int) = 1 + nU s / 4 % 24
   omega
theorem aaR (s : List Int) : qg s <= 3 /\ ((qg s : Nat) : Int) = nU s / 96 % 4 := by
 have a1 := ama (nU s / 96) (b := 4) (by decide)
 have a2 := al1 (nU s / 96) (b := 4) (by decide)
 unfold qg
 omega
noncomputable def GL (s : List Int) : Nat := ((lW s : Int) + exK.getD (nU s / 400 % 10).toNat 0).toNat
noncomputable def FE (s : List Int) : Nat := (2 * (lW s : Int) + exK.getD (nU s / 900 % 10).toNat 0).toNat
noncomputable def bdW : List Str := ["", "far", "m0", "m a", "7", "abcdefghijklm", "mA", "x"]
noncomputable def hdK (s : List Int) : Str := ("m" : Str) ++ Txt.slice "aq9" none (some (bI s 2 % 4))
noncomputable def nmK (s : List Int) (k : Nat) : Str := if bI s ((k : Int) + 2) % 10 ^ (9 : Int).toNat / 100 % 40 = 3 then bdW.getD (bI s ((k : Int) + 2) % 10 ^ (9 : Int).toNat / 4000 % 8).toNat Str.empty else hdK s ++ toString (k : Int)
theorem QO (s : List Int) : (hdK s).length <= 10 /\ (Txt.slice "aq9" none (some (bI s 2 % 4))).length <= 9 := by
 have a1 := ama (bI s 2) (b := 4) (by decide)
 have a2 := al1 (bI s 2) (b := 4) (by decide)
 unfold hdK
 generalize bI s 2 % 4 = z at a1 a2
 have : z = 0 \/ z = 1 \/ z = 2 \/ z = 3 := by omega
 rcases this with rfl | rfl | rfl | rfl <;> decide +kernel
theorem JF (w : BF) : (T.sh (pD w)).clean = true := by
 rw [T.clean]
 show (true && (true && (D.cM (w.al.map E4) && ((bM w.dl).rW && (true && (true && true)))))) = true
 rw [show D.cM (w.al.map E4) = true from xZ w.al, iO]
 rfl
theorem Zd (s : List Int) (k : Nat) (h : k <= 60) : (nmK s k).length <= 1000 := by
 unfold nmK
 split
 . have a1 := ama (bI s ((k : Int) + 2) % 10 ^ (9 : Int).toNat / 4000) (b := 8) (by decide)
   have a2 := al1 (bI s ((k : Int) + 2) % 10 ^ (9 : Int).toNat / 4000) (b := 8) (by decide)
   have hb : ∀ k : Nat, k < 8 -> (bdW.getD k Str.empty).length <= 1000 := by decide +kernel
   exact hb _ (by omega)
 . rw [str_len]
   have := (QO s).1
   have := (ye k h).2
   omega
noncomputable def oX (s : List Int) (j : Nat) : List Str := (List.range j).map (nmK s)
noncomputable def fC (c : Int) : List Int := [c, 1 - 10 ^ (30 : Int).toNat, 10 ^ (30 : Int).toNat - 1, 0 - 10 ^ (30 : Int).toNat, 10 ^ (30 : Int).toNat]
noncomputable def ixF : List Int := [0, 0, 0, 1, 2, 0, 0, 3, 4]
theorem afP : ∀ k : Nat, k < 9 -> 0 <= ixF.getD k 0 /\ ixF.getD k 0 < 5 := by decide
noncomputable def fsC (c : Int) : Int := (fC c).getD (ixF.getD (c / 40 % 9).toNat 0).toNat 0
noncomputable def fvC (c : Int) : Int := if c % 3 = 0 then fsC c % (10 ^ (30 : Int).toNat + 1) else fsC c
noncomputable def bG (k : Nat) : List Str := [("b" : Str) ++ toString (k : Int), ("b" : Str) ++ toString (k : Int), ("b" : Str) ++ toString (k : Int), "b1"]
noncomputable def bB : List Str := ["", "to", "B"]
noncomputable def JG (s : List Int) (k : Nat) : Int := bI s (5 + (k : Int)) % 10 ^ (33 : Int).toNat
noncomputable def bxK (s : List Int) (k : Nat) : Str × Int := (fB (JG s k / 7) (bG k) bB, fvC (JG s k))
theorem Ze (s : List Int) (k : Nat) (h : k <= 60) : (bxK s k).1.length <= 1000 := by
 have hm := uI (JG s k / 7) (g := bG k) (l := bB) (by show 0 < 4; decide) (by decide)
 have hl := (ye k h).2
 have hb : (("b" : Str) ++ toString (k : Int) : Str).length <= 1000 := by
   rw [str_len]
   have : ("b" : Str).length = 1 := by decide +kernel
   omega
 show (fB (JG s k / 7) (bG k) bB).length <= 1000
 generalize fB (JG s k / 7) (bG k) bB = x at hm
 unfold bG bB at hm
 simp only [ami, anp, al6, amC, or_false] at hm
 rcases hm with rfl | rfl | rfl | rfl | rfl | rfl | rfl
 . exact hb
 . exact hb
 . exact hb
 . decide +kernel
 . decide +kernel
 . decide +kernel
 . decide +kernel
noncomputable def vV (s : List Int) (j : Nat) : List (Str × Int) := (List.range j).map (bxK s)
noncomputable def Zf (s : List Int) (k : Nat) : Int := bI s (9 + (k : Int)) % 10 ^ (15 : Int).toNat
noncomputable def rwK (s : List Int) (n k : Nat) : List qI := (List.range (Zf s k / 5 % 2).toNat).map fun (j : Nat) => QI (Zf s k / (2 + 3 * (j : Int))) n
noncomputable def sX (s : List Int) (n j : Nat) : List (List qI) := (List.range j).map (rwK s n)
theorem ac1 (s : List Int) (n k : Nat) : (rwK s n k).length <= 1000 /\ ∀ q ∈ rwK s n k, dgL q := by
 refine ⟨?_, fun q hq => ?_⟩
 . unfold rwK
   have := al1 (Zf s k / 5) (b := 2) (by decide)
   rw [alR, am8]
   omega
 . obtain ⟨j, _, rfl⟩ := amn.mp hq
   exact Wz _ _
noncomputable def sr0 (s : List Int) : List Int := sortI ((List.range (nU s / 7 % 4).toNat).map fun (k : Nat) => bI s (30 + 2 * (k : Int)) / 7 % (lW s : Int))
noncomputable def GN (s : List Int) : List Int := if nU s / 77 % 6 = 1 then (sr0 s).reverse else sr0 s
noncomputable def UN (s : List Int) : List BF := (List.range (GN s).length).map fun (k : Nat) => WH s (30 + 2 * (k : Int)) ((GN s).getD k 0) (qg s) (lW s)
theorem QS (s : List Int) : (sr0 s).length <= 3 := by
 have := al1 (nU s / 7) (b := 4) (by decide)
 unfold sr0
 rw [Fw, alR, am8]
 omega
theorem QT (s : List Int) : (GN s).length <= 3 := by
 unfold GN
 have := QS s
 split
 . rw [List.length_reverse]; exact this
 . exact this
noncomputable def X6 (s : List Int) : List (List qI) := (sX s (qg s) (FE s)).take (lW s)
noncomputable def X7 (s : List Int) : List (List qI) := (sX s (qg s) (FE s)).drop (lW s)
noncomputable def vh (s : List Int) : List Int := E7 s (lW s) (MP s) (lW s)
noncomputable def sY (s : List Int) : T := .lst [.lst (((vV s (qg s)).map qf).map T.sh), .lst (((oX s (GL s)).map .str).map T.sh), .lst (((nq s (vh s) (lW s)).map .str).map T.sh), .lst (((vh s).map .int).map T.sh), .lst (((oi s (vh s) (lW s)).map .int).map T.sh), .lst (((X6 s).map bM).map T.sh), .lst (((X7 s).map bM).map T.sh), .lst (((UN s).map pD).map T.sh)]
theorem WO {α : Type} {l : List α} {k : Nat} (h : k <= l.length) : cutD l none (some (k : Int)) = l.take k := by
 unfold cutD
 have e1 : HT.zG l.length 0 none = 0 := rfl
 have e2 : HT.zG l.length l.length (some (k : Int)) = k := by
   unfold HT.zG
   simp
   split <;> omega
 rw [e1, e2]
 simp
theorem WQ {α : Type} {l : List α} {k : Nat} (h : k <= l.length) : cutD l (some (k : Int)) none = l.drop k := by
 unfold cutD
 have e1 : HT.zG l.length l.length none = l.length := rfl
 have e2 : HT.zG l.length 0 (some (k : Int)) = k := by
   unfold HT.zG
   simp
   split <;> omega
 rw [e1, e2, List.take_of_length_le (by simp)]
noncomputable abbrev CK : Stmt := top 61
noncomputable abbrev GO : Type := List Int
noncomputable def uK : GO -> List L3.D := fun s => [.lst (s.map .int)]
noncomputable def uL : GO -> Prop := fun s => s.length <= 1000
noncomputable def uM : GO -> T := fun s => (sY s : T)
structure Zg (X : Cx) (CL : Str -> Addr) : Prop extends c7 X where
 cB : Ln X 0 "script"
 JH : X.env.kindOf "script" = some .cell
 pJ : Ln X 1 "shape"
 zW : Ln X 2 "deep"
 cA : Ln X 3 "moods"
 uJ : X.env.kindOf "moods" = some .cell
 bw : Ln X 4 "many"
 qY : X.env.kindOf "many" = some .cell
 cC : Ln X 5 "elders"
 MQ : Ln X 6 "both"
 jy : Ln X 7 "names"
 r6 : Ln X 8 "k"
 aO : Ln X 9 "cell"
 ML : X.env.kindOf "cell" = some .cell
 pK : Ln X 10 "boxes"
 DH : Ln X 11 "name"
 GP : Ln X 12 "first"
 GQ : Ln X 13 "rows"
 uN : Ln X 14 "sources"
 SN : X.env.kindOf "sources" = some .cell
 zX : Ln X 15 "ways"
 bL : Gl X "_law_cell_at"
 Fz : Gl X "int"
 DI : Gl X "_law_tree_by"
 BG : Gl X "_law_kinds_by"
 eo : Gl X "range"
 aaU : Gl X "str"
 fD : Gl X "_law_some"
 CH : Gl X "tuple"
 WR : Gl X "sorted"
 b6 : Gl X "len"
 dQ : Fc X CL "_law_cell_at" 1 2 iP iQ iS
 FD : X.mg "int" = none
 SQ : Fc X CL "_law_tree_by" 2 3 pF mC pG
 MR : Fc X CL "_law_kinds_by" 2 2 nu ko ny
 er : X.mg "range" = none
 aaV : X.mg "str" = none
 qW : Fc X CL "_law_some" 1 3 oj gk res_some
 CJ : X.mg "tuple" = none
 WT : X.mg "sorted" = none
 b7 : X.mg "len" = none
 MN : Fc X CL "_law_deed" 2 2 sR om sS
 afS : Fc X CL "_law_way" 3 5 CF yd CG
theorem Zh {X : Cx} {CL : Str -> Addr} {b : Bx} (E : Zg X CL) (s) (h : uL s) :
   aG X CL b CK ["script", "shape", "deep", "moods", "many", "elders", "both", "names", "k", "cell", "boxes", "name", "first", "rows", "sources", "ways"] (uK s) (uM s) := by
 dsimp only [aG, uL, uK, uM] at h ⊢
 have hs : s.length <= 1000 := h
 obtain ⟨m1, m2, m3⟩ := QN s
 obtain ⟨n1, n2⟩ := aaR s
 have hz : ∀ p : Bool, 0 < ([6, 24] : List Int).getD (if p then 1 else 0) 0 := fun p => by cases p <;> decide
 have hix : BD (([6, 24] : List Int).map L3.D.int) (if MP s then 1 else 0) = some (.int (([6, 24] : List Int).getD (if MP s then 1 else 0) 0)) := by cases MP s <;> rfl
 refine aY E.g E.pJ (aF (aS (ah (c_ ((s, 0)) E.dQ E.bL (aq (aJ E.cB) (aq (ah ai) aI)) ((show (0 : Int) <= 0 by omega)) rfl)) (ah (dS (ah ai) (ah ai) ⟨by decide, by decide, by decide⟩)) (by decide)) (t2 := .sh (.int (nU s))) rfl) ?_
 refine aY E.g E.zW (aF (cj (ah (aS (aJ E.pJ) (ah ai) (by decide))) (ah ai)).2 (t2 := .sh (.bl (MP s))) rfl) ?_
 refine aY E.g E.cA (aF (fU (ah ai) (ah (aS (ah (aR (aJ E.pJ) (ah ai) ⟨by decide, by decide⟩)) (aU (aQ (b8 (ds := ([6, 24] : List Int).map .int) (Cr (l := [6, 24]) rfl) (aH rfl))) (ah (Cq E.FD (aJ E.zW) E.Fz)) hix) (hz _)))) (t2 := .sh (.int (lW s : Nat))) (by rw [m3])) ?_
 refine aY E.g E.bw (aF (aS (ah (aR (aJ E.pJ) (ah ai) ⟨by decide, by decide⟩)) (ah ai) (by decide)) (t2 := .sh (.int (qg s : Nat))) (by rw [n2])) ?_
 refine aY E.g E.cC (aF (c_ (s, lW s, MP s) E.SQ E.DI (aq (aJ E.cB) (aq (aJ E.cA) (aq (aJ E.zW) aI))) (by dsimp only [mC]; omega) (qR _)) (t2 := .lst (((vh s).map .int).map T.sh)) rfl) ?_
 have hel : (vh s).length = lW s := DC ..
 refine aY E.g E.MQ (aF (c_ (s, vh s) E.MR E.BG (aq (aJ E.cB) (aq (vL E.cC.1) aI)) (by dsimp only [ko]; omega) ?cl) (t2 := .tup [.lst (((nq s (vh s) (lW s)).map .str).map T.sh), .lst (((oi s (vh s) (lW s)).map .int).map T.sh)]) (by show T.tup [.lst (((nq s (vh s) (vh s).length).map .str).map T.sh), .lst (((oi s (vh s) (vh s).length).map .int).map T.sh)] = _; rw [hel])) ?_
 case cl =>
   show T.clean (.tup [.lst (((nq s (vh s) (vh s).length).map .str).map T.sh), .lst (((oi s (vh s) (vh s).length).map .int).map T.sh)]) = true
   rw [T.clean, T.ef, T.ef, T.ef, bK (ki _), bK (jm _)]
   rfl
 unfold sY
 generalize vh s = es at hel ⊢
 generalize nq s es (lW s) = kds
 generalize oi s es (lW s) = eW
 refine aY E.g E.jy (e9 dU (amu _)) ?_
 have a1 := ama (nU s / 400) (b := 10) (by decide)
 have a2 := al1 (nU s / 400) (b := 10) (by decide)
 have a3 := QM (nU s / 400 % 10).toNat (by omega)
 have b1 := ama (nU s / 900) (b := 10) (by decide)
 have b2 := al1 (nU s / 900) (b := 10) (by decide)
 have b3 := QM (nU s / 900 % 10).toNat (by omega)
 have hnl : ((GL s : Nat) : Int) = (lW s : Int) + exK.getD (nU s / 400 % 10).toNat 0 := by unfold GL; omega
 have hrl : ((FE s : Nat) : Int) = 2 * (lW s : Int) + exK.getD (nU s / 900 % 10).toNat 0 := by unfold FE; omega
 obtain ⟨hd1, hd2⟩ := QO s
 refine lG E.g E.r6 (fun j δ => ∃ o8 o9, δ = [some (.sh (.lst (s.map .int))), some (.sh (.int (nU s))), some (.sh (.bl (MP s))), some (.sh (.int (lW s : Nat))), some (.sh (.int (qg s : Nat))), some (.lst ((es.map .int).map T.sh)), some (.tup [.lst ((kds.map .str).map T.sh), .lst ((eW.map .int).map T.sh)]), some (.lst (((oX s j).map .str).map T.sh)), o8, o9, none, none, none, none, none, none])
   (gS (n := (GL s : Nat)) E.er (Jf (ah (fU (aJ E.cA) (aU (aQ (b8 (aW ai (aW ai (aW ai (aW ai (aW ai (aW ai (aW ai (aW ai (aW ai (aW (dh (ah ai)) n9)))))))))) (aH rfl))) (ah (aS (ah (aR (aJ E.pJ) (ah ai) ⟨by decide, by decide⟩)) (ah ai) (by decide))) (eX (bs := exK) a1 a2)))) (congrArg L3.D.int hnl.symm)) (by omega) E.eo) ⟨_, _, rfl⟩ (fun j δ ⟨_, _, e⟩ => by subst e; exact alY rfl) ?afT ?aiO
 case afT =>
   rintro j d δ hj ⟨o8, o9, rfl⟩
   obtain ⟨rfl, vQ⟩ := mz hj
   have vQ : j < GL s := by simp at vQ; omega
   rw [amZ]
   have hl : (oX s j).length = j := by simp [oX]
   obtain ⟨q1, q2⟩ := ye j (by omega)
   have c1 := ama (bI s ((j : Int) + 2) % 10 ^ (9 : Int).toNat / 4000) (b := 8) (by decide)
   have c2 := al1 (bI s ((j : Int) + 2) % 10 ^ (9 : Int).toNat / 4000) (b := 8) (by decide)
   have hm1 : ("m" : Str).length = 1 := by decide +kernel
   refine Bc E.jy.1 rfl (aF (Mi (ah (Mi (ah bR) (ah (R8 (ah bR) (by rw [anb]; decide +kernel) Cm (Cp (ah (aS (ah (c_ ((s, 2)) E.dQ E.bL (aq (aJ E.cB) (aq (ah ai) aI)) ((show (0 : Int) <= 2 by omega)) rfl)) (ah ai) (by decide)))))) (by rw [hm1, anb]; omega))) (ah (Qo E.aaV E.aaU (aJ E.r6) q1)) (by rw [anb]; show (hdK s).length + _ <= _; omega)) (t2 := .sh (.str (hdK s ++ toString (j : Int)))) rfl) rfl (by simp; omega) ?_
   have eL : ∀ x : Str, ((oX s j).map L3.D.str).map T.sh ++ [T.sh (.str x)] = ((oX s j ++ [x]).map L3.D.str).map T.sh := fun x => by simp
   have eN : oX s (j + 1) = oX s j ++ [nmK s j] := by unfold oX; rw [ant, amk]; rfl
   rw [eL, eN]
   refine aY E.g E.aO (aS (ah (c_ ((s, (j : Int) + 2)) E.dQ E.bL (aq (aJ E.cB) (aq (ah (fU (aJ E.r6) (ah ai))) aI)) ((show (0 : Int) <= (j : Int) + 2 by omega)) rfl)) (ah (dS (ah ai) (ah ai) ⟨by decide, by decide, by decide⟩)) (by decide)) ?_
   have QF : (((oX s j ++ [hdK s ++ toString (j : Int)]).map L3.D.str).map T.sh).length = j + 1 := by simp [hl]
   refine bO (cj (ah (aS (ah (aR (aJ E.aO) (ah ai) ⟨by decide, by decide⟩)) (ah ai) (by decide))) (ah ai)).1 (fun hp => ?_) (fun hp => az (az ?_))
   . have e : nmK s j = bdW.getD (bI s ((j : Int) + 2) % 10 ^ (9 : Int).toNat / 4000 % 8).toNat Str.empty := by unfold nmK; rw [alW (al2 hp)]
     rw [e]
     refine VH E.jy.1 (cS (aU (aQ (b8 (ds := bdW.map .str) (cP (l := bdW) rfl) (aH rfl))) (ah (aS (ah (aR (aJ E.aO) (ah ai) ⟨by decide, by decide⟩)) (ah ai) (by decide))) (sH (l := bdW) Str.empty c1 c2)) rfl) (aJ E.r6) rfl (Mp (by omega) (by rw [QF]; omega)) (az (az ?_))
     rw [← anD, ← anD]
     have Za : ∀ x y : Str, (oX s j ++ [x]).set (j : Int).toNat y = oX s j ++ [y] := fun x y => by
       rw [amR]
       have := List.set_append_right (s := oX s j) (t := [x]) j y (by omega)
       rw [this, hl]
       simp
     rw [Za]
     exact ⟨_, _, rfl⟩
   . have e : nmK s j = hdK s ++ toString (j : Int) := by unfold nmK; rw [alT (amd hp)]
     rw [e]
     exact ⟨_, _, rfl⟩
 case aiO =>
 rintro δ ⟨o8, o9, rfl⟩
 rw [show (bZ 0 ((GL s : Nat) : Int).toNat).length = GL s by simp [bZ]]
 generalize oX s (GL s) = nms
 refine aY E.g E.pK (e9 dU (amu _)) ?_
 refine lG E.g E.r6 (fun j δ => ∃ o8 o9 Zi o12, δ = [some (.sh (.lst (s.map .int))), some (.sh (.int (nU s))), some (.sh (.bl (MP s))), some (.sh (.int (lW s : Nat))), some (.sh (.int (qg s : Nat))), some (.lst ((es.map .int).map T.sh)), some (.tup [.lst ((kds.map .str).map T.sh), .lst ((eW.map .int).map T.sh)]), some (.lst ((nms.map .str).map T.sh)), o8, o9, some (.lst (((vV s j).map qf).map T.sh)), Zi, o12, none, none, none])
   (gS E.er (aJ E.bw) (by omega) E.eo) ⟨_, _, _, _, rfl⟩ (fun j δ ⟨_, _, _, _, e⟩ => by subst e; exact alY rfl) ?DJ ?fin2
 case DJ =>
   rintro j d δ hj ⟨o8, o9, Zi, o12, rfl⟩
   obtain ⟨rfl, vQ⟩ := mz hj
   have vQ : j < qg s := by simp at vQ; omega
   rw [amZ]
   have hl : (vV s j).length = j := by simp [vV]
   obtain ⟨q1, q2⟩ := ye j (by omega)
   have hm1 : ("b" : Str).length = 1 := by decide +kernel
   refine aY E.g E.aO (aF (aS (ah (c_ ((s, 5 + (j : Int))) E.dQ E.bL (aq (aJ E.cB) (aq (ah (fU (ah ai) (aJ E.r6))) aI)) ((show (0 : Int) <= 5 + (j : Int) by omega)) rfl)) (ah (dS (ah ai) (ah ai) ⟨by decide, by decide, by decide⟩)) (by decide)) (t2 := .sh (.int (JG s j))) rfl) ?_
   have tb : ∀ (p1 p2 p3 p4 p5 : Pos) (k1 : Nat) (Zi : Option T), cY X CL b (.BinOp (.Constant (.str "b") k1 p1) .Add (.Call (.Name "str" p2) [.Name "k" p3] [] p4) p5) [some (.sh (.lst (s.map .int))), some (.sh (.int (nU s))), some (.sh (.bl (MP s))), some (.sh (.int (lW s : Nat))), some (.sh (.int (qg s : Nat))), some (.lst ((es.map .int).map T.sh)), some (.tup [.lst ((kds.map .str).map T.sh), .lst ((eW.map .int).map T.sh)]), some (.lst ((nms.map .str).map T.sh)), some (.sh (.int (j : Int))), some (.sh (.int (JG s j))), some (.lst (((vV s j).map qf).map T.sh)), Zi, o12, none, none, none] (.sh (.str (("b" : Str) ++ toString (j : Int)))) [some (.sh (.lst (s.map .int))), some (.sh (.int (nU s))), some (.sh (.bl (MP s))), some (.sh (.int (lW s : Nat))), some (.sh (.int (qg s : Nat))), some (.lst ((es.map .int).map T.sh)), some (.tup [.lst ((kds.map .str).map T.sh), .lst ((eW.map .int).map T.sh)]), some (.lst ((nms.map .str).map T.sh)), some (.sh (.int (j : Int))), some (.sh (.int (JG s j))), some (.lst (((vV s j).map qf).map T.sh)), Zi, o12, none, none, none] := fun p1 p2 p3 p4 p5 k1 Zi =>
     aF (Mi (ah bR) (ah (Qo E.aaV E.aaU (aJ E.r6) q1)) (by rw [hm1, anb]; show 1 + (toString (j : Int) : Str).length <= _; omega)) rfl
   refine aY E.g E.DH (aF (c_ (JG s j / 7, bG j, bB) E.qW E.fD (aq (ah (aR (aJ E.aO) (ah ai) ⟨by decide, by decide⟩)) (aq (aQ (aF (e9 (bC (tb _ _ _ _ _ _ _) (bC (tb _ _ _ _ _ _ _) (bC (tb _ _ _ _ _ _ _) (bC bR dU)))) (aH rfl)) (t2 := .lst (((bG j).map .str).map T.sh)) rfl)) (aq (aQ (b8 (ds := bB.map .str) (cP (l := bB) rfl) (aH rfl))) aI))) (by dsimp only [gk]; exact ⟨by show 0 < 4; decide, by decide⟩) rfl) (t2 := .sh (.str (bxK s j).1)) rfl) ?_
   have f1 := ama (JG s j / 40) (b := 9) (by decide)
   have f2 := al1 (JG s j / 40) (b := 9) (by decide)
   obtain ⟨i1, i2⟩ := afP (JG s j / 40 % 9).toNat (by omega)
   refine aY E.g E.GP (cS (d := .int (fsC (JG s j))) (aU (aQ (aF (e9 (bC (v_ E.aO.1) (bC (gA (ah ai) (ah (dS (ah ai) (ah ai) ⟨by decide, by decide, by decide⟩))) (bC (gA (ah (dS (ah ai) (ah ai) ⟨by decide, by decide, by decide⟩)) (ah ai)) (bC (gA (ah ai) (ah (dS (ah ai) (ah ai) ⟨by decide, by decide, by decide⟩))) (bC (dS (ah ai) (ah ai) ⟨by decide, by decide, by decide⟩) dU))))) (aH rfl)) (t2 := .lst (((fC (JG s j)).map .int).map T.sh)) rfl)) (aU (aQ (b8 (ds := ixF.map .int) (Cr (l := ixF) rfl) (aH rfl))) (ah (aS (ah (aR (aJ E.aO) (ah ai) ⟨by decide, by decide⟩)) (ah ai) (by decide))) (eX f1 f2)) (eX (bs := fC (JG s j)) i1 i2)) rfl) ?_
   refine Bc E.pK.1 rfl (ni (ds := [.str (bxK s j).1, .int (fvC (JG s j))]) (aW (v_ E.DH.1) (aW (ab2 (cj (ah (aS (aJ E.aO) (ah ai) (by decide))) (ah ai)).1 (fun hp => aF (aS (aJ E.GP) (ah (fU (ah (dS (ah ai) (ah ai) ⟨by decide, by decide, by decide⟩)) (ah ai))) (by decide)) (by unfold fvC; rw [alW (al2 hp)])) (fun hp => aF (v_ E.GP.1) (by unfold fvC; rw [alT (amd hp)]))) n9)) (aH rfl)) rfl (by simp; omega) (az ?_)
   have eN : ((vV s (j + 1)).map qf).map T.sh = ((vV s j).map qf).map T.sh ++ [T.sh (.tup [.str (bxK s j).1, .int (fvC (JG s j))])] := by unfold vV; rw [ant, amk, amk, amk]; rfl
   rw [eN]
   exact ⟨_, _, _, _, rfl⟩
 case fin2 =>
 rintro δ ⟨o8, o9, Zi, o12, rfl⟩
 rw [show (bZ 0 ((qg s : Nat) : Int).toNat).length = qg s by simp [bZ]]
 generalize (vV s (qg s)).map qf = bxs
 refine aY E.g E.GQ (e9 dU (amu _)) ?_
 refine lG E.g E.r6 (fun j δ => ∃ o8 o9, δ = [some (.sh (.lst (s.map .int))), some (.sh (.int (nU s))), some (.sh (.bl (MP s))), some (.sh (.int (lW s : Nat))), some (.sh (.int (qg s : Nat))), some (.lst ((es.map .int).map T.sh)), some (.tup [.lst ((kds.map .str).map T.sh), .lst ((eW.map .int).map T.sh)]), some (.lst ((nms.map .str).map T.sh)), o8, o9, some (.lst (bxs.map T.sh)), Zi, o12, some (.lst (((sX s (qg s) j).map bM).map T.sh)), none, none])
   (gS (n := (FE s : Nat)) E.er (Jf (ah (fU (ah (vH (ah ai) (aJ E.cA) (.inl ⟨by omega, by omega⟩))) (aU (aQ (b8 (aW ai (aW ai (aW ai (aW ai (aW ai (aW ai (aW ai (aW ai (aW ai (aW (dh (ah ai)) n9)))))))))) (aH rfl))) (ah (aS (ah (aR (aJ E.pJ) (ah ai) ⟨by decide, by decide⟩)) (ah ai) (by decide))) (eX (bs := exK) b1 b2)))) (congrArg L3.D.int hrl.symm)) (by omega) E.eo) ⟨_, _, rfl⟩ (fun j δ ⟨_, _, e⟩ => by subst e; exact alY rfl) ?afV ?aiQ
 case afV =>
   rintro j d δ hj ⟨o8, o9, rfl⟩
   obtain ⟨rfl, vQ⟩ := mz hj
   have vQ : j < FE s := by simp at vQ; omega
   rw [amZ]
   have hl : (sX s (qg s) j).length = j := by simp [sX]
   refine aY E.g E.aO (aF (aS (ah (c_ ((s, 9 + (j : Int))) E.dQ E.bL (aq (aJ E.cB) (aq (ah (fU (ah ai) (aJ E.r6))) aI)) ((show (0 : Int) <= 9 + (j : Int) by omega)) rfl)) (ah (dS (ah ai) (ah ai) ⟨by decide, by decide, by decide⟩)) (by decide)) (t2 := .sh (.int (Zf s j))) rfl) ?_
   have e1 := al1 (Zf s j / 5) (b := 2) (by decide)
   have e0 := ama (Zf s j / 5) (b := 2) (by decide)
   have iD : D.cM ((rwK s (qg s) j).map Dw) = true := c5 Cu _
   refine Bc E.GQ.1 rfl (zK (ds := (rwK s (qg s) j).map Dw) E.CJ (aQ (aF (i7 (p := fun _ => true) (g := fun x => T.sh (Dw (QI (Zf s j / (2 + 3 * x.UJ)) (qg s)))) (cF (.cons E.aO.1 (.inl E.ML) (.cons E.bw.1 (.inl E.qY) .nil)) (by decide +kernel)) E.g.calm (gS E.er (ah (aS (ah (aR (aJ E.aO) (ah ai) ⟨by decide, by decide⟩)) (ah ai) (by decide))) (by omega) E.eo) (.inr rfl) (fun C s0 H0 f0 b' x hx => ?ac4) (amo (bE (by simp [bZ]; omega)))) ?ac5)) iD E.CH) rfl (by simp; omega) (az ?_)
   case ac4 =>
     obtain ⟨k, hk, rfl⟩ := amn.mp hx
     have hk : k < 2 := by have := amI.mp hk; omega
     exact ⟨rfl, fun _ => aF (c_ (Zf s j / (2 + 3 * (0 + (k : Int))), qg s) (lU E.MN) (kg (by decide +kernel)) (aq (ah (aR (ah (v_ (g7 (i := 1) rfl (by decide +kernel)))) (ah (fU (ah ai) (ah (vH (ah ai) (ah (v_ (gi (i := 0) rfl (by decide +kernel)))) (.inl ⟨by omega, by omega⟩))))) (⟨by omega, by omega⟩))) (aq (ah (v_ (g7 (i := 2) rfl (by decide +kernel)))) aI)) (by dsimp only [om]; omega) (JC _)) rfl⟩
   case ac5 =>
     refine congrArg T.lst ?_
     rw [ck]
     unfold bZ rwK
     rw [al5, al5, al5]
     refine amP fun k _ => ?_
     show T.sh (Dw (QI (Zf s j / (2 + 3 * (0 + (k : Int)))) (qg s))) = _
     rw [amZ]
     rfl
   have eN : ((sX s (qg s) (j + 1)).map bM).map T.sh = ((sX s (qg s) j).map bM).map T.sh ++ [T.sh (.tup ((rwK s (qg s) j).map Dw))] := by unfold sX; rw [ant, amk, amk, amk]; rfl
   rw [eN]
   exact ⟨_, _, rfl⟩
 case aiQ =>
 rintro δ ⟨o8, o9, rfl⟩
 rw [show (bZ 0 ((FE s : Nat) : Int).toNat).length = FE s by simp [bZ]]
 have g1 := al1 (nU s / 7) (b := 4) (by decide)
 have g0 := ama (nU s / 7) (b := 4) (by decide)
 have hrw : (sX s (qg s) (FE s)).length = FE s := by simp [sX]
 have hmr : lW s <= FE s := by omega
 have iR : D.cM ((sX s (qg s) (FE s)).map bM) = true := c5 iO _
 have hT : cutD ((sX s (qg s) (FE s)).map bM) none (some ((lW s : Nat) : Int)) = (X6 s).map bM := by
   rw [WO (by rw [alR]; omega), ← List.map_take]
   rfl
 have hD : cutD ((sX s (qg s) (FE s)).map bM) (some ((lW s : Nat) : Int)) none = (X7 s).map bM := by
   rw [WQ (by rw [alR]; omega), ← List.map_drop]
   rfl
 generalize X6 s = is0 at hT ⊢
 generalize X7 s = os0 at hD ⊢
 generalize (sX s (qg s) (FE s)).map bM = rws at iR hT hD ⊢
 have hs0 := QS s
 refine aY E.g E.uN (aF (Mu (l := (List.range (nU s / 7 % 4).toNat).map fun (k : Nat) => bI s (30 + 2 * (k : Int)) / 7 % (lW s : Int)) E.WT (aQ (aF (i7 (p := fun _ => true) (g := fun x => T.sh (.int (bI s (30 + 2 * x.UJ) / 7 % (lW s : Int)))) (cF (.cons E.cA.1 (.inl E.uJ) (.cons E.cB.1 (.inl E.JH) .nil)) (by decide +kernel)) E.g.calm (gS E.er (ah (aS (ah (aR (aJ E.pJ) (ah ai) ⟨by decide, by decide⟩)) (ah ai) (by decide))) (by omega) E.eo) (.inr rfl) (fun C s0 H0 f0 b' x hx => ?ac6) (amo (bE (by simp [bZ]; omega)))) ?ac7)) (by rw [alR, am8]; omega) E.WR) (t2 := .lst (((sr0 s).map .int).map T.sh)) rfl) ?_
 case ac6 =>
   obtain ⟨k, hk, rfl⟩ := amn.mp hx
   have hk : k < 4 := by have := amI.mp hk; omega
   exact ⟨rfl, fun _ => aF (aS (ah (aR (ah (aF (c_ (s, 30 + 2 * (0 + (k : Int))) (lU E.dQ) (kg (by decide +kernel)) (aq (ah (v_ (g7 (i := 2) rfl (by decide +kernel)))) (aq (ah (fU (ah ai) (ah (vH (ah ai) (ah (v_ (gi (i := 0) rfl (by decide +kernel)))) (.inl ⟨by omega, by omega⟩))))) aI)) (show (0 : Int) <= 30 + 2 * (0 + (k : Int)) by omega) rfl) (t2 := .sh (.int (bI s (30 + 2 * (0 + (k : Int)))))) rfl)) (ah ai) ⟨by omega, by omega⟩)) (ah (v_ (g7 (i := 1) rfl (by decide +kernel)))) (by omega)) rfl⟩
 case ac7 =>
   refine congrArg T.lst ?_
   rw [ck]
   unfold bZ
   rw [al5, al5, al5]
   refine amP fun k _ => ?_
   show T.sh (.int (bI s (30 + 2 * (0 + (k : Int))) / 7 % (lW s : Int))) = _
   rw [amZ]
   rfl
 refine vp (fun δ => δ = [some (.sh (.lst (s.map .int))), some (.sh (.int (nU s))), some (.sh (.bl (MP s))), some (.sh (.int (lW s : Nat))), some (.sh (.int (qg s : Nat))), some (.lst ((es.map .int).map T.sh)), some (.tup [.lst ((kds.map .str).map T.sh), .lst ((eW.map .int).map T.sh)]), some (.lst ((nms.map .str).map T.sh)), o8, o9, some (.lst (bxs.map T.sh)), Zi, o12, some (.lst (rws.map T.sh)), some (.lst (((GN s).map .int).map T.sh)), none]) (cj (ah (aS (ah (aR (aJ E.pJ) (ah ai) ⟨by decide, by decide⟩)) (ah ai) (by decide))) (ah ai)).1 (fun hp => ?_) (fun hp => ?_) ?_
 . have e : GN s = (sr0 s).reverse := by unfold GN; rw [alW (al2 hp)]
   rw [e, List.map_reverse, List.map_reverse]
   exact Qt (acM E.uN.1 rfl) (az rfl)
 . have e : GN s = sr0 s := by unfold GN; rw [alT (amd hp)]
   rw [e]
   exact az rfl
 rintro δ rfl
 have hsl := QT s
 have hlen : ((GN s).map L3.D.int).length = (GN s).length := alR ..
 refine afn (i := 14) (d := .lst ((GN s).map .int)) rfl (cR _) ?_
 refine Mv (p := fun _ => true) (gg := fun x => T.sh (pD (WH s (30 + 2 * x.UJ) ((GN s).getD x.UJ.toNat 0) (qg s) (lW s)))) E.g E.zX (cF (.cons E.bw.1 (.inl E.qY) (.cons E.cA.1 (.inl E.uJ) (.cons E.cB.1 (.inl E.JH) (.cons E.uN.1 (.inl E.SN) .nil)))) (by decide +kernel)) (gS (n := (GN s).length) E.er (ah (cH hlen E.b7 (aJ E.uN) E.b6)) (by omega) E.eo) (.inr rfl) (fun C s0 H0 f0 b' x hx => ?ac8) (amo (bE (by simp [bZ]; omega))) ?afW (by exact alY rfl) (C5 ⟨_, rfl⟩)
 case ac8 =>
   obtain ⟨k, hk, rfl⟩ := amn.mp hx
   have hk : k < (GN s).length := by have := amI.mp hk; omega
   exact ⟨rfl, fun _ => aF (c_ (s, 30 + 2 * (0 + (k : Int)), (GN s).getD (0 + (k : Int)).toNat 0, qg s, lW s) (lU E.afS) (kg (by decide +kernel)) (aq (ah (v_ (g7 (i := 3) rfl (by decide +kernel)))) (aq (ah (fU (ah ai) (ah (vH (ah ai) (ah (v_ (gi (i := 0) rfl (by decide +kernel)))) (.inl ⟨by omega, by omega⟩))))) (aq (aU (ah (v_ (g7 (i := 4) rfl (by decide +kernel)))) (ah (v_ (gi (i := 0) rfl (by decide +kernel)))) (eX (k := 0 + (k : Int)) (by omega) (by omega))) (aq (ah (v_ (g7 (i := 1) rfl (by decide +kernel)))) (aq (ah (v_ (g7 (i := 2) rfl (by decide +kernel)))) aI))))) (by dsimp only [yd]; omega) (JF _)) rfl⟩
 case afW =>
 have em : ((bZ 0 (((GN s).length : Nat) : Int).toNat).filter fun _ => true).map (fun x => T.sh (pD (WH s (30 + 2 * x.UJ) ((GN s).getD x.UJ.toNat 0) (qg s) (lW s)))) = ((UN s).map pD).map T.sh := by
   rw [ck]
   unfold bZ UN
   rw [al5, al5, al5, amR]
   refine amP fun k _ => ?_
   show T.sh (pD (WH s (30 + 2 * (0 + (k : Int))) ((GN s).getD (0 + (k : Int)).toNat 0) (qg s) (lW s))) = _
   rw [amZ, amR]
   rfl
 rw [em]
 exact aN (e9 (bC (vM E.pK.1) (bC (vM E.jy.1) (bC (Qj 0 E.MQ.1 rfl rfl) (bC (vM E.cC.1) (bC (Qj 1 E.MQ.1 rfl rfl) (bC (aF (C6 (vL E.GQ.1) iR Cm (Cp (aJ E.cA))) (t2 := .lst ((is0.map bM).map T.sh)) (by rw [hT])) (bC (aF (C6 (vL E.GQ.1) iR (Cp (aJ E.cA)) Cm) (t2 := .lst ((os0.map bM).map T.sh)) (by rw [hD])) (bC (vM E.zX.1) dU)))))))) (aH rfl)) rfl
theorem bA : oW (aA CK) ([("script", .cell), ("shape", aE), ("deep", aE), ("moods", .cell), ("many", .cell), ("elders", aE), ("both", aE), ("names", aE), ("k", aE), ("cell", .cell), ("boxes", aE), ("name", aE), ("first", aE), ("rows", aE), ("sources", .cell), ("ways", aE), ("_law_cell_at", aC), ("int", aC), ("_law_tree_by", aC), ("_law_kinds_by", aC), ("range", aC), ("str", aC), ("_law_some", aC), ("tuple", aC), ("sorted", aC), ("len", aC)]) = true := by decide +kernel
theorem JK : aT ["script", "shape", "deep", "moods", "many", "elders", "both", "names", "k", "cell", "boxes", "name", "first", "rows", "sources", "ways"] ["script"] (aA CK) := bf
noncomputable abbrev pL : Stmt := top 58
noncomputable abbrev sZ : Type := List Str × List Int × List Int
noncomputable def lX : sZ -> List L3.D := fun (ks, es, ss) => [.lst (ks.map .str), .lst (es.map .int), .lst (ss.map .int)]
noncomputable def jq : sZ -> Prop := fun (ks, es, ss) => (0 < ks.length /\ es.length = ks.length /\ ss.length = ks.length /\ ks.length <= 900) /\ ∀ k : Nat, k < ks.length -> ss.getD k 0 < es.length
noncomputable def lY : sZ -> T := fun (ks, es, ss) => (.sh (.bl (vq es (es.length - 1) && (zS ks es && x8 ks es ss))) : T)
structure JL (X : Cx) (CL : Str -> Addr) : Prop extends c7 X where
 kr : Ln X 0 "kinds"
 cC : Ln X 1 "elders"
 ku : Ln X 2 "starts"
 pM : Ln X 3 "chain"
 r6 : Ln X 4 "k"
 qV : Ln X 5 "near"
 eo : Gl X "range"
 b6 : Gl X "len"
 er : X.mg "range" = none
 b7 : X.mg "len" = none
theorem JM {X : Cx} {CL : Str -> Addr} {b : Bx} (E : JL X CL) (ks es ss) (h : jq (ks, es, ss)) :
   aG X CL b pL ["kinds", "elders", "starts", "chain", "k", "near"] (lX (ks, es, ss)) (lY (ks, es, ss)) := by
 dsimp only [aG, jq, lX, lY] at h ⊢
 obtain ⟨⟨n0, he, hs, hn⟩, qH⟩ := h
 have hj := MC (es := es) (by omega)
 refine aY E.g E.pM (e9 dU (amu _)) ?_
 refine lG E.g E.r6 (fun j δ => ∃ (R : List Int) (o : Option T), (rZ es j = some R /\ R.length <= j) /\ δ = [some (.sh (.lst (ks.map .str))), some (.sh (.lst (es.map .int))), some (.sh (.lst (ss.map .int))), some (.lst ((R.reverse.map .int).map T.sh)), o, none])
   (gS E.er (ah (cH (alR ..) E.b7 (aJ E.cC) E.b6)) (by omega) E.eo) ⟨[], none, ⟨rfl, al9 _⟩, rfl⟩ (fun j δ ⟨_, _, _, e⟩ => by subst e; exact alY rfl) ?turn ?fin
 case turn =>
   rintro j d δ hj' ⟨R, o, ⟨hR, hRl⟩, rfl⟩
   obtain ⟨rfl, vQ⟩ := mz hj'
   have vQ : j < es.length := by simp at vQ; omega
   rw [amZ]
   have hle : ∀ R2 : List Int, (mL (es.getD j 0) R2).length <= R2.length := fun R2 => (List.dropWhile_sublist _).length_le
   refine ae9 (fun δ => δ = [some (.sh (.lst (ks.map .str))), some (.sh (.lst (es.map .int))), some (.sh (.lst (ss.map .int))), some (.lst (((mL (es.getD j 0) R).reverse.map .int).map T.sh)), some (.sh (.int (j : Int))), none]) (fun δ2 e2 => ?_) (fun k => ?_)
   . subst e2
     generalize hC : mL (es.getD j 0) R = C
     have hCl : C.length <= j := by rw [← hC]; have := hle R; omega
     have hlen : ((C.reverse.map L3.D.int)).length = C.length := by simp
     have eN : Qh (.lst (C.reverse.map .int)) (.lst (([] : List Int).map .int)) = decide (C = []) := by
       rw [Dg]
       exact amY.mpr List.reverse_eq_nil_iff
     refine bO (gD (fu (VF (ah (aF (acf E.u (d1 := .lst (C.reverse.map .int)) (d2 := .lst (([] : List Int).map .int)) (vL E.pM.1) (aQ (e9 dU (amu _))) (Ji 59 _) (Ji 59 [])).2 (t2 := .sh (.bl (decide (C = [])))) (congrArg (fun z => T.sh (.bl z)) eN))) (ah (cj (aJ E.r6) (ah ai)).2)).1 (fun _ => gE (Fp (ah (cH hlen E.b7 (vL E.pM.1) E.b6)) (ah ai)).1))) (fun hp => ?_) (fun hp => az ?_)
     . refine aN cG ?_
       have afX : rZ es (j + 1) = none := by
         rw [rZ, hR]
         show (if ((mL (es.getD j 0) R = []) ↔ j = 0) /\ (mL (es.getD j 0) R).length <= 12 then _ else none) = none
         rw [hC, alT]
         rintro ⟨z1, z2⟩
         have hp : ((decide (C = []) != decide ((j : Int) = 0)) || decide (((C.length : Nat) : Int) > 12)) = true := by
           first
             | exact hp
             | (have hp2 : (!(decide (C = []) == decide ((j : Int) = 0)) || decide (((C.length : Nat) : Int) > 12)) = true := hp
                exact hp2)
         rw [alS (show ¬ ((C.length : Nat) : Int) > 12 by omega), Bool.or_false] at hp
         have : decide (C = []) = decide ((j : Int) = 0) := amY.mpr (z1.trans ⟨fun q => by omega, fun q => by omega⟩)
         rw [this] at hp
         simp at hp
       have hf : rZ es es.length = none := Dz (by omega) afX
       rw [hf] at hj
       rw [← hj]
       rfl
     . have hp2 : (C = [] ↔ j = 0) /\ C.length <= 12 := by
         have hp : ((decide (C = []) != decide ((j : Int) = 0)) || decide (((C.length : Nat) : Int) > 12)) = false := by
           first
             | exact hp
             | (have hp2 : (!(decide (C = []) == decide ((j : Int) = 0)) || decide (((C.length : Nat) : Int) > 12)) = false := hp
                exact hp2)
         rw [ams] at hp
         have h1 : decide (C = []) = decide ((j : Int) = 0) := by simpa using hp.1
         have h2 := amd hp.2
         exact ⟨(amY.mp h1).trans ⟨fun q => by omega, fun q => by omega⟩, by omega⟩
       refine Bc E.pM.1 rfl (v_ E.r6.1) rfl (by simp; omega) (az ⟨(j : Int) :: C, some (.sh (.int (j : Int))), ⟨?_, by simp; omega⟩, ?_⟩)
       . rw [rZ, hR]
         show (if ((mL (es.getD j 0) R = []) ↔ j = 0) /\ (mL (es.getD j 0) R).length <= 12 then some ((j : Int) :: mL (es.getD j 0) R) else none) = _
         rw [hC, alW hp2]
       . rw [amW, amk, amk]
         rfl
   . have RW := k
     clear k
     refine Qn E.g (fun n δ => ∃ S : List Int, (mL (es.getD j 0) S = mL (es.getD j 0) R /\ S.length <= n) /\ δ = [some (.sh (.lst (ks.map .str))), some (.sh (.lst (es.map .int))), some (.sh (.lst (ss.map .int))), some (.lst ((S.reverse.map .int).map T.sh)), some (.sh (.int (j : Int))), none]) R.length ⟨R, ⟨rfl, al9 _⟩, rfl⟩ ?_
     rintro n δ ⟨S, ⟨hS, hSl⟩, rfl⟩
     have eN : Qh (.lst (S.reverse.map .int)) (.lst (([] : List Int).map .int)) = decide (S = []) := by
       rw [Dg]
       exact amY.mpr List.reverse_eq_nil_iff
     cases S with
     | nil =>
       refine ⟨_, _, gD (gF (q := false) (Mm E.u (d1 := .lst ((([] : List Int).reverse).map .int)) (d2 := .lst (([] : List Int).map .int)) (vL E.pM.1) (aQ (e9 dU (amu _))) (Ji 59 _) (Ji 59 [])).1 (fun hz => by rw [eN] at hz; cases hz)), (fun hp => by rw [amf] at hp; cases hp), (fun _ => RW _ ?_)⟩
       rw [← hS]
       rfl
     | cons x S =>
       have hat : BD (((x :: S).reverse).map L3.D.int) (-1) = some (.int x) := by rw [amW, amk]; exact Vc _ _
       refine ⟨_, _, gD (gF (Mm E.u (d1 := .lst (((x :: S).reverse).map .int)) (d2 := .lst (([] : List Int).map .int)) (vL E.pM.1) (aQ (e9 dU (amu _))) (Ji 59 _) (Ji 59 [])).1 (fun _ => lT (gB (aU (vL E.pM.1) (ah (dh (ah ai))) hat) (aU (aJ E.cC) (aJ E.r6) (eX (by omega) (by omega)))).1)), fun hp => ?_, fun hp => ?_⟩
       . rw [eN, ame] at hp
         have hx : ¬ x = es.getD j 0 := by
           have := hp.2
           simpa using this
         cases n with
         | zero => simp at hSl
         | succ n =>
           refine Qt (acG (t := .sh (.int x)) (tl := (S.reverse.map .int).map T.sh) E.pM.1 (by rw [List.reverse_cons, List.map_append, List.map_append]; rfl)) (az ⟨n, Nat.lt_succ_self _, S, ⟨?_, by simpa using hSl⟩, rfl⟩)
           rw [← hS, uF, alT hx]
       . rw [eN, alS (by simp), Bool.not_false, am9] at hp
         have hx : x = es.getD j 0 := by simpa using hp
         refine RW _ ?_
         rw [← hS, uF, alW hx]
 case fin =>
   rintro δ ⟨R, o, ⟨hR, hRl⟩, rfl⟩
   have e : (bZ 0 (es.length : Int).toNat).length = es.length := by simp [bZ]
   rw [e] at hR
   rw [hR] at hj
   have hj : decide (es.getD 0 0 = -1) = vq es (es.length - 1) := hj
   refine bO (gB (i := es.getD 0 0) (aU (aJ E.cC) (ah ai) (eX (by omega) (by omega))) (ah (dh (ah ai)))).1 (fun hp => ?_) (fun hp => az ?_)
   . exact aN cG (by rw [← hj, Dv hp]; rfl)
   have h0 : es.getD 0 0 = -1 := al2 (E6 hp)
   rw [← hj, E6 hp, am9, JB hs]
   refine lG E.g E.r6 (fun j δ => ∃ (o o5 : Option T), qS (fun k => Qy ks es k && Il ks es ss k) (List.range ks.length) j /\ δ = [some (.sh (.lst (ks.map .str))), some (.sh (.lst (es.map .int))), some (.sh (.lst (ss.map .int))), some (.lst ((R.reverse.map .int).map T.sh)), o, o5])
     (gS E.er (ah (cH (alR ..) E.b7 (aJ E.kr) E.b6)) (by omega) E.eo) ⟨_, _, .zero, rfl⟩ (fun j δ ⟨_, _, _, e⟩ => by subst e; exact alY rfl) ?DJ ?fin2
   case DJ =>
     rintro j d δ hj' ⟨o, o5, hU, rfl⟩
     obtain ⟨rfl, vQ⟩ := mz hj'
     have vQ : j < ks.length := by simp at vQ; omega
     rw [amZ]
     have Zj : (List.range ks.length)[j]? = some j := ana vQ
     have hk : BD (ks.map L3.D.str) (j : Int) = some (.str (ks.getD j Str.empty)) := (sH Str.empty (by omega) (by omega)).trans (by rw [amR])
     have hsj : BD (ss.map L3.D.int) (j : Int) = some (.int (ss.getD j 0)) := (eX (by omega) (by omega)).trans (by rw [amR])
     have hv := Ws (ks := ks) (es := es) (ss := ss) h0 (k := j) (qH j vQ)
     have bad : (Qy ks es j && Il ks es ss j) = false -> T.sh (.bl false) = T.sh (.bl ((List.range ks.length).all fun k => Qy ks es k && Il ks es ss k)) := fun e => by
       rw [GC (p := fun k => Qy ks es k && Il ks es ss k) (amr Zj) e]
     refine aY E.g E.qV (Wi (aJ E.cC) (aJ E.r6)) ?_
     refine bO (gD (fu (oZ (l := qT) (aU (aJ E.kr) (aJ E.r6) hk) (aQ (b8 (cP rfl) (aH rfl))) rfl rfl).1 (fun _ => gE (VF (ah (gC (aU (aJ E.kr) (aJ E.r6) hk) (ah bR)).2) (ah (cj (aJ E.qV) (ah ai)).2)).1))) (fun hp => ?_) (fun hp => az ?_)
     . refine aN cG (bad ?_)
       rw [hv]
       generalize decide (ks.getD j Str.empty ∈ qT) = b1 at hp ⊢
       generalize decide (ks.getD j Str.empty = "leaf") = b2 at hp ⊢
       generalize decide (((es.count (j : Int) : Nat) : Int) = 0) = b3 at hp ⊢
       revert hp
       cases b1 <;> cases b2 <;> cases b3 <;> first | (intro _; rfl) | (intro hp; simp at hp)
     have h1 : (decide (ks.getD j Str.empty ∈ qT) && (decide (ks.getD j Str.empty = "leaf") == decide (((es.count (j : Int) : Nat) : Int) = 0))) = true := by
       generalize decide (ks.getD j Str.empty ∈ qT) = b1 at hp ⊢
       generalize decide (ks.getD j Str.empty = "leaf") = b2 at hp ⊢
       generalize decide (((es.count (j : Int) : Nat) : Int) = 0) = b3 at hp ⊢
       revert hp
       cases b1 <;> cases b2 <;> cases b3 <;> first | (intro _; rfl) | (intro hp; simp at hp)
     rw [h1, am9] at hv
     refine bO (gD (gF (vI (aU (aJ E.kr) (aJ E.r6) hk) (ah bR)).1 (fun _ => lT (gB (aU (aJ E.ku) (aJ E.r6) hsj) (ah (dh (ah ai)))).1))) (fun hp => ?_) (fun hp => az ?_)
     . have hp : (!decide (ks.getD j Str.empty = "one") && !decide (ss.getD j 0 = -1)) = true := hp
       exact aN cG (bad (by rw [hv, hp]; rfl))
     have hp : (!decide (ks.getD j Str.empty = "one") && !decide (ss.getD j 0 = -1)) = false := hp
     rw [hp] at hv
     have hv : (Qy ks es j && Il ks es ss j) = !(decide (ks.getD j Str.empty = "one") && (decide (ss.getD j 0 < 1) || !decide (es.getD (ss.getD j 0).toNat 0 = (j : Int)))) := hv
     refine bO (gD (gF (gC (aU (aJ E.kr) (aJ E.r6) hk) (ah bR)).1 (fun _ => lT (gD (fu (vo (aU (aJ E.ku) (aJ E.r6) hsj) (ah ai)).1 (fun hz => gE (gB (aU (aJ E.cC) (aU (aJ E.ku) (aJ E.r6) hsj) (eX (by have := amd hz; omega) (qH j vQ))) (aJ E.r6)).1)))))) (fun hp => ?_) (fun hp => az (az ⟨_, _, hU.next Zj ?_, rfl⟩))
     . have hp : (decide (ks.getD j Str.empty = "one") && (decide (ss.getD j 0 < 1) || !decide (es.getD (ss.getD j 0).toNat 0 = (j : Int)))) = true := hp
       exact aN cG (bad (by rw [hv, hp]; rfl))
     . have hp : (decide (ks.getD j Str.empty = "one") && (decide (ss.getD j 0 < 1) || !decide (es.getD (ss.getD j 0).toNat 0 = (j : Int)))) = false := hp
       show (Qy ks es j && Il ks es ss j) = true
       rw [hv, hp]
       rfl
   case fin2 =>
     rintro δ ⟨o, o5, hU, rfl⟩
     refine aN cG ?_
     rw [qS.all (by simpa [bZ] using hU)]
theorem fE : oW (aA pL) ([("kinds", aE), ("elders", aE), ("starts", aE), ("chain", aE), ("k", aE), ("near", aE), ("range", aC), ("len", aC)]) = true := by decide +kernel
theorem yf : aT ["kinds", "elders", "starts", "chain", "k", "near"] ["kinds", "elders", "starts"] (aA pL) := bf
noncomputable abbrev pN : Stmt := top 53
noncomputable abbrev tu : Type := Str
noncomputable def gX : tu -> List L3.D := fun x => [.str x]
noncomputable def gY : tu -> Prop := fun x => x.length <= 1000
noncomputable def gZ : tu -> T := fun x => (.sh (.bl (cu x)) : T)
structure JN (X : Cx) (CL : Str -> Addr) : Prop extends c7 X where
 oq : Ln X 0 "text"
 QV : Ln X 1 "words"
 b6 : Gl X "len"
 DK : Gl X "all"
 b7 : X.mg "len" = none
 DL : X.mg "all" = none
theorem JQ {X : Cx} {CL : Str -> Addr} {b : Bx} (E : JN X CL) (x) (h : gY x) :
   aG X CL b pN ["text", "words"] (gX x) (gZ x) := by
 dsimp only [aG, gY, gX, gZ] at h ⊢
 have hz : x.length <= sizeLine := amo (bE h)
 have hll : x.cps.toList.length = x.length := by simp [Str.length]
 refine aY E.g E.QV (V3 (l := pC) (ah bR) (ah bR) (by decide +kernel) (by rw [anb]; decide +kernel) (by decide +kernel) (aH rfl)) ?_
 refine bO (gD (fu (gC (aJ E.oq) (ah bR)).1 (fun h0 => fu (Fp (ah (Qf E.b7 (aJ E.oq) hz E.b6)) (ah ai)).1 (fun _ => fu (Gi (l := pC) (aJ E.oq) (vL E.QV.1) rfl rfl).1 (fun _ => gE (Jl (ah (VB (aJ E.oq) (ah ai) hz (VL 0 (by omega) ?pos))) (ah bR) rfl).1))))) (fun hp => ?_) (fun hp => az ?_)
 case pos =>
   have h0 : decide (x = "") = false := h0
   have := amd h0
   rcases Nat.eq_zero_or_pos x.length with z | z
   . exact absurd (GB z) this
   . omega
 . refine aN cG ?_
   have hp : (decide (x = "") || (decide ((12 : Int) < (x.length : Nat)) || (decide (x ∈ pC) || pe ⟨#[x.cps.toList.getD 0 0]⟩ "0123456789"))) = true := hp
   rw [QB] at hp
   simp only [ans, amQ] at hp
   refine congrArg (fun z => T.sh (.bl z)) (Eq.symm ?_)
   rcases hp with z | z | z | z
   . subst z; decide +kernel
   . unfold cu
     rw [alS (p := x.length <= 12) (by omega), amy, amf]
   . unfold cu
     rw [alV z, Bool.not_true, amy, amf, amf]
   . exact acO z
 have hp : (decide (x = "") || (decide ((12 : Int) < (x.length : Nat)) || (decide (x ∈ pC) || pe ⟨#[x.cps.toList.getD 0 0]⟩ "0123456789"))) = false := hp
 rw [QB] at hp
 simp only [ams, am4] at hp
 obtain ⟨h1, h2, h3, h4⟩ := hp
 have hl1 : 1 <= x.length := by
   rcases Nat.eq_zero_or_pos x.length with z | z
   . exact absurd (GB z) h1
   . exact z
 have hnm := Wo hl1 (by omega) h3 h4
 refine aN (aF (Dj (l := x.cps.toList.map fun c => isLt c || qe c) E.g E.DL (aQ (aF (i7 (p := fun _ => true) (g := fun d => T.sh (.bl (pe d.toS "abcdefghijklmnopqrstuvwxyz0123456789"))) (cF .nil (by decide +kernel)) E.g.calm (V1 (v_ E.oq.1)) (.inr rfl) (fun C s0 H0 f0 b' d hd => ?Wu) (amo (bE (by unfold jo; rw [alR]; omega)))) ?Zk)) E.DK) (t2 := .sh (.bl (cu x))) (congrArg (fun z => T.sh (.bl z)) (by rw [hnm, anC]; rfl))) rfl
 case Wu =>
   obtain ⟨j, hj, e⟩ := List.getElem_of_mem hd
   obtain ⟨c, rfl, _⟩ := Du (x := x) (j := j) (d := d) (by rw [amm hj, e])
   exact ⟨rfl, fun _ => (Jl (ah (v_ (gi (i := 0) rfl (by decide +kernel)))) (ah bR) rfl).2⟩
 case Zk =>
   rw [ck]
   unfold jo
   rw [al5, al5, al5]
   refine congrArg T.lst (amP fun c _ => ?_)
   show T.sh (.bl (pe ⟨#[c]⟩ "abcdefghijklmnopqrstuvwxyz0123456789")) = T.sh (.bl (isLt c || qe c))
   rw [GA]
theorem nA : oW (aA pN) ([("text", aE), ("words", aE), ("len", aC), ("all", aC)]) = true := by decide +kernel
theorem yg : aT ["text", "words"] ["text"] (aA pN) := bf
noncomputable abbrev GR : Stmt := top 54
noncomputable abbrev MS : Type := Int
noncomputable def tD : MS -> List L3.D := fun i => [.int i]
noncomputable def tE : MS -> Prop := fun i => True
noncomputable def tF : MS -> T := fun i => (.sh (.bl (Bo i)) : T)
structure ac9 (X : Cx) (CL : Str -> Addr) : Prop extends c7 X where
 qw : Ln X 0 "number"
theorem ada {X : Cx} {CL : Str -> Addr} {b : Bx} (E : ac9 X CL) (i) (h : tE i) :
   aG X CL b GR ["number"] (tD i) (tF i) := by
 dsimp only [aG, tE, tD, tF] at h ⊢
 exact aN (aF (jD (vo (ah (gA (ah ai) (ah (dS (ah ai) (ah ai) ⟨by decide, by decide, by decide⟩)))) (aJ E.qw)).2 (fun hb => (j7 (vo (aJ E.qw) (ah (dS (ah ai) (ah ai) ⟨by decide, by decide, by decide⟩))).2))) (t2 := .sh (.bl (Bo i))) (congrArg (fun z => T.sh (.bl z)) (Wq i))) rfl
theorem Zm : oW (aA GR) ([("number", aE)]) = true := by decide +kernel
theorem QW : aT ["number"] ["number"] (aA GR) := bf
noncomputable abbrev pO : Stmt := top 55
noncomputable abbrev tG : Type := Int × Int × Nat
noncomputable def jr : tG -> List L3.D := fun (i, c, n) => [.tup [.int i, .int c], .int n]
noncomputable def jt : tG -> Prop := fun (i, c, n) => True
noncomputable def ju : tG -> T := fun (i, c, n) => (.sh (.bl (uE n i c)) : T)
structure JR (X : Cx) (CL : Str -> Addr) : Prop extends c7 X where
 qZ : Ln X 0 "term"
 bw : Ln X 1 "many"
 JS : Gl X "_law_near"
 MT : Fc X CL "_law_near" 1 1 tD tE tF
theorem JT {X : Cx} {CL : Str -> Addr} {b : Bx} (E : JR X CL) (i c n) (h : jt (i, c, n)) :
   aG X CL b pO ["term", "many"] (jr (i, c, n)) (ju (i, c, n)) := by
 dsimp only [aG, jt, jr, ju] at h ⊢
 exact aN (aF (jD (aaB (ah (dh (ah ai))) (aP (aJ E.qZ) (ah ai) (aD (j := 0) rfl))).2 (fun _ => jD (vo (aP (aJ E.qZ) (ah ai) (aD (j := 0) rfl)) (aJ E.bw)).2 (fun _ => j7 (aF (c_ c E.MT E.JS (aq (aP (aJ E.qZ) (ah ai) (aD (j := 1) rfl)) aI) trivial rfl) (t2 := .sh (.bl (Bo c))) rfl)))) (t2 := .sh (.bl (uE n i c))) (congrArg (fun z => T.sh (.bl z)) (Wr n i c))) rfl
theorem rg : oW (aA pO) ([("term", aE), ("many", aE), ("_law_near", aC)]) = true := by decide +kernel
theorem yh : aT ["term", "many"] ["term", "many"] (aA pO) := bf
noncomputable def WU : List Str := ["<", "<=", "=", "!="]
noncomputable abbrev rm : Stmt := top 57
noncomputable abbrev vW : Type := Wk × Nat × Nat
noncomputable def nB : vW -> List L3.D := fun (q, m, n) => [E4 q, .int m, .int n]
noncomputable def nE : vW -> Prop := fun (q, m, n) => Wm q
noncomputable def nF : vW -> T := fun (q, m, n) => (.sh (.bl (LD n m q)) : T)
structure MV (X : Cx) (CL : Str -> Addr) : Prop extends c7 X where
 lH : Ln X 0 "ask"
 bw : Ln X 1 "many"
 cA : Ln X 2 "moods"
 b6 : Gl X "len"
 gq : Gl X "_law_good_term"
 b7 : X.mg "len" = none
 mE : Fc X CL "_law_good_term" 2 2 jr jt ju
theorem MX {X : Cx} {CL : Str -> Addr} {b : Bx} (E : MV X CL) (q m n) (h : nE (q, m, n)) :
   aG X CL b rm ["ask", "many", "moods"] (nB (q, m, n)) (nF (q, m, n)) := by
 dsimp only [aG, nE, nB, nF] at h ⊢
 cases q with
 | Ss x k =>
   refine bO (cj (ah (Qe E.b7 (aJ E.lH) E.b6)) (ah ai)).1 (fun _ => ?_) (fun hp => absurd rfl (amd hp))
   exact aN (jD (aaB (ah ai) (aP (aJ E.lH) (ah ai) (aD (j := 1) rfl))).2 (fun _ => j7 (vo (aP (aJ E.lH) (ah ai) (aD (j := 1) rfl)) (aJ E.cA)).2)) rfl
 | num mk a1 c1 a2 c2 =>
   refine bO (cj (ah (Qe E.b7 (aJ E.lH) E.b6)) (ah ai)).1 (fun hp => by have hp : decide (((3 : Nat) : Int) = 2) = true := hp; exact absurd hp (by decide)) (fun _ => az ?_)
   have hd : LD n m (.num mk a1 c1 a2 c2) = (decide (mk ∈ WU) && (uE m a1 c1 && uE m a2 c2)) := rfl
   rw [hd]
   refine bO (oZ (l := WU) (aP (aJ E.lH) (ah ai) (aD (j := 0) rfl)) (aQ (b8 (cP rfl) (aH rfl))) rfl rfl).1 (fun hp => ?_) (fun hp => az ?_)
   . exact aN cG (by rw [Dv hp]; rfl)
   rw [E6 hp]
   exact aN (jD (aF (c_ (a1, c1, m) E.mE E.gq (aq (aP (aJ E.lH) (ah ai) (aD (j := 1) rfl)) (aq (aJ E.bw) aI)) trivial rfl) (t2 := .sh (.bl (uE m a1 c1))) rfl) (fun _ => j7 (aF (c_ (a2, c2, m) E.mE E.gq (aq (aP (aJ E.lH) (ah ai) (aD (j := 2) rfl)) (aq (aJ E.bw) aI)) trivial rfl) (t2 := .sh (.bl (uE m a2 c2))) rfl))) rfl
theorem mF : oW (aA rm) ([("ask", aE), ("many", aE), ("moods", aE), ("len", aC), ("_law_good_term", aC)]) = true := by decide +kernel
theorem Bq : aT ["ask", "many", "moods"] ["ask", "many", "moods"] (aA rm) := bf
noncomputable def lkJ (n m : Nat) : L3.D -> Bool
 | .tup [.str _, .int k] => sJ k n
 | .tup [.str mk, .tup [.int a1, .int c1], .tup [.int a2, .int c2]] => decide (mk ∈ (["<", "<=", "=", "!="] : List Str)) && (uE m a1 c1 && uE m a2 c2)
 | _ => false
theorem WV (n m : Nat) (q : Wk) : lkJ n m (E4 q) = LD n m q := by cases q <;> rfl
noncomputable abbrev pP : Stmt := top 59
noncomputable abbrev tH : Type := List BF × Nat × Nat
noncomputable def lZ : tH -> List L3.D := fun (ws, m, n) => [.lst (ws.map pD), .int m, .int n]
noncomputable def jv : tH -> Prop := fun (ws, m, n) => ∀ w ∈ ws, w.ok /\ w.al.length <= 1000
noncomputable def l0 : tH -> T := fun (ws, m, n) => (.sh (.bl (Cv n m 0 ws)) : T)
structure JV (X : Cx) (CL : Str -> Addr) : Prop extends c7 X where
 zX : Ln X 0 "ways"
 bw : Ln X 1 "many"
 qY : X.env.kindOf "many" = some .cell
 cA : Ln X 2 "moods"
 uJ : X.env.kindOf "moods" = some .cell
 vX : Ln X 3 "last"
 fX : Ln X 4 "way"
 i9 : Gl X "_law_good_name"
 DK : Gl X "all"
 iT : Fc X CL "_law_good_name" 1 1 gX gY gZ
 DL : X.mg "all" = none
 MY : Fc X CL "_law_good_ask" 3 3 nB nE nF
theorem JW {X : Cx} {CL : Str -> Addr} {b : Bx} (E : JV X CL) (ws m n) (h : jv (ws, m, n)) :
   aG X CL b pP ["ways", "many", "moods", "last", "way"] (lZ (ws, m, n)) (l0 (ws, m, n)) := by
 dsimp only [aG, jv, lZ, l0] at h ⊢
 refine aY E.g E.vX ai ?_
 refine lG E.g E.fX (fun j δ => ∃ (l : Int) (o : Option T), (0 <= l /\ Cv n m 0 ws = Cv n m l (ws.drop j)) /\ δ = [some (.sh (.lst (ws.map pD))), some (.sh (.int m)), some (.sh (.int n)), some (.sh (.int l)), o])
   (j9 (v_ E.zX.1)) ⟨0, none, ⟨Int.le_refl _, rfl⟩, rfl⟩ (fun j δ ⟨_, _, _, e⟩ => by subst e; exact alY rfl) ?turn ?fin
 case turn =>
   rintro j d δ hj ⟨l, o, ⟨h0, hl⟩, rfl⟩
   obtain ⟨w, hw, rfl⟩ : ∃ w, ws[j]? = some w /\ pD w = d := by rw [aml] at hj; exact amv.mp hj
   have vQ : j < ws.length := (amj.mp hw).1
   have hdr : ws.drop j = w :: ws.drop (j + 1) := by rw [anz vQ, (amj.mp hw).2]
   obtain ⟨⟨k1, k2⟩, k3⟩ := h w (amr hw)
   rw [hdr, Cv] at hl
   refine bO (gD (fu (vo (aP (aJ E.fX) (ah ai) (aD (j := 0) rfl)) (aJ E.vX)).1 (fun _ => fu (Vy (aP (aJ E.fX) (ah ai) (aD (j := 0) rfl)) (aJ E.cA)).1 (fun _ => fu (vo (aP (aJ E.fX) (ah ai) (aD (j := 4) rfl)) (ah (dh (ah ai)))).1 (fun _ => fu (Vy (aP (aJ E.fX) (ah ai) (aD (j := 4) rfl)) (aJ E.cA)).1 (fun _ => gE (cN (eG (aF (c_ w.sign E.iT E.i9 (aq (aP (aJ E.fX) (ah ai) (aD (j := 1) rfl)) aI) k1 rfl) (t2 := .sh (.bl (cu w.sign))) rfl)))))))))
     (fun hp => ?_) (fun hp => az ?_)
   . have hp : (decide (w.src < l) || (decide ((n : Int) <= w.src) || (decide (w.tgt < -1) || (decide ((n : Int) <= w.tgt) || !cu w.sign)))) = true := hp
     refine aN cG ?_
     rw [hl]
     by_cases c0 : w.src < l
     . rw [alV c0]; rfl
     rw [Jz n m w h0 c0]
     rw [alS c0, Bool.false_or] at hp
     refine congrArg (fun z => T.sh (.bl z)) (Eq.symm ?_)
     by_cases c1 : w.src < (n : Int)
     . by_cases c2 : w.tgt < -1
       . rw [alV c2]; simp
       . by_cases c3 : w.tgt < (n : Int)
         . rw [alS (show ¬ (n : Int) <= w.src by omega), alS c2, alS (show ¬ (n : Int) <= w.tgt by omega)] at hp
           have : cu w.sign = false := Dv (by simpa using hp)
           rw [this]; simp
         . rw [alS c3]; simp
     . rw [alS c1]; simp
   have hp : (decide (w.src < l) || (decide ((n : Int) <= w.src) || (decide (w.tgt < -1) || (decide ((n : Int) <= w.tgt) || !cu w.sign)))) = false := hp
   simp only [ams, am4] at hp
   obtain ⟨c0, c1, c2, c3, c4⟩ := hp
   rw [Jz n m w h0 c0, alS c0, alV (show w.src < (n : Int) by omega), alS c2, alV (show w.tgt < (n : Int) by omega), E6 c4] at hl
   have hl : Cv n m 0 ws = (((decide (w.mode ∈ jE) && !(decide (w.tgt = -1) && !decide (w.mode = "new"))) && w.al.all (LD n m)) && Cv n m w.src (ws.drop (j + 1))) := by rw [hl]; rfl
   refine aY E.g E.vX (cS (aP (aJ E.fX) (ah ai) (aD (j := 0) rfl)) rfl) ?_
   refine bO (gD (fu (oZ (l := jE) (aP (aJ E.fX) (ah ai) (aD (j := 5) rfl)) (aQ (b8 (cP rfl) (aH rfl))) rfl rfl).1 (fun _ => gE (gD (gF (cj (aP (aJ E.fX) (ah ai) (aD (j := 4) rfl)) (ah (dh (ah ai)))).1 (fun _ => lT (vI (aP (aJ E.fX) (ah ai) (aD (j := 5) rfl)) (ah bR)).1)))))) (fun hp => ?_) (fun hp => az ?_)
   . have hp : (!decide (w.mode ∈ jE) || (decide (w.tgt = -1) && !decide (w.mode = "new"))) = true := hp
     refine aN cG ?_
     rw [hl]
     refine congrArg (fun z => T.sh (.bl z)) (Eq.symm ?_)
     generalize decide (w.mode ∈ jE) = b1 at hp ⊢
     generalize (decide (w.tgt = -1) && !decide (w.mode = "new")) = b2 at hp ⊢
     cases b1
     . rfl
     . cases b2
       . cases hp
       . rfl
   have hp : (!decide (w.mode ∈ jE) || (decide (w.tgt = -1) && !decide (w.mode = "new"))) = false := hp
   rw [ams] at hp
   rw [E6 hp.1, hp.2] at hl
   have hl : Cv n m 0 ws = (w.al.all (LD n m) && Cv n m w.src (ws.drop (j + 1))) := by rw [hl]; rfl
   refine bO (cN (eG (aF (Dj (l := w.al.map (LD n m)) E.g E.DL (aQ (aF (i7 (p := fun _ => true) (g := fun d => T.sh (.bl (lkJ n m d))) (cF (.cons E.bw.1 (.inl E.qY) (.cons E.cA.1 (.inl E.uJ) .nil)) (by decide +kernel)) E.g.calm (Gf (cS (aP (aJ E.fX) (ah ai) (aD (j := 2) rfl)) (xZ w.al))) (.inr rfl) (fun C s0 H0 f0 b' d hd => ?Wu) (amo (bE (by rw [alR]; omega)))) ?Zk)) E.DK) (t2 := .sh (.bl (w.al.all (LD n m)))) (congrArg (fun z => T.sh (.bl z)) (by rw [anC]; rfl))))) (fun hp => ?_) (fun hp => az (az ⟨w.src, _, ⟨by omega, by rw [hl, E6 hp]; rfl⟩, rfl⟩))
   case Wu =>
     obtain ⟨q, hq, rfl⟩ := amn.mp hd
     exact ⟨rfl, fun _ => aF (c_ (q, m, n) (lU E.MY) (kg (by decide +kernel)) (aq (ah (v_ (gi (i := 0) rfl (by decide +kernel)))) (aq (ah (v_ (g7 (i := 1) rfl (by decide +kernel)))) (aq (ah (v_ (g7 (i := 2) rfl (by decide +kernel)))) aI))) (k2 q hq) rfl) (by show _ = T.sh (.bl (lkJ n m (E4 q))); rw [WV]; rfl)⟩
   case Zk =>
     rw [ck, al5, al5, al5]
     refine congrArg T.lst (amP fun q _ => ?_)
     show T.sh (.bl (lkJ n m (E4 q))) = T.sh (.bl (LD n m q))
     rw [WV]
   exact aN cG (by rw [hl, Dv hp]; rfl)
 case fin =>
   rintro δ ⟨l, o, ⟨_, hl⟩, rfl⟩
   rw [alR, List.drop_length] at hl
   exact aN cG (by rw [hl]; rfl)
theorem ez : oW (aA pP) ([("ways", aE), ("many", .cell), ("moods", .cell), ("last", aE), ("way", aE), ("_law_good_name", aC), ("all", aC)]) = true := by decide +kernel
theorem yi : aT ["ways", "many", "moods", "last", "way"] ["ways", "many", "moods"] (aA pP) := bf
noncomputable def DM : List Str := ["put", "call", "say"]
noncomputable abbrev pQ : Stmt := top 56
noncomputable abbrev tK : Type := qI × Nat
noncomputable def mh : tK -> List L3.D := fun (q, n) => [Dw q, .int n]
noncomputable def mj : tK -> Prop := fun (q, n) => dgL q
noncomputable def mq : tK -> T := fun (q, n) => (.sh (.bl (Jx n q)) : T)
structure JX (X : Cx) (CL : Str -> Addr) : Prop extends c7 X where
 cO : Ln X 0 "deed"
 bw : Ln X 1 "many"
 i9 : Gl X "_law_good_name"
 gq : Gl X "_law_good_term"
 iT : Fc X CL "_law_good_name" 1 1 gX gY gZ
 mE : Fc X CL "_law_good_term" 2 2 jr jt ju
theorem JY {X : Cx} {CL : Str -> Addr} {b : Bx} (E : JX X CL) (q n) (h : mj (q, n)) :
   aG X CL b pQ ["deed", "many"] (mh (q, n)) (mq (q, n)) := by
 dsimp only [aG, mj, mh, mq] at h ⊢
 cases q with
 | put i a' c =>
   refine bO (oZ (l := DM) (aP (aJ E.cO) (ah ai) (aD (j := 0) rfl)) (aQ (b8 (cP rfl) (aH rfl))) rfl rfl).1 (fun hp => absurd hp (by decide +kernel)) (fun _ => az ?_)
   refine bO (gD (gF (q := false) (vI (aP (aJ E.cO) (ah ai) (aD (j := 0) rfl)) (ah bR)).1 (fun hz => absurd hz (by decide +kernel)))) (fun hp => absurd hp (by rw [amf]; decide)) (fun _ => az ?_)
   refine bO (gD (gF (gC (aP (aJ E.cO) (ah ai) (aD (j := 0) rfl)) (ah bR)).1 (fun _ => lT (gD (fu (vo (aP (aJ E.cO) (ah ai) (aD (j := 1) rfl)) (ah ai)).1 (fun _ => gE (Vy (aP (aJ E.cO) (ah ai) (aD (j := 1) rfl)) (aJ E.bw)).1)))))) (fun hp => ?_) (fun hp => az ?_)
   . refine aN cG ?_
     simp only [ame, ans, amQ] at hp
     show T.sh (.bl false) = T.sh (.bl (sJ i n && uE n a' c))
     have e : sJ i n = false := by
       unfold sJ
       by_cases h0 : 0 <= i
       . rw [alS (show ¬ i < (n : Int) by omega), amf]
       . rw [alS h0, amy]
     rw [e]
     rfl
   . have e : sJ i n = true := by
       have hp : (decide (("put" : Str) = "put") && (decide (i < 0) || decide ((n : Int) <= i))) = false := hp
       rw [alV rfl, am9, ams] at hp
       have h1 := amd hp.1
       have h2 := amd hp.2
       unfold sJ
       rw [alV (by omega), alV (by omega)]
       rfl
     refine aN (aF (Qc (q := uE n a' c) (gC (aP (aJ E.cO) (ah ai) (aD (j := 0) rfl)) (ah bR)).2 (fun _ => j7 (aF (c_ (a', c, n) E.mE E.gq (aq (aP (aJ E.cO) (ah ai) (aD (j := 2) rfl)) (aq (aJ E.bw) aI)) trivial rfl) (t2 := .sh (.bl (uE n a' c))) rfl))) (t2 := .sh (.bl (uE n a' c))) (congrArg (fun z => T.sh (.bl z)) (by rw [alS (show ¬ ("put" : Str) = "call" by decide +kernel)]; rfl))) ?_
     show T.sh (.bl (uE n a' c)) = T.sh (.bl (sJ i n && uE n a' c))
     rw [e]
     rfl
 | say w x a' c =>
   obtain ⟨⟨w1, w2⟩, hx⟩ : (w ≠ "put" /\ w ≠ "call") /\ x.length <= 1000 := h
   have hd : Jx n (.say w x a' c) = (decide (w = "say") && (cu x && uE n a' c)) := rfl
   rw [hd]
   have YT : decide (w ∈ DM) = decide (w = "say") := by
     refine amY.mpr ⟨fun z => ?_, fun z => by rw [z]; decide +kernel⟩
     unfold DM at z
     simp only [al6, amC, or_false] at z
     rcases z with z | z | z
     . exact absurd z w1
     . exact absurd z w2
     . exact z
   refine bO (oZ (l := DM) (aP (aJ E.cO) (ah ai) (aD (j := 0) rfl)) (aQ (b8 (cP rfl) (aH rfl))) rfl rfl).1 (fun hp => ?_) (fun hp => az ?_)
   . rw [YT] at hp
     exact aN cG (by rw [Dv hp]; rfl)
   rw [YT] at hp
   rw [E6 hp]
   refine bO (gD (gF (vI (aP (aJ E.cO) (ah ai) (aD (j := 0) rfl)) (ah bR)).1 (fun _ => lT (cN (eG (aF (c_ x E.iT E.i9 (aq (aP (aJ E.cO) (ah ai) (aD (j := 1) rfl)) aI) hx rfl) (t2 := .sh (.bl (cu x))) rfl)))))) (fun hq => ?_) (fun hq => az ?_)
   . rw [ame] at hq
     exact aN cG (by rw [Dv hq.2]; rfl)
   have hn : cu x = true := by
     have hq : (!decide (w = "put") && !cu x) = false := hq
     rw [alS w1] at hq
     exact E6 (by simpa using hq)
   rw [hn]
   refine bO (gD (gF (q := false) (gC (aP (aJ E.cO) (ah ai) (aD (j := 0) rfl)) (ah bR)).1 (fun hz => absurd (al2 hz) w1))) (fun hz => absurd hz (by rw [amf]; decide)) (fun _ => az ?_)
   refine aN (Qc (q := uE n a' c) (gC (aP (aJ E.cO) (ah ai) (aD (j := 0) rfl)) (ah bR)).2 (fun _ => j7 (aF (c_ (a', c, n) E.mE E.gq (aq (aP (aJ E.cO) (ah ai) (aD (j := 2) rfl)) (aq (aJ E.bw) aI)) trivial rfl) (t2 := .sh (.bl (uE n a' c))) rfl))) ?_
   show T.sh (.bl (decide (w = "call") || uE n a' c)) = _
   rw [alS w2]
   rfl
 | call x =>
   have hx : x.length <= 1000 := h
   refine bO (oZ (l := DM) (aP (aJ E.cO) (ah ai) (aD (j := 0) rfl)) (aQ (b8 (cP rfl) (aH rfl))) rfl rfl).1 (fun hp => absurd hp (by decide +kernel)) (fun _ => az ?_)
   refine bO (gD (gF (vI (aP (aJ E.cO) (ah ai) (aD (j := 0) rfl)) (ah bR)).1 (fun _ => lT (cN (eG (aF (c_ x E.iT E.i9 (aq (aP (aJ E.cO) (ah ai) (aD (j := 1) rfl)) aI) hx rfl) (t2 := .sh (.bl (cu x))) rfl)))))) (fun hq => ?_) (fun hq => az ?_)
   . rw [ame] at hq
     exact aN cG (by show T.sh (.bl false) = T.sh (.bl (cu x)); rw [Dv hq.2])
   have hn : cu x = true := by
     have hq : (!decide (("call" : Str) = "put") && !cu x) = false := hq
     rw [alS (show ¬ ("call" : Str) = "put" by decide +kernel)] at hq
     exact E6 (by simpa using hq)
   refine bO (gD (gF (q := false) (gC (aP (aJ E.cO) (ah ai) (aD (j := 0) rfl)) (ah bR)).1 (fun hz => absurd (show ("call" : Str) = "put" from al2 hz) (by decide +kernel)))) (fun hz => absurd hz (by rw [amf]; decide)) (fun _ => az ?_)
   refine aN (Qc (q := false) (gC (aP (aJ E.cO) (ah ai) (aD (j := 0) rfl)) (ah bR)).2 (fun hz => absurd rfl (amd hz))) ?_
   show T.sh (.bl (decide (("call" : Str) = "call") || false)) = T.sh (.bl (cu x))
   rw [hn, alV rfl]
   rfl
theorem nG : oW (aA pQ) ([("deed", aE), ("many", aE), ("_law_good_name", aC), ("_law_good_term", aC)]) = true := by decide +kernel
theorem yj : aT ["deed", "many"] ["deed", "many"] (aA pQ) := bf
noncomputable def prV (bs : List (Str × Int)) (nm ks : List Str) (es ss : List Int) (is os : List (List qI)) (ws : List BF) : L3.D := .lst [.lst (bs.map qf), .lst (nm.map .str), .lst (ks.map .str), .lst (es.map .int), .lst (ss.map .int), .lst (is.map bM), .lst (os.map bM), .lst (ws.map pD)]
noncomputable def bxJ : L3.D -> Bool
 | .tup [.str x, .int i] => cu x && Bo i
 | _ => false
noncomputable def dgJ (n : Nat) : L3.D -> Bool
 | .tup [.str _, .int i, .tup [.int a, .int c]] => sJ i n && uE n a c
 | .tup [.str w, .str x, .tup [.int a, .int c]] => decide (w = "say") && (cu x && uE n a c)
 | .tup [.str _, .str x] => cu x
 | _ => false
theorem WW (n : Nat) (q : qI) : dgJ n (Dw q) = Jx n q := by cases q <;> rfl
theorem JZ : ∀ l : List (Str × Int), (l.all (fun q => Bo q.2) && (l.map (·.1)).all cu) = l.all fun q => cu q.1 && Bo q.2
 | [] => rfl
 | q :: l => by
   rw [amX, amh, amX, amX, ← JZ l]
   generalize Bo q.2 = a
   generalize cu q.1 = b
   generalize (l.all fun q => Bo q.2) = c
   generalize (l.map (·.1)).all cu = d
   cases a <;> cases b <;> cases c <;> cases d <;> rfl
theorem FG (l : List (Str × Int)) : x6 l = (decide (l.map (·.1)).Nodup && l.all fun q => cu q.1 && Bo q.2) := by
 rw [← JZ]
 unfold x6 sr
 generalize decide (l.map (·.1)).Nodup = a
 generalize (l.all fun q => Bo q.2) = c
 generalize (l.map (·.1)).all cu = d
 cases a <;> cases c <;> cases d <;> rfl
noncomputable abbrev QX : Stmt := top 60
noncomputable abbrev WX : Type := (List (Str × Int)) × List Str × List Str × List Int × List Int × List (List qI) × List (List qI) × List BF
noncomputable def CM : WX -> List L3.D := fun (bs, nm, ks, es, ss, is, os, ws) => [prV bs nm ks es ss is os ws]
noncomputable def yk : WX -> Prop := fun (bs, nm, ks, es, ss, is, os, ws) => x9 bs nm ks is os ws /\ (0 < ks.length /\ es.length = ks.length /\ ss.length = ks.length) /\ (∀ k : Nat, k < ks.length -> ss.getD k 0 < es.length) /\ (∀ w ∈ ws, w.al.length <= 1000) /\ ∀ l ∈ is ++ os ++ ws.map (·.dl), l.length <= 1000
noncomputable def CN : WX -> T := fun (bs, nm, ks, es, ss, is, os, ws) => (.sh (.int (nk bs nm ks es ss is os ws)) : T)
structure afZ (X : Cx) (CL : Str -> Addr) : Prop extends c7 X where
 bJ : Ln X 0 "parts"
 bw : Ln X 1 "many"
 qY : X.env.kindOf "many" = some .cell
 cA : Ln X 2 "moods"
 QY : Ln X 3 "heads"
 pI : Ln X 4 "deeds"
 b6 : Gl X "len"
 zY : Gl X "_law_good_tree"
 QZ : Gl X "set"
 DK : Gl X "all"
 zZ : Gl X "_law_good_ways"
 b7 : X.mg "len" = none
 J1 : Fc X CL "_law_good_tree" 1 3 lX jq lY
 Q0 : X.mg "set" = none
 DL : X.mg "all" = none
 J2 : Fc X CL "_law_good_ways" 4 3 lZ jv l0
 iT : Fc X CL "_law_good_name" 1 1 gX gY gZ
 MT : Fc X CL "_law_near" 1 1 tD tE tF
 J3 : Fc X CL "_law_good_deed" 3 2 mh mj mq
theorem af0 {X : Cx} {CL : Str -> Addr} {b : Bx} (E : afZ X CL) (bs nm ks es ss is os ws) (h : yk (bs, nm, ks, es, ss, is, os, ws)) :
   aG X CL b QX ["parts", "many", "moods", "heads", "deeds"] (CM (bs, nm, ks, es, ss, is, os, ws)) (CN (bs, nm, ks, es, ss, is, os, ws)) := by
 dsimp only [aG, yk, CM, CN] at h ⊢
 obtain ⟨hs, ⟨n0, n1, n2⟩, qH, hal, hdl⟩ := h
 have hk1 := hs.k1
 have hn2 := hs.n2
 have hb2 := hs.b2
 have hi1 := hs.i1
 have ho1 := hs.o1
 have hw1 := hs.w1
 have ht : Jy ks es ss nm.length = (decide (nm.length = ks.length) && (vq es (es.length - 1) && (zS ks es && x8 ks es ss))) := by
   unfold Jy
   rw [alV n0, alV n1, alV n2]
   rfl
 have hr : nk bs nm ks es ss is os ws = if Jy ks es ss nm.length = false then 0 else if sr nm = false then 1 else if x6 bs = false then 2 else if sL nm.length bs.length is os ws = false then 3 else if Cv nm.length bs.length 0 ws = false then 4 else -1 := rfl
 refine aY E.g E.bw (cH (n := bs.length) (alR ..) E.b7 (aU (aJ E.bJ) (ah ai) (aD (j := 0) rfl)) E.b6) ?_
 refine aY E.g E.cA (cH (n := ks.length) (alR ..) E.b7 (aU (aJ E.bJ) (ah ai) (aD (j := 2) rfl)) E.b6) ?_
 refine bO (gD (fu (gB (ah (cH (n := nm.length) (List.length_map ..) E.b7 (aU (aJ E.bJ) (ah ai) (aD (j := 1) rfl)) E.b6)) (aJ E.cA)).1 (fun _ => gE (cN (eG (aF (c_ (ks, es, ss) E.J1 E.zY (aq (aU (aJ E.bJ) (ah ai) (aD (j := 2) rfl)) (aq (aU (aJ E.bJ) (ah ai) (aD (j := 3) rfl)) (aq (aU (aJ E.bJ) (ah ai) (aD (j := 4) rfl)) aI))) (by dsimp only [jq]; exact ⟨⟨n0, n1, n2, hk1⟩, qH⟩) rfl) (t2 := .sh (.bl (vq es (es.length - 1) && (zS ks es && x8 ks es ss)))) rfl)))))) (fun hp => ?_) (fun hp => az ?_)
 . refine aN ai ?_
   have hp : (!decide (((nm.length : Nat) : Int) = (ks.length : Nat)) || !(vq es (es.length - 1) && (zS ks es && x8 ks es ss))) = true := hp
   rw [hr, alW]
   rw [ht]
   by_cases e : nm.length = ks.length
   . rw [alV (show ((nm.length : Nat) : Int) = (ks.length : Nat) by omega)] at hp
     have hp : (!(vq es (es.length - 1) && (zS ks es && x8 ks es ss))) = true := hp
     rw [Dv hp, amf]
   . rw [alS e, amy]
 have hp : (!decide (((nm.length : Nat) : Int) = (ks.length : Nat)) || !(vq es (es.length - 1) && (zS ks es && x8 ks es ss))) = false := hp
 rw [ams] at hp
 have hnk : nm.length = ks.length := by have := al2 (E6 hp.1); omega
 rw [alT (show ¬ Jy ks es ss nm.length = false by rw [ht, alV hnk, E6 hp.2]; decide)] at hr
 have hcD : decide (((cD nm nm.length : Nat) : Int) = (ks.length : Nat)) = decide nm.Nodup := amY.mpr (by rw [← Mx]; omega)
 refine bO (gD (fu (gB (ah (vN E.g E.b7 E.Q0 (aU (aJ E.bJ) (ah ai) (aD (j := 1) rfl)) hn2 E.b6 E.QZ)) (aJ E.cA)).1 (fun _ => gE (cN (eG (aF (Dj (l := nm.map cu) E.g E.DL (aQ (aF (i7 (p := fun _ => true) (g := fun d => T.sh (.bl (cu d.toS))) (cF .nil (by decide +kernel)) E.g.calm (j9 (Gb (v_ E.bJ.1) (ah ai) (aD (j := 1) rfl))) (.inr rfl) (fun C s0 H0 f0 b' d hd => ?acX) (amo (bE (by rw [alR]; omega)))) ?acY)) E.DK) (t2 := .sh (.bl (nm.all cu))) (congrArg (fun z => T.sh (.bl z)) (by rw [anC]; rfl)))))))) (fun hp => ?_) (fun hp => az ?_)
 case acX =>
   obtain ⟨x, hx, rfl⟩ := amn.mp hd
   exact ⟨rfl, fun _ => aF (c_ x (lU E.iT) (kg (by decide +kernel)) (aq (ah (v_ (gi (i := 0) rfl (by decide +kernel)))) aI) (hs.n1 x hx) rfl) rfl⟩
 case acY =>
   rw [ck, al5, al5, al5]
   rfl
 . rw [hcD] at hp
   have hp : (!decide nm.Nodup || !nm.all cu) = true := hp
   refine aN ai ?_
   rw [hr, alW]
   unfold sr
   generalize decide nm.Nodup = b1 at hp ⊢
   generalize nm.all cu = b2 at hp ⊢
   revert hp
   cases b1 <;> cases b2 <;> first | (intro _; rfl) | (intro hp; cases hp)
 rw [hcD] at hp
 have hp : (!decide nm.Nodup || !nm.all cu) = false := hp
 rw [ams] at hp
 rw [alT (show ¬ sr nm = false by unfold sr; rw [E6 hp.1, E6 hp.2]; decide)] at hr
 refine Mv (p := fun _ => true) (gg := fun d => T.sh (.str d.at1.toS)) E.g E.QY (cF .nil (by decide +kernel)) (j9 (Gb (v_ E.bJ.1) (ah ai) (aD (j := 0) rfl))) (.inr rfl) (fun C s0 H0 f0 b' d hd => ?acZ) (amo (bE (by rw [alR]; omega))) ?af1 (by exact alY rfl) (C5 ⟨_, rfl⟩)
 case acZ =>
   obtain ⟨q, hq, rfl⟩ := amn.mp hd
   exact ⟨rfl, fun _ => cS (aP (ah (v_ (gi (i := 0) rfl (by decide +kernel)))) (ah ai) (aD (j := 0) rfl)) rfl⟩
 case af1 =>
 have em : (((bs.map qf).filter fun _ => true).map fun d => T.sh (L3.D.str d.at1.toS)) = ((bs.map (·.1)).map L3.D.str).map T.sh := by
   rw [ck, al5, al5, al5]
   rfl
 rw [em]
 have hhl : (bs.map (·.1)).length = bs.length := alR ..
 have hcB : decide (((cD (bs.map (·.1)) (bs.map (·.1)).length : Nat) : Int) = (bs.length : Nat)) = decide (bs.map (·.1)).Nodup := amY.mpr (by rw [← Mx]; omega)
 refine bO (gD (fu (gB (ah (vN (ns := bs.map (·.1)) E.g E.b7 E.Q0 (vL E.QY.1) (by omega) E.b6 E.QZ)) (aJ E.bw)).1 (fun _ => gE (cN (eG (aF (Dj (l := bs.map fun q => cu q.1 && Bo q.2) E.g E.DL (aQ (aF (i7 (p := fun _ => true) (g := fun d => T.sh (.bl (bxJ d))) (cF .nil (by decide +kernel)) E.g.calm (j9 (Gb (v_ E.bJ.1) (ah ai) (aD (j := 0) rfl))) (.inr rfl) (fun C s0 H0 f0 b' d hd => ?ac4) (amo (bE (by rw [alR]; omega)))) ?ac5)) E.DK) (t2 := .sh (.bl (bs.all fun q => cu q.1 && Bo q.2))) (congrArg (fun z => T.sh (.bl z)) (by rw [anC]; rfl)))))))) (fun hp => ?_) (fun hp => az ?_)
 case ac4 =>
   obtain ⟨q, hq, rfl⟩ := amn.mp hd
   exact ⟨rfl, fun _ => aF (jD (aF (c_ q.1 (lU E.iT) (kg (by decide +kernel)) (aq (aP (ah (v_ (d := .tup [.str q.1, .int q.2]) (gi (i := 0) rfl (by decide +kernel)))) (ah ai) (aD (j := 0) rfl)) aI) (hs.b1 q hq) rfl) (t2 := .sh (.bl (cu q.1))) rfl) (fun _ => j7 (aF (c_ q.2 (lU E.MT) (kg (by decide +kernel)) (aq (aP (ah (v_ (d := .tup [.str q.1, .int q.2]) (gi (i := 0) rfl (by decide +kernel)))) (ah ai) (aD (j := 1) rfl)) aI) trivial rfl) (t2 := .sh (.bl (Bo q.2))) rfl))) rfl⟩
 case ac5 =>
   rw [ck, al5, al5, al5]
   rfl
 . rw [hcB] at hp
   have hp : (!decide (bs.map (·.1)).Nodup || !bs.all fun q => cu q.1 && Bo q.2) = true := hp
   refine aN ai ?_
   rw [hr, alW]
   rw [FG]
   generalize decide (bs.map (·.1)).Nodup = b1 at hp ⊢
   generalize (bs.all fun q => cu q.1 && Bo q.2) = b2 at hp ⊢
   revert hp
   cases b1 <;> cases b2 <;> first | (intro _; rfl) | (intro hp; cases hp)
 rw [hcB] at hp
 have hp : (!decide (bs.map (·.1)).Nodup || !bs.all fun q => cu q.1 && Bo q.2) = false := hp
 rw [ams] at hp
 rw [alT (show ¬ x6 bs = false by rw [FG, E6 hp.1, E6 hp.2]; decide)] at hr
 refine bO (gD (fu (gB (ah (cH (n := is.length) (alR ..) E.b7 (aU (aJ E.bJ) (ah ai) (aD (j := 5) rfl)) E.b6)) (aJ E.cA)).1 (fun _ => gE (gB (ah (cH (n := os.length) (alR ..) E.b7 (aU (aJ E.bJ) (ah ai) (aD (j := 6) rfl)) E.b6)) (aJ E.cA)).1))) (fun hp => ?_) (fun hp => az ?_)
 . refine aN ai ?_
   simp only [ans, anI, am4] at hp
   rw [hr, alW]
   unfold sL
   by_cases e1 : is.length = nm.length
   . rw [alS (show ¬ os.length = nm.length by omega), amy, amf]
   . rw [alS e1, amy]
 simp only [ams, anE, amQ] at hp
 have hdd : sL nm.length bs.length is os ws = (is ++ os ++ ws.map (·.dl)).all fun l => l.all (Jx bs.length) := by
   unfold sL
   rw [alV (show is.length = nm.length by omega), alV (show os.length = nm.length by omega)]
   rfl
 rw [hdd] at hr
 have im : ∀ l : List (List qI), D.cM (l.map bM) = true := fun l => c5 iO l
 have hil : (is.map bM).length = is.length := alR ..
 have hol : (os.map bM).length = os.length := alR ..
 refine lG E.g E.pI (fun j δ => ∃ o4, qS (fun l => l.all (Jx bs.length)) (is ++ os ++ ws.map (·.dl)) j /\ δ = [some (.sh (prV bs nm ks es ss is os ws)), some (.sh (.int bs.length)), some (.sh (.int ks.length)), some (.lst (((bs.map (·.1)).map L3.D.str).map T.sh)), o4])
   (j9 (Gj (ds := (is ++ os ++ ws.map (·.dl)).map bM) (aF (xU (ds := (is ++ os).map bM) (Qm := (ws.map (·.dl)).map bM) (aQ (aF (xU (aU (aJ E.bJ) (ah ai) (aD (j := 5) rfl)) (aU (aJ E.bJ) (ah ai) (aD (j := 6) rfl)) (im is) (im os) (amo (bE (by omega)))) (by rw [← amk]))) (aQ (aF (i7 (p := fun _ => true) (g := fun d => T.sh (afz d)) (cF .nil (by decide +kernel)) E.g.calm (j9 (Gb (v_ E.bJ.1) (ah ai) (aD (j := 7) rfl))) (.inr rfl) (fun C s0 H0 f0 b' d hd => ?ac6) (amo (bE (by rw [alR]; omega)))) ?ac7)) (im _) (im _) (amo (bE (by simp; omega)))) (by rw [← amk])))) ⟨_, .zero, rfl⟩ (fun j δ ⟨_, _, e⟩ => by subst e; exact alY rfl) ?turn ?fin
 case ac6 =>
   obtain ⟨w, hw, rfl⟩ := amn.mp hd
   exact ⟨rfl, fun _ => cS (aP (ah (v_ (gi (i := 0) rfl (by decide +kernel)))) (ah ai) (aD (j := 3) rfl)) (iO w.dl)⟩
 case ac7 =>
   rw [ck, al5, al5, al5]
   rfl
 case turn =>
   rintro j d δ hj ⟨o4, hU, rfl⟩
   obtain ⟨l, hlj, rfl⟩ : ∃ l, (is ++ os ++ ws.map (·.dl))[j]? = some l /\ bM l = d := by rw [aml] at hj; exact amv.mp hj
   have hlm := amr hlj
   have hll := hdl l hlm
   refine bO (cN (eG (aF (Dj (l := l.map (Jx bs.length)) E.g E.DL (aQ (aF (i7 (p := fun _ => true) (g := fun d => T.sh (.bl (dgJ bs.length d))) (cF (.cons E.bw.1 (.inl E.qY) .nil) (by decide +kernel)) E.g.calm (Gf (v_ (d := .tup (l.map Dw)) E.pI.1)) (.inr rfl) (fun C s0 H0 f0 b' d hd => ?ac8) (amo (bE (by rw [alR]; omega)))) ?aiW)) E.DK) (t2 := .sh (.bl (l.all (Jx bs.length)))) (congrArg (fun z => T.sh (.bl z)) (by rw [anC]; rfl))))) (fun hp => ?_) (fun hp => az (az ⟨_, hU.next hlj (E6 hp), rfl⟩))
   case ac8 =>
     obtain ⟨q, hq, rfl⟩ := amn.mp hd
     exact ⟨rfl, fun _ => aF (c_ (q, bs.length) (lU E.J3) (kg (by decide +kernel)) (aq (ah (v_ (gi (i := 0) rfl (by decide +kernel)))) (aq (ah (v_ (g7 (i := 1) rfl (by decide +kernel)))) aI)) (hs.d1 l hlm q hq) rfl) (by show _ = T.sh (.bl (dgJ bs.length (Dw q))); rw [WW]; rfl)⟩
   case aiW =>
     rw [ck, al5, al5, al5]
     refine congrArg T.lst (amP fun q _ => ?_)
     show T.sh (.bl (dgJ bs.length (Dw q))) = T.sh (.bl (Jx bs.length q))
     rw [WW]
   refine aN ai ?_
   rw [hr, alW]
   exact GC (p := fun l : List qI => l.all (Jx bs.length)) hlm (Dv hp)
 case fin =>
   rintro δ ⟨o4, hU, rfl⟩
   rw [alR] at hU
   rw [alT (show ¬ ((is ++ os ++ ws.map (·.dl)).all fun l => l.all (Jx bs.length)) = false by rw [hU.all]; decide)] at hr
   refine bO (cN (eG (aF (c_ (ws, bs.length, ks.length) E.J2 E.zZ (aq (aU (aJ E.bJ) (ah ai) (aD (j := 7) rfl)) (aq (aJ E.bw) (aq (aJ E.cA) aI))) (by dsimp only [jv]; exact fun w hw => ⟨hs.w2 w hw, hal w hw⟩) rfl) (t2 := .sh (.bl (Cv nm.length bs.length 0 ws))) (by rw [hnk]; rfl)))) (fun hp => ?_) (fun hp => az ?_)
   . exact aN ai (by rw [hr, alW (Dv hp)])
   . exact aN (dh (ah ai)) (by rw [hr, alT (Wn hp)])
theorem ou : oW (aA QX) ([("parts", aE), ("many", .cell), ("moods", aE), ("heads", aE), ("deeds", aE), ("len", aC), ("_law_good_tree", aC), ("set", aC), ("all", aC), ("_law_good_ways", aC)]) = true := by decide +kernel
theorem WY : aT ["parts", "many", "moods", "heads", "deeds"] ["parts"] (aA QX) := bf
noncomputable abbrev CP : Stmt := top 22
noncomputable abbrev GU : Type := List Str × List Int × List Int × Int
noncomputable def qx : GU -> List L3.D := fun (ks, es, ss, m) => [gT ks es ss, .int m]
noncomputable def nV : GU -> Prop := fun (ks, es, ss, m) => zT es m /\ 0 <= m /\ m < es.length /\ es.length <= 1000
noncomputable def qy : GU -> T := fun (ks, es, ss, m) => (.lst (((qd es m).map .int).map T.sh) : T)
structure Zn (X : Cx) (CL : Str -> Addr) : Prop extends c7 X where
 cT : Ln X 0 "tree"
 jj : Ln X 1 "mood"
 GV : Ln X 2 "found"
 pR : Ln X 3 "elder"
 dW : zF X.K (CL "Tree")
 bD : bq X.K (CL "Tree") "elders"
theorem Zo {X : Cx} {CL : Str -> Addr} {b : Bx} (E : Zn X CL) (ks es ss m) (h : nV (ks, es, ss, m)) :
   aG X CL b CP ["tree", "mood", "found", "elder"] (qx (ks, es, ss, m)) (qy (ks, es, ss, m)) := by
 dsimp only [aG, nV, qx, qy] at h ⊢
 obtain ⟨ht, h0, h1, hlen⟩ := h
 refine aY E.g E.GV (e9 dU (amu _)) ?_
 refine aY E.g E.pR (cS (aU (c6 E.dW E.bD (aJ E.cT) eK) (aJ E.jj) (eX h0 h1)) rfl) ?_
 have hm := ht.at h0 h1 (Int.le_refl _)
 refine Qn E.g (fun n δ => ∃ (k : Int) (l : List Int), δ = [some (.sh (gT ks es ss)), some (.sh (.int m)), some (.lst ((l.map .int).map T.sh)), some (.sh (.int k))] /\ -1 <= k /\ k < n /\ k < m /\ l ++ E3 n es k = qd es m /\ l.length + n <= es.length + 1) (es.length + 1)
   ⟨es.getD m.toNat 0, [], rfl, hm.1, by omega, by omega, rfl, by simp⟩ ?_
 rintro n δ ⟨k, l, rfl, k0, k1, k2, k3, k4⟩
 refine ⟨_, _, (gB (aJ E.pR) (ah (dh (ah ai)))).1, fun hp => ?_, fun hp => ?_⟩
 . have hk : ¬ k = -1 := by simpa using hp
   have ha := ht.at (k := k) (by omega) (by omega) (by omega)
   cases n with
   | zero => omega
   | succ n =>
     refine Bc E.GV.1 rfl (v_ E.pR.1) rfl (by simp; omega) ?_
     refine aY E.g E.pR (cS (aU (c6 E.dW E.bD (aJ E.cT) eK) (aJ E.pR) (eX (by omega) (by omega))) rfl) ?_
     refine az ⟨n, Nat.lt_succ_self _, es.getD k.toNat 0, l ++ [k], ?_, ha.1, by omega, by omega, ?_, by simp; omega⟩
     . show [_, _, some (T.lst (((l.map D.int).map T.sh) ++ [T.sh (.int k)])), _] = _
       simp
     . rw [← k3, E3, alT hk, alZ]
       rfl
 . have hk : k = -1 := by simpa using hp
   subst hk
   have e : l = qd es m := by
     rw [← k3]
     cases n with
     | zero => rw [E3, amH]
     | succ n => rw [E3, alW rfl, amH]
   subst e
   exact aN (vM E.GV.1) rfl
theorem ym : oW (aA CP) ([("tree", aE), ("mood", aE), ("found", aE), ("elder", aE)]) = true := by decide +kernel
theorem J4 : aT ["tree", "mood", "found", "elder"] ["tree", "mood"] (aA CP) := bf
noncomputable abbrev CQ : Stmt := top 23
noncomputable abbrev GX : Type := List Str × List Int × List Int × Int
noncomputable def uO : GX -> List L3.D := fun (ks, es, ss, m) => [gT ks es ss, .int m]
noncomputable def qz : GX -> Prop := fun (ks, es, ss, m) => zT es m /\ 0 <= m /\ m < es.length /\ es.length <= 1000
noncomputable def uP : GX -> T := fun (ks, es, ss, m) => (.sh (.int ((qd es m).length : Nat)) : T)
structure Zq (X : Cx) (CL : Str -> Addr) : Prop extends c7 X where
 cT : Ln X 0 "tree"
 jj : Ln X 1 "mood"
 b6 : Gl X "len"
 yo : Gl X "above"
 b7 : X.mg "len" = none
 GY : Fc X CL "above" 1 2 qx nV qy
theorem Zr {X : Cx} {CL : Str -> Addr} {b : Bx} (E : Zq X CL) (ks es ss m) (h : qz (ks, es, ss, m)) :
   aG X CL b CQ ["tree", "mood"] (uO (ks, es, ss, m)) (uP (ks, es, ss, m)) := by
 dsimp only [aG, qz, uO, uP] at h ⊢
 have hl : ((qd es m).map L3.D.int).length = (qd es m).length := by simp
 exact aN (cH hl E.b7 (aQ (c_ (ks, es, ss, m) E.GY E.yo (aq (aJ E.cT) (aq (aJ E.jj) aI)) h (by show (T.lst _).clean = true; rw [qu]; exact Bd _))) E.b6) rfl
theorem yp : oW (aA CQ) ([("tree", aE), ("mood", aE), ("len", aC), ("above", aC)]) = true := by decide +kernel
theorem J5 : aT ["tree", "mood"] ["tree", "mood"] (aA CQ) := bf
noncomputable abbrev gH : Stmt := top 31
noncomputable abbrev jF : Type := List Str × List Int × List Int
noncomputable def fF : jF -> List L3.D := fun (ks, es, ss) => [gT ks es ss]
noncomputable def dO : jF -> Prop := fun (ks, es, ss) => 1 <= es.length /\ es.length <= 900
noncomputable def fG : jF -> T := fun (ks, es, ss) => (.sh (.bl (vq es (es.length - 1))) : T)
structure vY (X : Cx) (CL : Str -> Addr) : Prop extends c7 X where
 cT : Ln X 0 "tree"
 jj : Ln X 1 "mood"
 WZ : Ln X 2 "line"
 eo : Gl X "range"
 b6 : Gl X "len"
 yo : Gl X "above"
 GZ : Gl X "depth"
 SR : Gl X "DEEPEST"
 er : X.mg "range" = none
 b7 : X.mg "len" = none
 GY : Fc X CL "above" 1 2 qx nV qy
 Zt : Fc X CL "depth" 2 2 uO qz uP
 SV : ∃ u, X.mg "DEEPEST" = some (.int 12 u)
 dW : zF X.K (CL "Tree")
 bD : bq X.K (CL "Tree") "elders"
theorem vZ {X : Cx} {CL : Str -> Addr} {b : Bx} (E : vY X CL) (ks es ss) (h : dO (ks, es, ss)) :
   aG X CL b gH ["tree", "mood", "line"] (fF (ks, es, ss)) (fG (ks, es, ss)) := by
 dsimp only [aG, dO, fF, fG] at h ⊢
 obtain ⟨h1, h2⟩ := h
 refine bO (gB (i := es.getD 0 0) (aU (c6 E.dW E.bD (aJ E.cT) eK) (ah ai) (eX (by omega) (by omega))) (ah (dh (ah ai)))).1 (fun hq => ?_) (fun hq => az ?_)
 . have e : vq es 0 = false := by
     show decide (es.getD 0 0 = -1) = false
     have hq : (!decide (es.getD 0 0 = -1)) = true := hq
     cases hd : decide (es.getD 0 0 = -1) with
     | false => rfl
     | true => rw [hd] at hq; cases hq
   exact aN cG (by rw [sM (amu _) e])
 have e0 : vq es 0 = true := by
   show decide (es.getD 0 0 = -1) = true
   have hq : (!decide (es.getD 0 0 = -1)) = false := hq
   cases hd : decide (es.getD 0 0 = -1) with
   | false => rw [hd] at hq; cases hq
   | true => rfl
 refine lG E.g E.jj (fun j δ => ∃ o1 o2, vq es j = true /\ δ = [some (.sh (gT ks es ss)), o1, o2])
   (Fq E.er (ah ai) (ah (cH (alR ..) E.b7 (c6 E.dW E.bD (aJ E.cT) eK) E.b6)) (by omega) E.eo) ⟨_, _, e0, rfl⟩ (fun j δ ⟨_, _, _, e⟩ => by subst e; exact alY rfl) ?turn ?fin
 case turn =>
   rintro j d δ hj ⟨o1, o2, hE, rfl⟩
   obtain ⟨rfl, vQ⟩ := mz hj
   have vQ : j + 1 < es.length := by simp at vQ; omega
   have hT := MB (by omega) hE
   have ha := hT.at (k := (j : Int)) (by omega) (by omega) (by omega)
   have hcl : (qd es (j : Int)).length <= es.length + 1 := Qw _ _ _
   have ej : (1 + (j : Int)) - 1 = (j : Int) := by omega
   refine aY E.g E.WZ (aF (xU (ds := [.int (j : Int)]) (Qm := (qd es (j : Int)).map .int) (aQ (ds := [.int (j : Int)]) (aF (e9 (bC (gA (aJ E.jj) (ah ai)) dU) (aH rfl)) (by rw [ej]; rfl))) (aQ (aF (c_ (ks, es, ss, (j : Int)) E.GY E.yo (aq (aJ E.cT) (aq (Jf (ah (gA (aJ E.jj) (ah ai))) (congrArg L3.D.int ej)) aI)) (by dsimp only [nV]; exact ⟨hT, by omega, by omega, by omega⟩) (qR _)) rfl)) rfl (jm _) (Nat.le_of_lt (bE (by simp; omega)))) (t2 := .lst ((((j : Int) :: qd es (j : Int)).map .int).map T.sh)) rfl) ?_
   have en : (1 + (j : Int)).toNat = j + 1 := by omega
   have e1j : (1 + (j : Int)) = (j : Int) + 1 := by omega
   have eB : vq es (j + 1) = (decide (es.getD (1 + (j : Int)).toNat 0 ∈ (j : Int) :: qd es (j : Int)) && decide ((qd es (1 + (j : Int))).length <= 12)) := by
     rw [vq, hE, en, e1j]
     rfl
   refine bO (gD (fu (q := decide (((qd es (1 + (j : Int))).length : Int) > 12)) (YQ (i := es.getD (1 + (j : Int)).toNat 0) (aU (c6 E.dW E.bD (aJ E.cT) eK) (aJ E.jj) (eX (by omega) (by omega))) (vL E.WZ.1) rfl rfl).1 (fun hn => gE (Fp (ah (aF (c_ (ks, es, ss, 1 + (j : Int)) E.Zt E.GZ (aq (aJ E.cT) (aq (aJ E.jj) aI)) ?pd rfl) (t2 := .sh (.int ((qd es (1 + (j : Int))).length : Nat))) rfl)) (ah (jn E.SV E.SR))).1))) (fun hq => ?_) (fun hq => az (az ⟨_, _, ?_, rfl⟩))
   case pd =>
     dsimp only [qz]
     refine ⟨fun k hk hm => ?_, by omega, by omega, by omega⟩
     by_cases e : k = j + 1
     . subst e
       have hn : (!decide (es.getD (1 + (j : Int)).toNat 0 ∈ (j : Int) :: qd es (j : Int))) = false := hn
       have Qz : es.getD (1 + (j : Int)).toNat 0 ∈ (j : Int) :: qd es (j : Int) := al2 (E6 hn)
       rw [en] at Qz
       rcases al6.mp Qz with z | z
       . omega
       . have := hT.Cw (es.length + 1) ha.1 (by omega) (by omega) _ z
         omega
     . exact hT k hk (by omega)
   . refine aN cG ?_
     have hq : (!decide (es.getD (1 + (j : Int)).toNat 0 ∈ (j : Int) :: qd es (j : Int)) || decide (((qd es (1 + (j : Int))).length : Int) > 12)) = true := hq
     have e : vq es (j + 1) = false := by
       rw [eB]
       cases hd : decide (es.getD (1 + (j : Int)).toNat 0 ∈ (j : Int) :: qd es (j : Int)) with
       | false => rfl
       | true =>
         rw [hd] at hq
         have : ((qd es (1 + (j : Int))).length : Int) > 12 := al2 hq
         rw [alS (by omega)]
         rfl
     rw [sM (j := es.length - 1) (by omega) e]
   . have hq : (!decide (es.getD (1 + (j : Int)).toNat 0 ∈ (j : Int) :: qd es (j : Int)) || decide (((qd es (1 + (j : Int))).length : Int) > 12)) = false := hq
     rw [ams] at hq
     rw [eB, show decide (es.getD (1 + (j : Int)).toNat 0 ∈ (j : Int) :: qd es (j : Int)) = true from E6 hq.1, alV (by have := amd hq.2; omega)]
     rfl
 case fin =>
   rintro δ ⟨o1, o2, hE, rfl⟩
   have e : (bZ 1 (((es.length : Nat) : Int) - 1).toNat).length = es.length - 1 := by simp [bZ]
   have hE2 : vq es (es.length - 1) = true := by
     first
       | (rw [e] at hE; exact hE)
       | (simp [bZ] at hE; exact hE)
   exact aN cG (by rw [hE2])
theorem bU : oW (aA gH) ([("tree", aE), ("mood", aE), ("line", aE), ("range", aC), ("len", aC), ("above", aC), ("depth", aC), ("DEEPEST", aC)]) = true := by decide +kernel
theorem m9 : aT ["tree", "mood", "line"] ["tree"] (aA gH) := bf
noncomputable abbrev ig : Stmt := top 32
noncomputable abbrev kC : Type := List Str × List Int × List Int
noncomputable def fY : kC -> List L3.D := fun (ks, es, ss) => [gT ks es ss]
noncomputable def dZ : kC -> Prop := fun (ks, es, ss) => ks.length <= 900 /\ es.length <= 900
noncomputable def fZ : kC -> T := fun (ks, es, ss) => (.sh (.bl (zS ks es)) : T)
structure yq (X : Cx) (CL : Str -> Addr) : Prop extends c7 X where
 cT : Ln X 0 "tree"
 rq : Ln X 1 "with_inner"
 pR : Ln X 2 "elder"
 jj : Ln X 3 "mood"
 dB : Ln X 4 "kind"
 tL : Gl X "enumerate"
 Zu : Gl X "KINDS"
 tM : X.mg "enumerate" = none
 G0 : GT X "KINDS" ["leaf", "one", "all"]
 dW : zF X.K (CL "Tree")
 bD : bq X.K (CL "Tree") "elders"
 gI : bq X.K (CL "Tree") "kinds"
theorem yr {X : Cx} {CL : Str -> Addr} {b : Bx} (E : yq X CL) (ks es ss) (h : dZ (ks, es, ss)) :
   aG X CL b ig ["tree", "with_inner", "elder", "mood", "kind"] (fY (ks, es, ss)) (fZ (ks, es, ss)) := by
 dsimp only [aG, dZ, fY, fZ] at h ⊢
 obtain ⟨h1, h2⟩ := h
 refine aY E.g E.rq YZ ?_
 refine lG E.g E.pR (fun j δ => ∃ o2 o3 o4, δ = [some (.sh (gT ks es ss)), some (.ve (UL (adds (es.take j)))), o2, o3, o4])
   (j9 (C8 E.dW E.bD (v_ E.cT.1) eK)) ⟨_, _, _, rfl⟩ (fun j δ ⟨_, _, _, e⟩ => by subst e; exact alY rfl) ?turn ?fin
 case turn =>
   rintro j d δ hj ⟨o2, o3, o4, rfl⟩
   obtain ⟨x, rfl, _, _, vQ, _, htk⟩ := acs hj
   have hl := (zR (es.take j) []).1
   have hl2 : (es.take j).length <= 900 := by rw [List.length_take]; omega
   have hkl : (UL (adds (es.take j))).length <= 1000000 := by unfold UL adds; rw [alR]; simp at hl; omega
   refine acB (.inl x) E.u E.rq.1 cG (aJ E.pR) rfl hkl (az ?_)
   rw [Y8, ← Sv, ← htk]
   exact ⟨_, _, _, rfl⟩
 case fin =>
 rintro δ ⟨o2, o3, o4, rfl⟩
 rw [alR, List.take_length]
 have Qz : ∀ x : Int, decide (x ∈ adds es) = decide (x ∈ es) := fun x => amY.mpr (((zR es []).2 x).trans (by simp))
 refine VQ E.g (Qq E.g.nd E.g.calm E.jj E.dB) (fun j δ => ∃ o2 o3 o4, qS (Qy ks es) (List.range ks.length) j /\ δ = [some (.sh (gT ks es ss)), some (.ve (UL (adds es))), o2, o3, o4])
   (Jj (f := L3.D.str) (l := ks) Str.empty E.tM (C8 E.dW E.gI (v_ E.cT.1) vO) E.tL) ⟨_, _, _, .zero, rfl⟩ (fun j δ ⟨_, _, _, _, e⟩ => by subst e; intro i hi; simp only [al6, amC, or_false] at hi; rcases hi with rfl | rfl <;> exact alY rfl) ?DJ ?fin2
 case DJ =>
   rintro j d δ hj ⟨o2, o3, o4, hU, rfl⟩
   obtain ⟨i, Zj, rfl⟩ : ∃ i, (List.range ks.length)[j]? = some i /\ _ = d := by rw [aml] at hj; exact amv.mp hj
   have him : i ∈ List.range ks.length := amr Zj
   have hil : i < ks.length := amI.mp him
   refine ⟨_, rfl, ?_⟩
   refine bO (gD (fu (oZ (l := qT) (aJ E.dB) (ah (xX E.G0 E.Zu)) rfl rfl).1 (fun _ => gE (aeZ (w1 := .bl (decide (ks.getD i Str.empty = "leaf"))) (w2 := .bl (decide ((i : Int) ∈ es))) (ah (gC (aJ E.dB) (ah bR)).2) (ah (aF (acF (.inl (i : Int)) E.u (aJ E.jj) (vE E.rq.1 rfl (by rw [T.iY])) rfl) (t2 := .sh (.bl (decide ((i : Int) ∈ es)))) (congrArg (fun z => T.sh (.bl z)) ((Y9 _ _).trans (Qz _))))) rfl rfl rfl).1))) (fun hp => ?_) (fun hp => az (az ⟨_, _, _, hU.next Zj ?_, rfl⟩))
   . refine aN cG ?_
     unfold zS
     rw [GC (p := Qy ks es) him ?_]
     unfold Qy
     generalize decide (ks.getD i Str.empty ∈ qT) = b1 at hp ⊢
     generalize decide (ks.getD i Str.empty = "leaf") = b2 at hp ⊢
     generalize decide ((i : Int) ∈ es) = b3 at hp ⊢
     revert hp
     cases b1 <;> cases b2 <;> cases b3 <;> first | (intro _; rfl) | (intro hp; simp at hp)
   . unfold Qy
     generalize decide (ks.getD i Str.empty ∈ qT) = b1 at hp ⊢
     generalize decide (ks.getD i Str.empty = "leaf") = b2 at hp ⊢
     generalize decide ((i : Int) ∈ es) = b3 at hp ⊢
     revert hp
     cases b1 <;> cases b2 <;> cases b3 <;> first | (intro _; rfl) | (intro hp; simp at hp)
 case fin2 =>
   rintro δ ⟨o2, o3, o4, hU, rfl⟩
   refine aN cG ?_
   unfold zS
   rw [qS.all (by simpa using hU)]
theorem cU : oW (aA ig) ([("tree", aE), ("with_inner", aE), ("elder", aE), ("mood", aE), ("kind", aE), ("enumerate", aC), ("KINDS", aC)]) = true := by decide +kernel
theorem ow : aT ["tree", "with_inner", "elder", "mood", "kind"] ["tree"] (aA ig) := bf
noncomputable abbrev rz : Stmt := top 42
noncomputable abbrev v5 : Type := Int × List L3.D
noncomputable def fH : v5 -> List L3.D := fun (i, ds) => [.int i, .lst ds]
noncomputable def fJ : v5 -> Prop := fun (i, ds) => True
noncomputable def fK : v5 -> T := fun (i, ds) => (.sh (.bl (sJ i ds.length)) : T)
structure MZ (X : Cx) (CL : Str -> Addr) : Prop extends c7 X where
 qw : Ln X 0 "number"
 af3 : Ln X 1 "row"
 b6 : Gl X "len"
 b7 : X.mg "len" = none
theorem M0 {X : Cx} {CL : Str -> Addr} {b : Bx} (E : MZ X CL) (i ds) (h : fJ (i, ds)) :
   aG X CL b rz ["number", "row"] (fH (i, ds)) (fK (i, ds)) := by
 dsimp only [aG, fJ, fH, fK] at h ⊢
 exact aN (aaJ aar PV (ah ai) (aJ E.qw) (ah (cH rfl E.b7 (aJ E.af3) E.b6)) (by with_unfolding_all rfl)).2 rfl
theorem tN : oW (aA rz) ([("number", aE), ("row", aE), ("len", aC)]) = true := by decide +kernel
theorem Br : aT ["number", "row"] ["number", "row"] (aA rz) := bf
noncomputable abbrev gJ : Stmt := top 33
noncomputable abbrev jG : Type := List Str × List Int × List Int
noncomputable def fL : jG -> List L3.D := fun (ks, es, ss) => [gT ks es ss]
noncomputable def dP : jG -> Prop := fun (ks, es, ss) => ks.length = es.length /\ ss.length = es.length /\ es.length <= 900
noncomputable def fM : jG -> T := fun (ks, es, ss) => (.sh (.bl (x8 ks es ss)) : T)
structure v7 (X : Cx) (CL : Str -> Addr) : Prop extends c7 X where
 cT : Ln X 0 "tree"
 jj : Ln X 1 "mood"
 lV : Ln X 2 "start"
 tL : Gl X "enumerate"
 dG : Gl X "is_place"
 tM : X.mg "enumerate" = none
 eY : Fc X CL "is_place" 1 2 fH fJ fK
 dW : zF X.K (CL "Tree")
 jw : bq X.K (CL "Tree") "starts"
 gI : bq X.K (CL "Tree") "kinds"
 bD : bq X.K (CL "Tree") "elders"
theorem v8 {X : Cx} {CL : Str -> Addr} {b : Bx} (E : v7 X CL) (ks es ss) (h : dP (ks, es, ss)) :
   aG X CL b gJ ["tree", "mood", "start"] (fL (ks, es, ss)) (fM (ks, es, ss)) := by
 dsimp only [aG, dP, fL, fM] at h ⊢
 obtain ⟨h1, h2, h3⟩ := h
 refine VQ E.g (Qq E.g.nd E.g.calm E.jj E.lV) (fun j δ => ∃ o1 o2, qS (Il ks es ss) (List.range ss.length) j /\ δ = [some (.sh (gT ks es ss)), o1, o2])
   (Jj (f := L3.D.int) (l := ss) 0 E.tM (C8 E.dW E.jw (v_ E.cT.1) Bk) E.tL) ⟨_, _, .zero, rfl⟩ (fun j δ ⟨_, _, _, e⟩ => by subst e; intro i hi; simp only [al6, amC, or_false] at hi; rcases hi with rfl | rfl <;> exact alY rfl) ?turn ?fin
 case turn =>
   rintro j d δ hj ⟨o1, o2, hU, rfl⟩
   obtain ⟨i, Zj, rfl⟩ : ∃ i, (List.range ss.length)[j]? = some i /\ _ = d := by rw [aml] at hj; exact amv.mp hj
   have him : i ∈ List.range ss.length := amr Zj
   have hil : i < ss.length := amI.mp him
   refine ⟨_, rfl, ?_⟩
   have hk : BD (ks.map L3.D.str) (i : Int) = some (.str (ks.getD i Str.empty)) := (sH Str.empty (by omega) (by omega)).trans (by rw [amR])
   have bad : Il ks es ss i = false -> (T.sh (.bl false)) = T.sh (.bl (x8 ks es ss)) := fun e => by
     unfold x8
     rw [GC (p := Il ks es ss) him e]
   refine bO (vI (aU (c6 E.dW E.gI (aJ E.cT) vO) (aJ E.jj) hk) (ah bR)).1 (fun hp => ?_) (fun hp => ?_)
   . have e1 : ¬ ks.getD i Str.empty = "one" := by simpa using hp
     refine bO (gB (aJ E.lV) (ah (dh (ah ai)))).1 (fun hp => ?_) (fun hp => az (az (az ⟨_, _, hU.next Zj ?_, rfl⟩)))
     . refine aN cG (bad ?_)
       unfold Il
       rw [alT e1]
       simpa using hp
     . unfold Il
       rw [alT e1]
       simpa using hp
   . have e1 : ks.getD i Str.empty = "one" := by simpa using hp
     by_cases e2 : sJ (ss.getD i 0) es.length = true
     . have e4 := e2
       unfold sJ at e4
       rw [ame] at e4
       have p0 := al2 e4.1
       have p1 := al2 e4.2
       have eL : sJ (ss.getD i 0) (es.map L3.D.int).length = true := by rw [alR]; exact e2
       refine bO (gD (fu (cN (eG (aF (c_ (ss.getD i 0, es.map L3.D.int) E.eY E.dG (aq (aJ E.lV) (aq (c6 E.dW E.bD (aJ E.cT) eK) aI)) trivial rfl) (t2 := .sh (.bl true)) (congrArg (fun z => T.sh (.bl z)) eL)))) (fun _ => gE (gB (aU (c6 E.dW E.bD (aJ E.cT) eK) (aJ E.lV) (eX p0 p1)) (aJ E.jj)).1))) (fun hp => ?_) (fun hp => az (az (az ⟨_, _, hU.next Zj ?_, rfl⟩)))
       . refine aN cG (bad ?_)
         unfold Il
         rw [alW e1, e2]
         simpa using hp
       . unfold Il
         rw [alW e1, e2]
         simpa using hp
     . have e2 : sJ (ss.getD i 0) es.length = false := by simpa using e2
       have eL : sJ (ss.getD i 0) (es.map L3.D.int).length = false := by rw [alR]; exact e2
       refine bO (gD (fu (q := true) (cN (eG (aF (c_ (ss.getD i 0, es.map L3.D.int) E.eY E.dG (aq (aJ E.lV) (aq (c6 E.dW E.bD (aJ E.cT) eK) aI)) trivial rfl) (t2 := .sh (.bl false)) (congrArg (fun z => T.sh (.bl z)) eL)))) (fun hz => by cases hz))) (fun hp => ?_) (fun hp => by cases hp)
       refine aN cG (bad ?_)
       unfold Il
       rw [alW e1, e2]
       rfl
 case fin =>
   rintro δ ⟨o1, o2, hU, rfl⟩
   refine aN cG ?_
   unfold x8
   rw [qS.all (by simpa using hU)]
theorem d7 : oW (aA gJ) ([("tree", aE), ("mood", aE), ("start", aE), ("enumerate", aC), ("is_place", aC)]) = true := by decide +kernel
theorem ng : aT ["tree", "mood", "start"] ["tree"] (aA gJ) := bf
noncomputable abbrev jz : Stmt := top 30
noncomputable abbrev mO : Type := List Str × List Int × List Int × List L3.D
noncomputable def iu : mO -> List L3.D := fun (ks, es, ss, nm) => [gT ks es ss, .lst nm]
noncomputable def iy : mO -> Prop := fun (ks, es, ss, nm) => ks.length <= 900
noncomputable def iz : mO -> T := fun (ks, es, ss, nm) => (.sh (.bl (Jy ks es ss nm.length)) : T)
structure BH (X : Cx) (CL : Str -> Addr) : Prop extends c7 X where
 cT : Ln X 0 "tree"
 jy : Ln X 1 "names"
 bw : Ln X 2 "many"
 b6 : Gl X "len"
 jH : Gl X "are_elders_right"
 kD : Gl X "are_kinds_right"
 jI : Gl X "are_starts_right"
 b7 : X.mg "len" = none
 v9 : Fc X CL "are_elders_right" 3 1 fF dO fG
 yt : Fc X CL "are_kinds_right" 1 1 fY dZ fZ
 wc : Fc X CL "are_starts_right" 2 1 fL dP fM
 dW : zF X.K (CL "Tree")
 gI : bq X.K (CL "Tree") "kinds"
 bD : bq X.K (CL "Tree") "elders"
 jw : bq X.K (CL "Tree") "starts"
theorem BI {X : Cx} {CL : Str -> Addr} {b : Bx} (E : BH X CL) (ks es ss nm) (h : iy (ks, es, ss, nm)) :
   aG X CL b jz ["tree", "names", "many"] (iu (ks, es, ss, nm)) (iz (ks, es, ss, nm)) := by
 dsimp only [aG, iy, iu, iz] at h ⊢
 refine aY E.g E.bw (cH (n := ks.length) (alR ..) E.b7 (c6 E.dW E.gI (aJ E.cT) vO) E.b6) ?_
 refine bO (gD (fu (cj (aJ E.bw) (ah ai)).1 (fun _ => fu (gB (ah (cH (n := es.length) (alR ..) E.b7 (c6 E.dW E.bD (aJ E.cT) eK) E.b6)) (aJ E.bw)).1 (fun _ => fu (gB (ah (cH (n := ss.length) (alR ..) E.b7 (c6 E.dW E.jw (aJ E.cT) Bk) E.b6)) (aJ E.bw)).1 (fun _ => gE (gB (ah (cH (n := nm.length) rfl E.b7 (aJ E.jy) E.b6)) (aJ E.bw)).1))))) (fun hp => ?_) (fun hp => az ?_)
 . refine aN cG ?_
   simp only [ans, anI, amQ, am4] at hp
   unfold Jy
   by_cases h1 : 0 < ks.length
   . by_cases h2 : es.length = ks.length
     . by_cases h3 : ss.length = ks.length
       . by_cases h4 : nm.length = ks.length
         . exfalso; omega
         . rw [alS h4, amy, amf, amf, amf]
       . rw [alS h3, amy, amf, amf]
     . rw [alS h2, amy, amf]
   . rw [alS h1, amy]
 simp only [ams, anE, amQ, am4] at hp
 have h2 : es.length = ks.length := by omega
 have h3 : ss.length = ks.length := by omega
 refine aN (jD (aF (c_ (ks, es, ss) E.v9 E.jH (aq (aJ E.cT) aI) (by dsimp only [dO]; omega) rfl) (t2 := .sh (.bl (vq es (es.length - 1)))) rfl) (fun _ => jD (aF (c_ (ks, es, ss) E.yt E.kD (aq (aJ E.cT) aI) (by dsimp only [dZ]; omega) rfl) (t2 := .sh (.bl (zS ks es))) rfl) (fun _ => j7 (aF (c_ (ks, es, ss) E.wc E.jI (aq (aJ E.cT) aI) (by dsimp only [dP]; omega) rfl) (t2 := .sh (.bl (x8 ks es ss))) rfl)))) ?_
 unfold Jy
 rw [alV (show 0 < ks.length by omega), alV h2, alV h3, alV (show nm.length = ks.length by omega)]
 rfl
theorem dH : oW (aA jz) ([("tree", aE), ("names", aE), ("many", aE), ("len", aC), ("are_elders_right", aC), ("are_kinds_right", aC), ("are_starts_right", aC)]) = true := by decide +kernel
theorem qA : aT ["tree", "names", "many"] ["tree", "names"] (aA jz) := bf
noncomputable abbrev uQ : Stmt := top 12
noncomputable abbrev z0 : Type := Str
noncomputable def j3 : z0 -> List L3.D := fun x => [.str x]
noncomputable def j4 : z0 -> Prop := fun x => x.length <= 1000
noncomputable def j5 : z0 -> T := fun x => (.sh (.bl (cu x)) : T)
structure SW (X : Cx) (CL : Str -> Addr) : Prop extends c7 X where
 oq : Ln X 0 "text"
 DG : Ln X 1 "sign"
 b6 : Gl X "len"
 DN : Gl X "LONGEST_NAME"
 Zv : Gl X "WORDS"
 SX : Gl X "LETTERS"
 su : Gl X "LETTERS_AND_FIGURES"
 b7 : X.mg "len" = none
 DP : ∃ u, X.mg "LONGEST_NAME" = some (.int 12 u)
 G3 : GT X "WORDS" ["all", "and", "box", "call", "do", "far", "if", "in", "leaf", "near", "on", "one", "open", "out", "put", "say", "shut", "then", "to"]
 SY : ∃ u, X.mg "LETTERS" = some (.str "abcdefghijklmnopqrstuvwxyz" u)
 sy : ∃ u, X.mg "LETTERS_AND_FIGURES" = some (.str "abcdefghijklmnopqrstuvwxyz0123456789" u)
theorem S6 {X : Cx} {CL : Str -> Addr} {b : Bx} (E : SW X CL) (x) (h : j4 x) :
   aG X CL b uQ ["text", "sign"] (j3 x) (j5 x) := by
 dsimp only [aG, j4, j3, j5] at h ⊢
 have hz : x.length <= sizeLine := amo (bE h)
 refine bO (gD (fu (gC (aJ E.oq) (ah bR)).1 (fun hb => (fu (Fp (ah (Qf E.b7 (aJ E.oq) (hz) E.b6)) (ah (jn E.DP E.DN))).1 (fun hb2 => (gE (Gi (aJ E.oq) (ah (xX E.G3 E.Zv)) (rfl) rfl).1)))))) (fun hp => ?_) (fun hp => az ?_)
 . refine aN cG ?_
   have hp : (decide (x = "") || (decide ((12 : Int) < (x.length : Nat)) || decide (x ∈ pC))) = true := hp
   show T.sh _ = T.sh (.bl (cu x))
   refine congrArg (fun z => T.sh (.bl z)) ?_
   simp only [ans, amQ] at hp
   unfold cu
   rcases hp with z | z | z
   . subst z; decide +kernel
   . rw [alS (p := x.length <= 12) (by omega), amy, amf]
   . rw [alV z, Bool.not_true, amy, amf, amf]
 have hp : (decide (x = "") || (decide ((12 : Int) < (x.length : Nat)) || decide (x ∈ pC))) = false := hp
 simp only [ams, am4] at hp
 obtain ⟨h1, h2, h3⟩ := hp
 have hl1 : 1 <= x.length := by
   rcases Nat.eq_zero_or_pos x.length with z | z
   . exact absurd (GB z) h1
   . exact z
 have hll : x.cps.toList.length = x.length := by simp [Str.length]
 have hnm : cu x = (isLt (x.cps.toList.getD 0 0) && x.cps.toList.all (fun c => isLt c || qe c)) := by
   unfold cu
   rw [alV hl1, alV (show x.length <= 12 by omega), alS h3]
   rfl
 refine bO (Bj (ah (VB (aJ E.oq) (ah ai) hz (VL 0 (by omega) (by omega)))) (ah (Jk E.SY E.SX)) rfl).1 (fun hp => ?_) (fun hp => az ?_)
 . refine aN cG ?_
   rw [Dt] at hp
   have hp : (!isLt (x.cps.toList.getD 0 0)) = true := hp
   rw [anI] at hp
   show T.sh _ = T.sh (.bl (cu x))
   rw [hnm, hp]
   rfl
 rw [Dt] at hp
 have hp : (!isLt (x.cps.toList.getD 0 0)) = false := hp
 rw [anE] at hp
 refine lG E.g E.DG (fun j δ => (∃ o, δ = [some (.sh (.str x)), o]) /\ (x.cps.toList.take j).all (fun c => isLt c || qe c) = true)
   (V1 (v_ E.oq.1)) ⟨⟨_, rfl⟩, rfl⟩ (fun j δ ⟨⟨_, e⟩, _⟩ => by subst e; exact alY rfl) ?turn ?fin
 case turn =>
   rintro j d δ hj ⟨⟨o, rfl⟩, RN⟩
   obtain ⟨c, rfl, hc⟩ := Du hj
   refine bO (Bj (aJ E.DG) (ah (Jk E.sy E.su)) rfl).1 (fun hq => ?_) (fun hq => az (az ⟨⟨_, rfl⟩, ?_⟩))
   . refine aN cG ?_
     rw [GA] at hq
     have hq : (isLt c || qe c) = false := by simpa using hq
     show T.sh _ = T.sh (.bl (cu x))
     have ha : x.cps.toList.all (fun c => isLt c || qe c) = false := by
       rw [List.all_eq_false]
       exact ⟨c, amr hc, by rw [hq]; decide⟩
     rw [hnm, ha, amf]
   . rw [GA] at hq
     have hq : (!(isLt c || qe c)) = false := hq
     rw [anE] at hq
     rw [anu, hc, List.all_append, RN]
     show (true && ([c].all fun c => isLt c || qe c)) = true
     rw [amX, hq]
     rfl
 case fin =>
   rintro δ ⟨⟨o, rfl⟩, RN⟩
   refine aN cG ?_
   rw [show (jo x).length = x.cps.toList.length by simp [jo], List.take_length] at RN
   show T.sh _ = T.sh (.bl (cu x))
   rw [hnm, hp, RN]
   rfl
theorem jJ : oW (aA uQ) ([("text", aE), ("sign", aE), ("len", aC), ("LONGEST_NAME", aC), ("WORDS", aC), ("LETTERS", aC), ("LETTERS_AND_FIGURES", aC)]) = true := by decide +kernel
theorem DQ : aT ["text", "sign"] ["text"] (aA uQ) := bf
noncomputable abbrev iB : Stmt := top 34
noncomputable abbrev kE : Type := List Str
noncomputable def d8 : kE -> List L3.D := fun l => [.lst (l.map .str)]
noncomputable def bV : kE -> Prop := fun l => (∀ x ∈ l, x.length <= 1000) /\ l.length <= 1000
noncomputable def d9 : kE -> T := fun l => (.sh (.bl (sr l)) : T)
structure yu (X : Cx) (CL : Str -> Addr) : Prop extends c7 X where
 jy : Ln X 0 "names"
 DH : Ln X 1 "name"
 j6 : Gl X "is_name"
 b6 : Gl X "len"
 QZ : Gl X "set"
 nW : Fc X CL "is_name" 1 1 j3 j4 j5
 b7 : X.mg "len" = none
 Q0 : X.mg "set" = none
theorem yw {X : Cx} {CL : Str -> Addr} {b : Bx} (E : yu X CL) (l) (h : bV l) :
   aG X CL b iB ["names", "name"] (d8 l) (d9 l) := by
 dsimp only [aG, bV, d8, d9] at h ⊢
 obtain ⟨h1, h3⟩ := h
 refine lG E.g E.DH (fun j δ => ∃ o, qS cu l j /\ δ = [some (.sh (.lst (l.map .str))), o]) (j9 (v_ E.jy.1)) ⟨_, .zero, rfl⟩ (fun j δ ⟨_, _, e⟩ => by subst e; exact alY rfl) ?turn ?fin
 case turn =>
   rintro j d δ hj ⟨o, hU, rfl⟩
   obtain ⟨x, hxj, rfl⟩ : ∃ x, l[j]? = some x /\ L3.D.str x = d := by rw [aml] at hj; exact amv.mp hj
   have hx : x ∈ l := amr hxj
   refine bO (cN (eG (aF (c_ x E.nW E.j6 (aq (aJ E.DH) aI) (h1 x hx) rfl) (t2 := .sh (.bl (cu x))) rfl))) (fun hp => ?_) (fun hp => az (az ⟨_, hU.next hxj (by simpa using hp), rfl⟩))
   refine aN cG ?_
   unfold sr
   rw [GC hx (by simpa using hp)]
   rfl
 case fin =>
   rintro δ ⟨o, hU, rfl⟩
   rw [alR] at hU
   refine aN (aF (cj (ah (vN E.g E.b7 E.Q0 (aJ E.jy) h3 E.b6 E.QZ)) (ah (cH (alR ..) E.b7 (aJ E.jy) E.b6))).2 (t2 := .sh (.bl (sr l))) (congrArg (fun z => T.sh (.bl z)) ?_)) rfl
   unfold sr
   rw [hU.all, am9]
   refine amY.mpr ?_
   rw [← Mx]
   omega
theorem eZ : oW (aA iB) ([("names", aE), ("name", aE), ("is_name", aC), ("len", aC), ("set", aC)]) = true := by decide +kernel
theorem oz : aT ["names", "name"] ["names"] (aA iB) := bf
noncomputable abbrev nI : Stmt := top 43
noncomputable abbrev rA : Type := Int
noncomputable def iU : rA -> List L3.D := fun i => [.int i]
noncomputable def iV : rA -> Prop := fun i => True
noncomputable def iW : rA -> T := fun i => (.sh (.bl (Bo i)) : T)
structure G4 (X : Cx) (CL : Str -> Addr) : Prop extends c7 X where
 qw : Ln X 0 "number"
theorem G5 {X : Cx} {CL : Str -> Addr} {b : Bx} (E : G4 X CL) (i) (h : iV i) :
   aG X CL b nI ["number"] (iU i) (iW i) := by
 dsimp only [aG, iV, iU, iW] at h ⊢
 exact aN (aaJ PV PV (ah (dh (ah (dS (ah ai) (ah ai) ⟨by decide, by decide, by decide⟩)))) (aJ E.qw) (ah (dS (ah ai) (ah ai) ⟨by decide, by decide, by decide⟩)) (by with_unfolding_all rfl)).2 rfl
theorem E8 : oW (aA nI) ([("number", aE)]) = true := by decide +kernel
theorem vt : aT ["number"] ["number"] (aA nI) := bf
noncomputable abbrev iC : Stmt := top 35
noncomputable abbrev kF : Type := (List (Str × Int))
noncomputable def f6 : kF -> List L3.D := fun l => [.lst (l.map qf)]
noncomputable def di : kF -> Prop := fun l => (∀ q ∈ l, q.1.length <= 1000) /\ l.length <= 1000
noncomputable def f7 : kF -> T := fun l => (.sh (.bl (x6 l)) : T)
structure yx (X : Cx) (CL : Str -> Addr) : Prop extends c7 X where
 pK : Ln X 0 "boxes"
 sQ : Ln X 1 "box"
 kG : Gl X "is_bounded"
 dR : Gl X "are_names_right"
 rB : Fc X CL "is_bounded" 1 1 iU iV iW
 iE : Fc X CL "are_names_right" 2 1 d8 bV d9
theorem yy {X : Cx} {CL : Str -> Addr} {b : Bx} (E : yx X CL) (l) (h : di l) :
   aG X CL b iC ["boxes", "box"] (f6 l) (f7 l) := by
 dsimp only [aG, di, f6, f7] at h ⊢
 obtain ⟨h1, h3⟩ := h
 refine lG E.g E.sQ (fun j δ => ∃ o, qS (fun q : Str × Int => Bo q.2) l j /\ δ = [some (.sh (.lst (l.map qf))), o]) (j9 (v_ E.pK.1)) ⟨_, .zero, rfl⟩ (fun j δ ⟨_, _, e⟩ => by subst e; exact alY rfl) ?turn ?fin
 case turn =>
   rintro j d δ hj ⟨o, hU, rfl⟩
   obtain ⟨q, hqj, rfl⟩ : ∃ q, l[j]? = some q /\ qf q = d := by rw [aml] at hj; exact amv.mp hj
   refine bO (cN (eG (aF (c_ q.2 E.rB E.kG (aq (aP (aJ E.sQ) (ah ai) (aD (j := 1) rfl)) aI) trivial rfl) (t2 := .sh (.bl (Bo q.2))) rfl))) (fun hp => ?_) (fun hp => az (az ⟨_, hU.next hqj (by simpa using hp), rfl⟩))
   refine aN cG ?_
   unfold x6
   rw [GC (p := fun q : Str × Int => Bo q.2) (List.mem_of_getElem? hqj) (by simpa using hp)]
   rfl
 case fin =>
   rintro δ ⟨o, hU, rfl⟩
   rw [alR] at hU
   have hl : ∀ x ∈ l.map (·.1), x.length <= 1000 := fun x hx => by
     obtain ⟨q, hq, rfl⟩ := amn.mp hx
     exact h1 q hq
   refine aN (aF (c_ (l.map (·.1)) E.iE E.dR (aq (aQ (aF (i7 (p := fun _ => true) (g := fun d => T.sh (.str d.at1.toS)) (cF .nil (by decide +kernel)) E.g.calm (j9 (v_ E.pK.1)) (.inr rfl) (fun C s0 H0 f0 b' d hd => ?Wu) (Nat.le_of_lt (bE (by rw [List.length_map]; omega)))) ?Zk)) aI) (by dsimp only [bV]; exact ⟨hl, by rw [List.length_map]; exact h3⟩) rfl) (t2 := .sh (.bl (sr (l.map (·.1))))) rfl) ?res
   case Wu =>
     obtain ⟨q, hq, rfl⟩ := amn.mp hd
     exact ⟨rfl, fun _ => cS (aP (ah (v_ (gi (i := 0) rfl (by decide +kernel)))) (ah ai) (aD (j := 0) rfl)) rfl⟩
   case Zk =>
     rw [ck, al5, al5, al5]
     rfl
   case res =>
     unfold x6
     rw [hU.all]
     rfl
theorem gK : oW (aA iC) ([("boxes", aE), ("box", aE), ("is_bounded", aC), ("are_names_right", aC)]) = true := by decide +kernel
theorem oA : aT ["boxes", "box"] ["boxes"] (aA iC) := bf
noncomputable abbrev jA : Stmt := top 41
noncomputable abbrev mP : Type := List L3.D × List L3.D × L3.D × List L3.D × List L3.D × List L3.D × Int × Int
noncomputable def fN : mP -> List L3.D := fun (bs, nm, tr, is, os, ws, i, c) => [fV bs nm tr is os ws, .tup [.int i, .int c]]
noncomputable def fO : mP -> Prop := fun (bs, nm, tr, is, os, ws, i, c) => True
noncomputable def fP : mP -> T := fun (bs, nm, tr, is, os, ws, i, c) => (.sh (.bl (uE bs.length i c)) : T)
structure BJ (X : Cx) (CL : Str -> Addr) : Prop extends c7 X where
 aX : Ln X 0 "chart"
 qZ : Ln X 1 "term"
 dG : Gl X "is_place"
 kG : Gl X "is_bounded"
 eY : Fc X CL "is_place" 1 2 fH fJ fK
 rB : Fc X CL "is_bounded" 1 1 iU iV iW
 bF : zF X.K (CL "Chart")
 eO : bq X.K (CL "Chart") "boxes"
theorem BK {X : Cx} {CL : Str -> Addr} {b : Bx} (E : BJ X CL) (bs nm tr is os ws i c) (h : fO (bs, nm, tr, is, os, ws, i, c)) :
   aG X CL b jA ["chart", "term"] (fN (bs, nm, tr, is, os, ws, i, c)) (fP (bs, nm, tr, is, os, ws, i, c)) := by
 dsimp only [aG, fO, fN, fP] at h ⊢
 exact aN (jD (Qc (cj (aP (aJ E.qZ) (ah ai) rfl) (ah (dh (ah ai)))).2 (fun _ => j7 (aF (c_ (i, bs) E.eY E.dG (aq (aP (aJ E.qZ) (ah ai) rfl) (aq (c6 E.bF E.eO (aJ E.aX) pB) aI)) trivial rfl) (t2 := .sh (.bl (sJ i bs.length))) rfl))) (fun _ => j7 (aF (c_ c E.rB E.kG (aq (aP (aJ E.qZ) (ah ai) rfl) aI) trivial rfl) (t2 := .sh (.bl (Bo c))) rfl))) rfl
theorem ja : oW (aA jA) ([("chart", aE), ("term", aE), ("is_place", aC), ("is_bounded", aC)]) = true := by decide +kernel
theorem qB : aT ["chart", "term"] ["chart", "term"] (aA jA) := bf
noncomputable abbrev jB : Stmt := top 40
noncomputable abbrev mQ : Type := List L3.D × List L3.D × L3.D × List L3.D × List L3.D × List L3.D × qI
noncomputable def iF : mQ -> List L3.D := fun (bs, nm, tr, is, os, ws, q) => [fV bs nm tr is os ws, Dw q]
noncomputable def iG : mQ -> Prop := fun (bs, nm, tr, is, os, ws, q) => dgL q
noncomputable def iH : mQ -> T := fun (bs, nm, tr, is, os, ws, q) => (.sh (.bl (Jx bs.length q)) : T)
structure BL (X : Cx) (CL : Str -> Addr) : Prop extends c7 X where
 aX : Ln X 0 "chart"
 cO : Ln X 1 "deed"
 kB : Ln X 2 "word"
 dG : Gl X "is_place"
 dX : Gl X "is_term_right"
 j6 : Gl X "is_name"
 eY : Fc X CL "is_place" 1 2 fH fJ fK
 gU : Fc X CL "is_term_right" 2 2 fN fO fP
 nW : Fc X CL "is_name" 1 1 j3 j4 j5
 bF : zF X.K (CL "Chart")
 eO : bq X.K (CL "Chart") "boxes"
theorem BO {X : Cx} {CL : Str -> Addr} {b : Bx} (E : BL X CL) (bs nm tr is os ws q) (h : iG (bs, nm, tr, is, os, ws, q)) :
   aG X CL b jB ["chart", "deed", "word"] (iF (bs, nm, tr, is, os, ws, q)) (iH (bs, nm, tr, is, os, ws, q)) := by
 dsimp only [aG, iG, iF, iH] at h ⊢
 cases q with
 | put i a' c =>
   refine aY E.g E.kB (cS (aP (aJ E.cO) (ah ai) (aD (j := 0) rfl)) rfl) ?_
   refine bO (gC (aJ E.kB) (ah bR)).1 (fun _ => ?_) (fun hp => absurd (amd hp) (by decide +kernel))
   exact aN (jD (aF (c_ (i, bs) E.eY E.dG (aq (aP (aJ E.cO) (ah ai) (aD (j := 1) rfl)) (aq (c6 E.bF E.eO (aJ E.aX) pB) aI)) trivial rfl) (t2 := .sh (.bl (sJ i bs.length))) rfl) (fun _ => j7 (aF (c_ (bs, nm, tr, is, os, ws, a', c) E.gU E.dX (aq (aJ E.aX) (aq (aP (aJ E.cO) (ah ai) (aD (j := 2) rfl)) aI)) trivial rfl) (t2 := .sh (.bl (uE bs.length a' c))) rfl))) rfl
 | say w x a' c =>
   obtain ⟨⟨w1, w2⟩, hx⟩ : (w ≠ "put" /\ w ≠ "call") /\ x.length <= 1000 := h
   refine aY E.g E.kB (cS (aP (aJ E.cO) (ah ai) (aD (j := 0) rfl)) rfl) ?_
   refine bO (gC (aJ E.kB) (ah bR)).1 (fun hp => absurd (al2 hp) w1) (fun _ => az ?_)
   refine bO (gC (aJ E.kB) (ah bR)).1 (fun hp => ?_) (fun hp => az ?_)
   . refine aN (jD (aF (c_ x E.nW E.j6 (aq (aP (aJ E.cO) (ah ai) (aD (j := 1) rfl)) aI) hx rfl) (t2 := .sh (.bl (cu x))) rfl) (fun _ => j7 (aF (c_ (bs, nm, tr, is, os, ws, a', c) E.gU E.dX (aq (aJ E.aX) (aq (aP (aJ E.cO) (ah ai) (aD (j := 2) rfl)) aI)) trivial rfl) (t2 := .sh (.bl (uE bs.length a' c))) rfl))) ?_
     have hp : decide (w = "say") = true := hp
     show T.sh (.bl (cu x && uE bs.length a' c)) = T.sh (.bl (decide (w = "say") && (cu x && uE bs.length a' c)))
     rw [hp]
     rfl
   . refine aN (jD (q := false) (gC (aJ E.kB) (ah bR)).2 (fun hq => absurd (al2 hq) w2)) ?_
     have hp : decide (w = "say") = false := hp
     show T.sh (.bl (_ && false)) = T.sh (.bl (decide (w = "say") && (cu x && uE bs.length a' c)))
     rw [hp, amf]
     rfl
 | call x =>
   have hx : x.length <= 1000 := h
   refine aY E.g E.kB (cS (aP (aJ E.cO) (ah ai) (aD (j := 0) rfl)) rfl) ?_
   refine bO (gC (aJ E.kB) (ah bR)).1 (fun hp => absurd (al2 hp) (by decide +kernel)) (fun _ => az ?_)
   refine bO (gC (aJ E.kB) (ah bR)).1 (fun hp => absurd (al2 hp) (by decide +kernel)) (fun _ => az ?_)
   exact aN (aF (jD (gC (aJ E.kB) (ah bR)).2 (fun _ => j7 (aF (c_ x E.nW E.j6 (aq (aP (aJ E.cO) (ah ai) (aD (j := 1) rfl)) aI) hx rfl) (t2 := .sh (.bl (cu x))) rfl))) (t2 := .sh (.bl (cu x))) (congrArg (fun z => T.sh (.bl z)) (by rw [alV rfl]; rfl))) rfl
theorem eV : oW (aA jB) ([("chart", aE), ("deed", aE), ("word", aE), ("is_place", aC), ("is_term_right", aC), ("is_name", aC)]) = true := by decide +kernel
theorem qC : aT ["chart", "deed", "word"] ["chart", "deed"] (aA jB) := bf
noncomputable abbrev iI : Stmt := top 36
noncomputable abbrev kH : Type := List L3.D × List L3.D × L3.D × List (List qI) × List (List qI) × List BF
noncomputable def f9 : kH -> List L3.D := fun (bs, nm, tr, is, os, ws) => [fV bs nm tr (is.map bM) (os.map bM) (ws.map pD)]
noncomputable def dm : kH -> Prop := fun (bs, nm, tr, is, os, ws) => is.length <= 300 /\ os.length <= 300 /\ ws.length <= 100 /\ (∀ l ∈ is ++ os ++ ws.map (·.dl), ∀ q ∈ l, dgL q)
noncomputable def gb : kH -> T := fun (bs, nm, tr, is, os, ws) => (.sh (.bl (sL nm.length bs.length is os ws)) : T)
structure yz (X : Cx) (CL : Str -> Addr) : Prop extends c7 X where
 aX : Ln X 0 "chart"
 bw : Ln X 1 "many"
 pI : Ln X 2 "deeds"
 cO : Ln X 3 "deed"
 b6 : Gl X "len"
 mR : Gl X "is_deed_right"
 b7 : X.mg "len" = none
 BP : Fc X CL "is_deed_right" 3 2 iF iG iH
 Zw : ∃ u, X.mg "DEEDS" = some (.int 3 u)
 bF : zF X.K (CL "Chart")
 bT : bq X.K (CL "Chart") "names"
 pS : bq X.K (CL "Chart") "ins"
 nJ : bq X.K (CL "Chart") "outs"
 kI : bq X.K (CL "Chart") "ways"
theorem yC {X : Cx} {CL : Str -> Addr} {b : Bx} (E : yz X CL) (bs nm tr is os ws) (h : dm (bs, nm, tr, is, os, ws)) :
   aG X CL b iI ["chart", "many", "deeds", "deed"] (f9 (bs, nm, tr, is, os, ws)) (gb (bs, nm, tr, is, os, ws)) := by
 dsimp only [aG, dm, f9, gb] at h ⊢
 obtain ⟨h1, h2, h4, h5⟩ := h
 refine aY E.g E.bw (cH (n := nm.length) rfl E.b7 (c6 E.bF E.bT (aJ E.aX) gy) E.b6) ?_
 refine bO (gD (fu (gB (ah (cH (n := is.length) (alR ..) E.b7 (c6 E.bF E.pS (aJ E.aX) Fy) E.b6)) (aJ E.bw)).1 (fun _ => gE (gB (ah (cH (n := os.length) (alR ..) E.b7 (c6 E.bF E.nJ (aJ E.aX) Dr) E.b6)) (aJ E.bw)).1))) (fun hp => ?_) (fun hp => az ?_)
 . refine aN cG ?_
   have hp : (!decide (((is.length : Nat) : Int) = (nm.length : Nat)) || !decide (((os.length : Nat) : Int) = (nm.length : Nat))) = true := hp
   unfold sL
   by_cases e1 : is.length = nm.length
   . by_cases e2 : os.length = nm.length
     . rw [alV (show ((is.length : Nat) : Int) = (nm.length : Nat) by omega), alV (show ((os.length : Nat) : Int) = (nm.length : Nat) by omega)] at hp
       cases hp
     . rw [alS e2, amy, amf]
   . rw [alS e1, amy]
 have hp : (!decide (((is.length : Nat) : Int) = (nm.length : Nat)) || !decide (((os.length : Nat) : Int) = (nm.length : Nat))) = false := hp
 rw [ams] at hp
 have e1 : is.length = nm.length := by have : ((is.length : Nat) : Int) = (nm.length : Nat) := by simpa using hp.1
                                       omega
 have e2 : os.length = nm.length := by have : ((os.length : Nat) : Int) = (nm.length : Nat) := by simpa using hp.2
                                       omega
 have hdd : sL nm.length bs.length is os ws = (is ++ os ++ ws.map (·.dl)).all fun l => l.all (Jx bs.length) := by
   unfold sL
   rw [alV e1, alV e2]
   rfl
 have im : ∀ l : List (List qI), D.cM (l.map bM) = true := fun l => c5 iO l
 rw [hdd]
 refine lG E.g E.pI (fun j δ => ∃ o1 o2, qS (fun l => l.all (Jx bs.length)) (is ++ os ++ ws.map (·.dl)) j /\ δ = [some (.sh (fV bs nm tr (is.map bM) (os.map bM) (ws.map pD))), some (.sh (.int nm.length)), o1, o2])
   (j9 (Gj (ds := (is ++ os ++ ws.map (·.dl)).map bM) (aF (xU (ds := (is ++ os).map bM) (Qm := (ws.map (·.dl)).map bM) (aQ (aF (xU (c6 E.bF E.pS (aJ E.aX) Fy) (c6 E.bF E.nJ (aJ E.aX) Dr) (im is) (im os) (amo (bE (by simp; omega)))) (by rw [← amk]))) (aQ (aF (i7 (p := fun _ => true) (g := fun d => T.sh (afz d)) (cF .nil (by decide +kernel)) E.g.calm (j9 (C8 E.bF E.kI (v_ E.aX.1) Ds)) (.inr rfl) (fun C s0 H0 f0 b' d hd => ?Wu) (amo (bE (by rw [alR]; omega)))) ?Zk)) (im _) (im _) (amo (bE (by simp; omega)))) (by rw [← amk])))) ⟨_, _, .zero, rfl⟩ (fun j δ ⟨_, _, _, e⟩ => by subst e; exact alY rfl) ?turn ?fin
 case Wu =>
   obtain ⟨w, hw, rfl⟩ := amn.mp hd
   exact ⟨rfl, fun _ => cS (aP (ah (v_ (gi (i := 0) rfl (by decide +kernel)))) (ah (jn (by exact E.Zw) (kg (by decide +kernel)))) (aD (j := 3) rfl)) (iO w.dl)⟩
 case Zk =>
   rw [ck, al5, al5, al5]
   rfl
 case turn =>
   rintro j d δ hj ⟨o1, o2, hU, rfl⟩
   obtain ⟨l, hlj, rfl⟩ : ∃ l, (is ++ os ++ ws.map (·.dl))[j]? = some l /\ bM l = d := by rw [aml] at hj; exact amv.mp hj
   have hlm := amr hlj
   have hq := h5 l hlm
   refine lG E.g E.cO (fun j δ => ∃ o2, qS (Jx bs.length) l j /\ δ = [some (.sh (fV bs nm tr (is.map bM) (os.map bM) (ws.map pD))), some (.sh (.int nm.length)), some (.sh (bM l)), o2]) (Gf (v_ E.pI.1)) ⟨_, .zero, rfl⟩ (fun j δ ⟨_, _, e⟩ => by subst e; exact alY rfl) ?DJ ?fin2
   case DJ =>
     rintro i d δ hi ⟨o2, hU2, rfl⟩
     obtain ⟨q, hqj, rfl⟩ : ∃ q, l[i]? = some q /\ Dw q = d := by rw [aml] at hi; exact amv.mp hi
     have hqm := amr hqj
     refine bO (cN (eG (aF (c_ (bs, nm, tr, is.map bM, os.map bM, ws.map pD, q) E.BP E.mR (aq (aJ E.aX) (aq (aJ E.cO) aI)) (hq q hqm) rfl) (t2 := .sh (.bl (Jx bs.length q))) rfl))) (fun hp => ?_) (fun hp => az (az ⟨_, hU2.next hqj (by simpa using hp), rfl⟩))
     refine aN cG ?_
     rw [GC (p := fun l : List qI => l.all (Jx bs.length)) hlm (GC hqm (by simpa using hp))]
   case fin2 =>
     rintro δ ⟨o2, hU2, rfl⟩
     rw [alR] at hU2
     exact az ⟨_, _, hU.next hlj hU2.all, rfl⟩
 case fin =>
   rintro δ ⟨o1, o2, hU, rfl⟩
   rw [alR] at hU
   exact aN cG (by rw [hU.all])
theorem dI : oW (aA iI) ([("chart", aE), ("many", aE), ("deeds", aE), ("deed", aE), ("len", aC), ("is_deed_right", aC)]) = true := by decide +kernel
theorem oB : aT ["chart", "many", "deeds", "deed"] ["chart"] (aA iI) := bf
noncomputable abbrev kJ : Stmt := top 39
noncomputable abbrev oE : Type := List L3.D × List L3.D × L3.D × List L3.D × List L3.D × List L3.D × Wk
noncomputable def jb : oE -> List L3.D := fun (bs, nm, tr, is, os, ws, q) => [fV bs nm tr is os ws, E4 q]
noncomputable def jc : oE -> Prop := fun (bs, nm, tr, is, os, ws, q) => Wm q
noncomputable def jd : oE -> T := fun (bs, nm, tr, is, os, ws, q) => (.sh (.bl (LD nm.length bs.length q)) : T)
structure DR (X : Cx) (CL : Str -> Addr) : Prop extends c7 X where
 aX : Ln X 0 "chart"
 lH : Ln X 1 "ask"
 sU : Ln X 2 "mark"
 dG : Gl X "is_place"
 Zx : Gl X "MARKS"
 dX : Gl X "is_term_right"
 eY : Fc X CL "is_place" 1 2 fH fJ fK
 G6 : GT X "MARKS" ["<", "<=", "=", "!="]
 gU : Fc X CL "is_term_right" 2 2 fN fO fP
 bF : zF X.K (CL "Chart")
 bT : bq X.K (CL "Chart") "names"
theorem DS {X : Cx} {CL : Str -> Addr} {b : Bx} (E : DR X CL) (bs nm tr is os ws q) (h : jc (bs, nm, tr, is, os, ws, q)) :
   aG X CL b kJ ["chart", "ask", "mark"] (jb (bs, nm, tr, is, os, ws, q)) (jd (bs, nm, tr, is, os, ws, q)) := by
 dsimp only [aG, jc, jb, jd] at h ⊢
 cases q with
 | Ss x m =>
   refine aY E.g E.sU (cS (aP (aJ E.lH) (ah ai) (aD (j := 0) rfl)) rfl) ?_
   refine bO (VJ (l := ["open", "shut"]) (aJ E.sU) (cP rfl)).1 (fun _ => ?_) (fun hp => absurd (show x ∈ (["open", "shut"] : List Str) from h) (amd hp))
   exact aN (aF (c_ (m, nm) E.eY E.dG (aq (aP (aJ E.lH) (ah ai) (aD (j := 1) rfl)) (aq (c6 E.bF E.bT (aJ E.aX) gy) aI)) trivial rfl) rfl) rfl
 | num mk a1 c1 a2 c2 =>
   refine aY E.g E.sU (cS (aP (aJ E.lH) (ah ai) (aD (j := 0) rfl)) rfl) ?_
   refine bO (VJ (l := ["open", "shut"]) (aJ E.sU) (cP rfl)).1 (fun hp => absurd (al2 hp) h) (fun _ => az ?_)
   exact aN (jD (Gi (l := ["<", "<=", "=", "!="]) (aJ E.sU) (ah (xX E.G6 E.Zx)) rfl rfl).2 (fun _ => jD (aF (c_ (bs, nm, tr, is, os, ws, a1, c1) E.gU E.dX (aq (aJ E.aX) (aq (aP (aJ E.lH) (ah ai) (aD (j := 1) rfl)) aI)) trivial rfl) (t2 := .sh (.bl (uE bs.length a1 c1))) rfl) (fun _ => j7 (aF (c_ (bs, nm, tr, is, os, ws, a2, c2) E.gU E.dX (aq (aJ E.aX) (aq (aP (aJ E.lH) (ah ai) (aD (j := 2) rfl)) aI)) trivial rfl) (t2 := .sh (.bl (uE bs.length a2 c2))) rfl)))) rfl
theorem fh : oW (aA kJ) ([("chart", aE), ("ask", aE), ("mark", aE), ("is_place", aC), ("MARKS", aC), ("is_term_right", aC)]) = true := by decide +kernel
theorem r9 : aT ["chart", "ask", "mark"] ["chart", "ask"] (aA kJ) := bf
noncomputable abbrev kK : Stmt := top 38
noncomputable abbrev oF : Type := List L3.D × List L3.D × L3.D × List L3.D × List L3.D × List L3.D × BF
noncomputable def je : oF -> List L3.D := fun (bs, nm, tr, is, os, ws, w) => [fV bs nm tr is os ws, pD w]
noncomputable def jf : oF -> Prop := fun (bs, nm, tr, is, os, ws, w) => w.ok
noncomputable def jg : oF -> T := fun (bs, nm, tr, is, os, ws, w) => (.sh (.bl (X4 nm.length bs.length w)) : T)
structure DT (X : Cx) (CL : Str -> Addr) : Prop extends c7 X where
 aX : Ln X 0 "chart"
 fX : Ln X 1 "way"
 mD : Ln X 2 "target"
 vU : Ln X 3 "mode"
 lH : Ln X 4 "ask"
 W0 : Gl X "TARGET"
 ade : Gl X "MODE"
 dG : Gl X "is_place"
 yE : Gl X "SOURCE"
 j6 : Gl X "is_name"
 adf : Gl X "SIGN"
 Zy : Gl X "MODES"
 adg : Gl X "ASKS"
 oG : Gl X "is_ask_right"
 W2 : ∃ u, X.mg "TARGET" = some (.int 4 u)
 adh : ∃ u, X.mg "MODE" = some (.int 5 u)
 eY : Fc X CL "is_place" 1 2 fH fJ fK
 yF : ∃ u, X.mg "SOURCE" = some (.int 0 u)
 nW : Fc X CL "is_name" 1 1 j3 j4 j5
 adi : ∃ u, X.mg "SIGN" = some (.int 1 u)
 G7 : GT X "MODES" ["new", "near", "far"]
 adj : ∃ u, X.mg "ASKS" = some (.int 2 u)
 DU : Fc X CL "is_ask_right" 3 2 jb jc jd
 bF : zF X.K (CL "Chart")
 bT : bq X.K (CL "Chart") "names"
theorem DV {X : Cx} {CL : Str -> Addr} {b : Bx} (E : DT X CL) (bs nm tr is os ws w) (h : jf (bs, nm, tr, is, os, ws, w)) :
   aG X CL b kK ["chart", "way", "target", "mode", "ask"] (je (bs, nm, tr, is, os, ws, w)) (jg (bs, nm, tr, is, os, ws, w)) := by
 dsimp only [aG, jf, je, jg] at h ⊢
 obtain ⟨src, sg, al, dl, tg, md⟩ := w
 obtain ⟨h2, h6⟩ : sg.length <= 1000 /\ ∀ q ∈ al, Wm q := h
 have hW : X4 nm.length bs.length ⟨src, sg, al, dl, tg, md⟩ = (sJ src nm.length && (cu sg && (decide (md ∈ jE) && ((if tg = -1 then decide (md = "new") else sJ tg nm.length) && al.all (LD nm.length bs.length))))) := rfl
 rw [hW]
 refine aY E.g E.mD (cS (aP (aJ E.fX) (ah (jn E.W2 E.W0)) (aD (j := 4) rfl)) rfl) ?_
 refine aY E.g E.vU (cS (aP (aJ E.fX) (ah (jn E.adh E.ade)) (aD (j := 5) rfl)) rfl) ?_
 refine bO (gD (fu (cN (eG (aF (c_ (src, nm) E.eY E.dG (aq (aP (aJ E.fX) (ah (jn E.yF E.yE)) (aD (j := 0) rfl)) (aq (c6 E.bF E.bT (aJ E.aX) gy) aI)) trivial rfl) (t2 := .sh (.bl (sJ src nm.length))) rfl))) (fun _ => fu (cN (eG (aF (c_ sg E.nW E.j6 (aq (aP (aJ E.fX) (ah (jn E.adi E.adf)) (aD (j := 1) rfl)) aI) h2 rfl) (t2 := .sh (.bl (cu sg))) rfl))) (fun _ => gE (oZ (l := jE) (aJ E.vU) (ah (xX E.G7 E.Zy)) rfl rfl).1)))) (fun hp => ?_) (fun hp => az ?_)
 . have hp : (!sJ src nm.length || (!cu sg || !decide (md ∈ jE))) = true := hp
   refine aN cG ?_
   generalize decide (md ∈ jE) = b3 at hp ⊢
   generalize sJ src nm.length = b1 at hp ⊢
   generalize cu sg = b2 at hp ⊢
   cases b1
   . rfl
   . cases b2
     . rfl
     . cases b3
       . rfl
       . cases hp
 have hp : (!sJ src nm.length || (!cu sg || !decide (md ∈ jE))) = false := hp
 rw [ams, ams] at hp
 rw [show sJ src nm.length = true from by simpa using hp.1, show cu sg = true from by simpa using hp.2.1, show decide (md ∈ jE) = true from by simpa using hp.2.2]
 refine ae9 (fun δ => (if tg = -1 then decide (md = "new") else sJ tg nm.length) = true /\ δ = [some (.sh (fV bs nm tr is os ws)), some (.sh (pD ⟨src, sg, al, dl, tg, md⟩)), some (.sh (.int tg)), some (.sh (.str md)), none]) (fun δ2 e2 => ?_) (fun k => ?_)
 . obtain ⟨e1, rfl⟩ := e2
   rw [e1]
   refine lG E.g E.lH (fun j δ => ∃ o, qS (LD nm.length bs.length) al j /\ δ = [some (.sh (fV bs nm tr is os ws)), some (.sh (pD ⟨src, sg, al, dl, tg, md⟩)), some (.sh (.int tg)), some (.sh (.str md)), o])
     (Gf (cS (aP (aJ E.fX) (ah (jn E.adj E.adg)) (aD (j := 2) rfl)) (xZ al))) ⟨_, .zero, rfl⟩ (fun j δ ⟨_, _, e⟩ => by subst e; exact alY rfl) ?turn ?fin
   case turn =>
     rintro j d δ hj ⟨o, hU, rfl⟩
     obtain ⟨q, hqj, rfl⟩ : ∃ q, al[j]? = some q /\ E4 q = d := by rw [aml] at hj; exact amv.mp hj
     have hqm := amr hqj
     refine bO (cN (eG (aF (c_ (bs, nm, tr, is, os, ws, q) E.DU E.oG (aq (aJ E.aX) (aq (aJ E.lH) aI)) (h6 q hqm) rfl) (t2 := .sh (.bl (LD nm.length bs.length q))) rfl))) (fun hp => ?_) (fun hp => az (az ⟨_, hU.next hqj (by simpa using hp), rfl⟩))
     exact aN cG (by rw [GC hqm (by simpa using hp)]; rfl)
   case fin =>
     rintro δ ⟨o, hU, rfl⟩
     rw [alR] at hU
     exact aN cG (by rw [hU.all]; rfl)
 refine bO (cj (aJ E.mD) (ah (dh (ah ai)))).1 (fun hp => ?_) (fun hp => ?_)
 . have e1 : tg = -1 := al2 hp
   refine bO (vI (aJ E.vU) (ah bR)).1 (fun hp => ?_) (fun hp => az (az (k _ ⟨by rw [if_pos e1]; simpa using hp, rfl⟩)))
   refine aN cG ?_
   rw [if_pos e1, show decide (md = "new") = false from by simpa using hp]
   rfl
 . have e1 : ¬ tg = -1 := amd hp
   refine bO (cN (eG (aF (c_ (tg, nm) E.eY E.dG (aq (aJ E.mD) (aq (c6 E.bF E.bT (aJ E.aX) gy) aI)) trivial rfl) (t2 := .sh (.bl (sJ tg nm.length))) rfl))) (fun hp => ?_) (fun hp => az (az (k _ ⟨by rw [if_neg e1]; simpa using hp, rfl⟩)))
   refine aN cG ?_
   rw [if_neg e1, show sJ tg nm.length = false from by simpa using hp]
   rfl
theorem bz : oW (aA kK) ([("chart", aE), ("way", aE), ("target", aE), ("mode", aE), ("ask", aE), ("TARGET", aC), ("MODE", aC), ("is_place", aC), ("SOURCE", aC), ("is_name", aC), ("SIGN", aC), ("MODES", aC), ("ASKS", aC), ("is_ask_right", aC)]) = true := by decide +kernel
theorem sd : aT ["chart", "way", "target", "mode", "ask"] ["chart", "way"] (aA kK) := bf
noncomputable abbrev jh : Stmt := top 37
noncomputable abbrev lI : Type := List L3.D × List L3.D × L3.D × List L3.D × List L3.D × List BF
noncomputable def gM : lI -> List L3.D := fun (bs, nm, tr, is, os, ws) => [fV bs nm tr is os (ws.map pD)]
noncomputable def gO : lI -> Prop := fun (bs, nm, tr, is, os, ws) => ∀ w ∈ ws, w.ok
noncomputable def gP : lI -> T := fun (bs, nm, tr, is, os, ws) => (.sh (.bl (Cv nm.length bs.length 0 ws)) : T)
structure z6 (X : Cx) (CL : Str -> Addr) : Prop extends c7 X where
 aX : Ln X 0 "chart"
 vX : Ln X 1 "last"
 fX : Ln X 2 "way"
 yE : Gl X "SOURCE"
 oH : Gl X "is_way_right"
 yF : ∃ u, X.mg "SOURCE" = some (.int 0 u)
 DW : Fc X CL "is_way_right" 4 2 je jf jg
 bF : zF X.K (CL "Chart")
 kI : bq X.K (CL "Chart") "ways"
theorem z7 {X : Cx} {CL : Str -> Addr} {b : Bx} (E : z6 X CL) (bs nm tr is os ws) (h : gO (bs, nm, tr, is, os, ws)) :
   aG X CL b jh ["chart", "last", "way"] (gM (bs, nm, tr, is, os, ws)) (gP (bs, nm, tr, is, os, ws)) := by
 dsimp only [aG, gO, gM, gP] at h ⊢
 refine aY E.g E.vX ai ?_
 refine lG E.g E.fX (fun j δ => ∃ (l : Int) (o : Option T), Cv nm.length bs.length 0 ws = Cv nm.length bs.length l (ws.drop j) /\ δ = [some (.sh (fV bs nm tr is os (ws.map pD))), some (.sh (.int l)), o])
   (j9 (C8 E.bF E.kI (v_ E.aX.1) Ds)) ⟨0, none, rfl, rfl⟩ (fun j δ ⟨_, _, _, e⟩ => by subst e; exact alY rfl) ?turn ?fin
 case turn =>
   rintro j d δ hj ⟨l, o, hl, rfl⟩
   obtain ⟨w, hw, rfl⟩ : ∃ w, ws[j]? = some w /\ pD w = d := by rw [aml] at hj; exact amv.mp hj
   have vQ : j < ws.length := (amj.mp hw).1
   have hdr : ws.drop j = w :: ws.drop (j + 1) := by rw [anz vQ, (amj.mp hw).2]
   have hwm : w ∈ ws := amr hw
   rw [hdr, Cv] at hl
   refine bO (gD (fu (vo (aP (aJ E.fX) (ah (jn E.yF E.yE)) (aD (j := 0) rfl)) (aJ E.vX)).1 (fun _ => gE (cN (eG (aF (c_ (bs, nm, tr, is, os, ws.map pD, w) E.DW E.oH (aq (aJ E.aX) (aq (aJ E.fX) aI)) (h w hwm) rfl) (t2 := .sh (.bl (X4 nm.length bs.length w))) rfl)))))) (fun hp => ?_) (fun hp => az ?_)
   . have hp : (decide (w.src < l) || !X4 nm.length bs.length w) = true := hp
     refine aN cG ?_
     rw [hl]
     cases hd : decide (w.src < l) with
     | true => rfl
     | false =>
       rw [hd] at hp
       rw [show X4 nm.length bs.length w = false from by simpa using hp]
       rfl
   . have hp : (decide (w.src < l) || !X4 nm.length bs.length w) = false := hp
     rw [ams] at hp
     rw [hp.1, show X4 nm.length bs.length w = true from by simpa using hp.2] at hl
     exact aY E.g E.vX (cS (aP (aJ E.fX) (ah (jn E.yF E.yE)) (aD (j := 0) rfl)) rfl) (az ⟨w.src, _, hl, rfl⟩)
 case fin =>
   rintro δ ⟨l, o, hl, rfl⟩
   rw [alR, List.drop_length] at hl
   exact aN cG (by rw [hl]; rfl)
theorem fQ : oW (aA jh) ([("chart", aE), ("last", aE), ("way", aE), ("SOURCE", aC), ("is_way_right", aC)]) = true := by decide +kernel
theorem pT : aT ["chart", "last", "way"] ["chart"] (aA jh) := bf
noncomputable abbrev tO : Stmt := top 29
noncomputable abbrev DX : Type := (List (Str × Int)) × List Str × List Str × List Int × List Int × List (List qI) × List (List qI) × List BF
noncomputable def rC : DX -> List L3.D := fun (bs, nm, ks, es, ss, is, os, ws) => [fV (bs.map qf) (nm.map .str) (gT ks es ss) (is.map bM) (os.map bM) (ws.map pD)]
noncomputable def oJ : DX -> Prop := fun (bs, nm, ks, es, ss, is, os, ws) => x9 bs nm ks is os ws /\ nk bs nm ks es ss is os ws = -1
noncomputable def rD : DX -> T := fun (bs, nm, ks, es, ss, is, os, ws) => (.sh .non : T)
structure J6 (X : Cx) (CL : Str -> Addr) : Prop extends c7 X where
 aX : Ln X 0 "chart"
 jC : Gl X "is_tree_right"
 lJ : Gl X "BadTree"
 dR : Gl X "are_names_right"
 nX : Gl X "BadName"
 iJ : Gl X "are_boxes_right"
 tP : Gl X "BadBox"
 iK : Gl X "are_deeds_right"
 uR : Gl X "BadDeed"
 ji : Gl X "are_ways_right"
 DY : Gl X "BadWay"
 se : Fc X CL "is_tree_right" 4 2 iu iy iz
 jK : X.mg "BadTree" = some (.ref (CL "BadTree"))
 DZ : iN X.K (CL "BadTree")
 iE : Fc X CL "are_names_right" 2 1 d8 bV d9
 lK : X.mg "BadName" = some (.ref (CL "BadName"))
 D0 : iN X.K (CL "BadName")
 pU : Fc X CL "are_boxes_right" 3 1 f6 di f7
 qD : X.mg "BadBox" = some (.ref (CL "BadBox"))
 FH : iN X.K (CL "BadBox")
 pV : Fc X CL "are_deeds_right" 4 1 f9 dm gb
 rE : X.mg "BadDeed" = some (.ref (CL "BadDeed"))
 D3 : iN X.K (CL "BadDeed")
 qE : Fc X CL "are_ways_right" 5 1 gM gO gP
 z8 : X.mg "BadWay" = some (.ref (CL "BadWay"))
 FI : iN X.K (CL "BadWay")
 bF : zF X.K (CL "Chart")
 nK : bq X.K (CL "Chart") "tree"
 bT : bq X.K (CL "Chart") "names"
 eO : bq X.K (CL "Chart") "boxes"
theorem W3 {X : Cx} {CL : Str -> Addr} {b : Bx} (E : J6 X CL) (bs nm ks es ss is os ws) (h : oJ (bs, nm, ks, es, ss, is, os, ws)) :
   aG X CL b tO ["chart"] (rC (bs, nm, ks, es, ss, is, os, ws)) (rD (bs, nm, ks, es, ss, is, os, ws)) := by
 dsimp only [aG, oJ, rC, rD] at h ⊢
 obtain ⟨hs, hr⟩ := h
 have el : (nm.map L3.D.str).length = nm.length := alR ..
 have eb : (bs.map qf).length = bs.length := alR ..
 unfold nk at hr
 refine bO (cN (eG (aF (c_ (ks, es, ss, nm.map L3.D.str) E.se E.jC (aq (c6 E.bF E.nK (aJ E.aX) Dq) (aq (c6 E.bF E.bT (aJ E.aX) gy) aI)) hs.k1 rfl) (t2 := .sh (.bl (Jy ks es ss nm.length))) (by show T.sh (.bl (Jy ks es ss (nm.map L3.D.str).length)) = _; rw [el])))) (fun hp => ?_) (fun hp => az ?_)
 . rw [alW (show Jy ks es ss nm.length = false from Dv hp)] at hr
   exact absurd hr (by decide)
 rw [alT (show ¬ Jy ks es ss nm.length = false from Wn hp)] at hr
 refine bO (cN (eG (aF (c_ nm E.iE E.dR (aq (c6 E.bF E.bT (aJ E.aX) gy) aI) (by dsimp only [bV]; exact ⟨hs.n1, hs.n2⟩) rfl) (t2 := .sh (.bl (sr nm))) rfl))) (fun hp => ?_) (fun hp => az ?_)
 . rw [alW (show sr nm = false from Dv hp)] at hr
   exact absurd hr (by decide)
 rw [alT (show ¬ sr nm = false from Wn hp)] at hr
 refine bO (cN (eG (aF (c_ bs E.pU E.iJ (aq (c6 E.bF E.eO (aJ E.aX) pB) aI) (by dsimp only [di]; exact ⟨hs.b1, hs.b2⟩) rfl) (t2 := .sh (.bl (x6 bs))) rfl))) (fun hp => ?_) (fun hp => az ?_)
 . rw [alW (show x6 bs = false from Dv hp)] at hr
   exact absurd hr (by decide)
 rw [alT (show ¬ x6 bs = false from Wn hp)] at hr
 refine bO (cN (eG (aF (c_ (bs.map qf, nm.map L3.D.str, gT ks es ss, is, os, ws) E.pV E.iK (aq (aJ E.aX) aI) (by dsimp only [dm]; exact ⟨hs.i1, hs.o1, hs.w1, hs.d1⟩) rfl) (t2 := .sh (.bl (sL nm.length bs.length is os ws))) (by show T.sh (.bl (sL (nm.map L3.D.str).length (bs.map qf).length is os ws)) = _; rw [el, eb])))) (fun hp => ?_) (fun hp => az ?_)
 . rw [alW (show sL nm.length bs.length is os ws = false from Dv hp)] at hr
   exact absurd hr (by decide)
 rw [alT (show ¬ sL nm.length bs.length is os ws = false from Wn hp)] at hr
 refine bO (cN (eG (aF (c_ (bs.map qf, nm.map L3.D.str, gT ks es ss, is.map bM, os.map bM, ws) E.qE E.ji (aq (aJ E.aX) aI) hs.w2 rfl) (t2 := .sh (.bl (Cv nm.length bs.length 0 ws))) (by show T.sh (.bl (Cv (nm.map L3.D.str).length (bs.map qf).length 0 ws)) = _; rw [el, eb])))) (fun hp => ?_) (fun hp => az ?_)
 . rw [alW (show Cv nm.length bs.length 0 ws = false from Dv hp)] at hr
   exact absurd hr (by decide)
 rw [alT (show ¬ Cv nm.length bs.length 0 ws = false from Wn hp)] at hr
 exact az rfl
noncomputable abbrev wg : Type := (List (Str × Int)) × List Str × List Str × List Int × List Int × List (List qI) × List (List qI) × List BF
noncomputable def nL : wg -> List L3.D := fun (bs, nm, ks, es, ss, is, os, ws) => [fV (bs.map qf) (nm.map .str) (gT ks es ss) (is.map bM) (os.map bM) (ws.map pD)]
noncomputable def eF : wg -> Prop := fun (bs, nm, ks, es, ss, is, os, ws) => x9 bs nm ks is os ws /\ nk bs nm ks es ss is os ws ≠ -1
noncomputable def nM : wg -> Str := fun (bs, nm, ks, es, ss, is, os, ws) => Sw (nk bs nm ks es ss is os ws)
theorem S7 {X : Cx} {CL : Str -> Addr} {b : Bx} {W : XK} (E : J6 (X.wish (XE X W)) CL) (bs nm ks es ss is os ws) (h : eF (bs, nm, ks, es, ss, is, os, ws)) (hE : Ct b W (CL (nM (bs, nm, ks, es, ss, is, os, ws)))) :
   gw (X.wish (XE X W)) CL b (iZ tO) (entry ["chart"] (nL (bs, nm, ks, es, ss, is, os, ws))) { nx := fun _ => False, rt := fun _ _ => False } := by
 dsimp only [eF, nL, nM] at h hE ⊢
 obtain ⟨hs, hr⟩ := h
 have el : (nm.map L3.D.str).length = nm.length := alR ..
 have eb : (bs.map qf).length = bs.length := alR ..
 unfold nk at hr hE
 refine bO (cN (eG (aF (c_ (ks, es, ss, nm.map L3.D.str) E.se E.jC (aq (c6 E.bF E.nK (aJ E.aX) Dq) (aq (c6 E.bF E.bT (aJ E.aX) gy) aI)) hs.k1 rfl) (t2 := .sh (.bl (Jy ks es ss nm.length))) (by show T.sh (.bl (Jy ks es ss (nm.map L3.D.str).length)) = _; rw [el])))) (fun hp => ?_) (fun hp => az ?_)
 . rw [alW (show Jy ks es ss nm.length = false from Dv hp)] at hE
   exact xY (X := X) E.g.calm E.lJ E.jK E.DZ hE
 rw [alT (show ¬ Jy ks es ss nm.length = false from Wn hp)] at hr hE
 refine bO (cN (eG (aF (c_ nm E.iE E.dR (aq (c6 E.bF E.bT (aJ E.aX) gy) aI) (by dsimp only [bV]; exact ⟨hs.n1, hs.n2⟩) rfl) (t2 := .sh (.bl (sr nm))) rfl))) (fun hp => ?_) (fun hp => az ?_)
 . rw [alW (show sr nm = false from Dv hp)] at hE
   exact xY (X := X) E.g.calm E.nX E.lK E.D0 hE
 rw [alT (show ¬ sr nm = false from Wn hp)] at hr hE
 refine bO (cN (eG (aF (c_ bs E.pU E.iJ (aq (c6 E.bF E.eO (aJ E.aX) pB) aI) (by dsimp only [di]; exact ⟨hs.b1, hs.b2⟩) rfl) (t2 := .sh (.bl (x6 bs))) rfl))) (fun hp => ?_) (fun hp => az ?_)
 . rw [alW (show x6 bs = false from Dv hp)] at hE
   exact xY (X := X) E.g.calm E.tP E.qD E.FH hE
 rw [alT (show ¬ x6 bs = false from Wn hp)] at hr hE
 refine bO (cN (eG (aF (c_ (bs.map qf, nm.map L3.D.str, gT ks es ss, is, os, ws) E.pV E.iK (aq (aJ E.aX) aI) (by dsimp only [dm]; exact ⟨hs.i1, hs.o1, hs.w1, hs.d1⟩) rfl) (t2 := .sh (.bl (sL nm.length bs.length is os ws))) (by show T.sh (.bl (sL (nm.map L3.D.str).length (bs.map qf).length is os ws)) = _; rw [el, eb])))) (fun hp => ?_) (fun hp => az ?_)
 . rw [alW (show sL nm.length bs.length is os ws = false from Dv hp)] at hE
   exact xY (X := X) E.g.calm E.uR E.rE E.D3 hE
 rw [alT (show ¬ sL nm.length bs.length is os ws = false from Wn hp)] at hr hE
 refine bO (cN (eG (aF (c_ (bs.map qf, nm.map L3.D.str, gT ks es ss, is.map bM, os.map bM, ws) E.qE E.ji (aq (aJ E.aX) aI) hs.w2 rfl) (t2 := .sh (.bl (Cv nm.length bs.length 0 ws))) (by show T.sh (.bl (Cv (nm.map L3.D.str).length (bs.map qf).length 0 ws)) = _; rw [el, eb])))) (fun hp => ?_) (fun hp => az ?_)
 . rw [alW (show Cv nm.length bs.length 0 ws = false from Dv hp)] at hE
   exact xY (X := X) E.g.calm E.DY E.z8 E.FI hE
 rw [alT (show ¬ Cv nm.length bs.length 0 ws = false from Wn hp)] at hr hE
 exact absurd rfl hr
theorem bQ : oW (aA tO) ([("chart", aE), ("is_tree_right", aC), ("BadTree", aC), ("are_names_right", aC), ("BadName", aC), ("are_boxes_right", aC), ("BadBox", aC), ("are_deeds_right", aC), ("BadDeed", aC), ("are_ways_right", aC), ("BadWay", aC)]) = true := by decide +kernel
theorem uS : aT ["chart"] ["chart"] (aA tO) := bf
noncomputable abbrev uT : Stmt := top 63
noncomputable abbrev z9 : Type := (List (Str × Int)) × List Str × List Str × List Int × List Int × List (List qI) × List (List qI) × List BF
noncomputable def pW : z9 -> List L3.D := fun (bs, nm, ks, es, ss, is, os, ws) => [fV (bs.map qf) (nm.map .str) (gT ks es ss) (is.map bM) (os.map bM) (ws.map pD)]
noncomputable def pX : z9 -> Prop := fun (bs, nm, ks, es, ss, is, os, ws) => x9 bs nm ks is os ws
noncomputable def pY : z9 -> T := fun (bs, nm, ks, es, ss, is, os, ws) => (.sh (.int (nk bs nm ks es ss is os ws)) : T)
structure S8 (X : Cx) (CL : Str -> Addr) : Prop extends c7 X where
 aX : Ln X 0 "chart"
 dB : Ln X 1 "kind"
 pZ : Ln X 2 "right"
 mH : Gl X "looked"
 lJ : Gl X "BadTree"
 nX : Gl X "BadName"
 tP : Gl X "BadBox"
 uR : Gl X "BadDeed"
 DY : Gl X "BadWay"
 W4 : Fc X CL "looked" 6 1 rC oJ rD
 jK : X.mg "BadTree" = some (.ref (CL "BadTree"))
 DZ : iN X.K (CL "BadTree")
 lK : X.mg "BadName" = some (.ref (CL "BadName"))
 D0 : iN X.K (CL "BadName")
 qD : X.mg "BadBox" = some (.ref (CL "BadBox"))
 FH : iN X.K (CL "BadBox")
 rE : X.mg "BadDeed" = some (.ref (CL "BadDeed"))
 D3 : iN X.K (CL "BadDeed")
 z8 : X.mg "BadWay" = some (.ref (CL "BadWay"))
 FI : iN X.K (CL "BadWay")
 qF : FcR X CL "looked" 6 1 nL eF nM
 st : X.stack = X.env :: X.outer
 fm : X.env.frame = some X.env.locals
 nx : X.xe = fun _ _ => False
 Q5 : PySem.W.exmOne X.K (.ref (CL "BadTree")) (.ref (CL "BadBox")) = some false
 M3 : PySem.W.exmOne X.K (.ref (CL "BadTree")) (.ref (CL "BadDeed")) = some false
 M4 : PySem.W.exmOne X.K (.ref (CL "BadTree")) (.ref (CL "BadName")) = some false
 wj : PySem.W.exmOne X.K (.ref (CL "BadTree")) (.ref (CL "BadTree")) = some true
 Q6 : PySem.W.exmOne X.K (.ref (CL "BadTree")) (.ref (CL "BadWay")) = some false
 Q7 : PySem.W.exmOne X.K (.ref (CL "BadName")) (.ref (CL "BadBox")) = some false
 M5 : PySem.W.exmOne X.K (.ref (CL "BadName")) (.ref (CL "BadDeed")) = some false
 wk : PySem.W.exmOne X.K (.ref (CL "BadName")) (.ref (CL "BadName")) = some true
 wm : PySem.W.exmOne X.K (.ref (CL "BadName")) (.ref (CL "BadTree")) = some false
 Q8 : PySem.W.exmOne X.K (.ref (CL "BadName")) (.ref (CL "BadWay")) = some false
 Aa : PySem.W.exmOne X.K (.ref (CL "BadBox")) (.ref (CL "BadBox")) = some true
 Q9 : PySem.W.exmOne X.K (.ref (CL "BadBox")) (.ref (CL "BadDeed")) = some false
 yG : PySem.W.exmOne X.K (.ref (CL "BadBox")) (.ref (CL "BadName")) = some false
 yH : PySem.W.exmOne X.K (.ref (CL "BadBox")) (.ref (CL "BadTree")) = some false
 S9 : PySem.W.exmOne X.K (.ref (CL "BadBox")) (.ref (CL "BadWay")) = some false
 yI : PySem.W.exmOne X.K (.ref (CL "BadDeed")) (.ref (CL "BadBox")) = some false
 wo : PySem.W.exmOne X.K (.ref (CL "BadDeed")) (.ref (CL "BadDeed")) = some true
 wu : PySem.W.exmOne X.K (.ref (CL "BadDeed")) (.ref (CL "BadName")) = some false
 wA : PySem.W.exmOne X.K (.ref (CL "BadDeed")) (.ref (CL "BadTree")) = some false
 Ra : PySem.W.exmOne X.K (.ref (CL "BadDeed")) (.ref (CL "BadWay")) = some false
 Ab : PySem.W.exmOne X.K (.ref (CL "BadWay")) (.ref (CL "BadBox")) = some false
 yJ : PySem.W.exmOne X.K (.ref (CL "BadWay")) (.ref (CL "BadDeed")) = some false
 yK : PySem.W.exmOne X.K (.ref (CL "BadWay")) (.ref (CL "BadName")) = some false
 yL : PySem.W.exmOne X.K (.ref (CL "BadWay")) (.ref (CL "BadTree")) = some false
 Ac : PySem.W.exmOne X.K (.ref (CL "BadWay")) (.ref (CL "BadWay")) = some true
theorem Tc {X : Cx} {CL : Str -> Addr} {b : Bx} (E : S8 X CL) (bs nm ks es ss is os ws) (h : pX (bs, nm, ks, es, ss, is, os, ws)) :
   aG X CL b uT ["chart", "kind", "right"] (pW (bs, nm, ks, es, ss, is, os, ws)) (pY (bs, nm, ks, es, ss, is, os, ws)) := by
 dsimp only [aG, pX, pW, pY] at h ⊢
 refine aY E.g E.dB (dh (ah ai)) ?_
 refine aY E.g E.pZ cG ?_
 by_cases hr : nk bs nm ks es ss is os ws = -1
 . refine acK E.nx ?_
   refine aY E.g E.pZ (acE (ah (aF (c_ (bs, nm, ks, es, ss, is, os, ws) E.W4 E.mH (aq (aJ E.aX) aI) (by dsimp only [oJ]; exact ⟨h, hr⟩) rfl) (t2 := .sh .non) rfl))).2 (az ?_)
   refine bO (gD (gF (cj (aJ E.dB) (ah (dh (ah ai)))).1 (fun _ => lT (cN (eG (v_ E.pZ.1)))))) (fun hp => by cases hp) (fun _ => az ?_)
   exact aN (v_ E.dB.1) (by rw [hr])
 have hk : nk bs nm ks es ss is os ws = 0 \/ nk bs nm ks es ss is os ws = 1 \/ nk bs nm ks es ss is os ws = 2 \/ nk bs nm ks es ss is os ws = 3 \/ nk bs nm ks es ss is os ws = 4 := by
   revert hr
   unfold nk
   intro hr
   split
   . exact .inl rfl
   . split
     . exact .inr (.inl rfl)
     . split
       . exact .inr (.inr (.inl rfl))
       . split
         . exact .inr (.inr (.inr (.inl rfl)))
         . split
           . exact .inr (.inr (.inr (.inr rfl)))
           . rename_i h1 h2 h3 h4 h5
             rw [alT h1, alT h2, alT h3, alT h4, alT h5] at hr
             exact absurd rfl hr
 rcases hk with e | e | e | e | e
 . have Zz : Sw (nk bs nm ks es ss is os ws) = "BadTree" := by rw [e]; rfl
   refine Dm (c := "BadTree") (δ1 := [some (.sh (fV (bs.map qf) (nm.map .str) (gT ks es ss) (is.map bM) (os.map bM) (ws.map pD))), some (.sh (.int (-1))), some (.sh (.bl false))]) E.st E.fm E.nx (fun p => by rw [← Zz]; exact Jw (X := X.pinned p) E.g.nd E.pZ.pin (Jv (X := X.pinned p) (Dl (X := X.pinned p) (bs, nm, ks, es, ss, is, os, ws) E.nx E.qF.pin E.mH (aq (ah (v_ E.aX.1.pin)) aI) (by dsimp only [eF]; exact ⟨h, hr⟩)))) (.hit E.lJ E.jK E.wj (by decide)) fun ev => ?_
   refine Dn E.g.nd E.dB.hand ai (az ?_)
   refine bO (gD (gF (q := false) (cj (aJ E.dB) (ah (dh (ah ai)))).1 (fun hp => by cases hp))) (fun hp => by cases hp) (fun _ => az ?_)
   exact aN (v_ E.dB.1) (by rw [e])
 . have Zz : Sw (nk bs nm ks es ss is os ws) = "BadName" := by rw [e]; rfl
   refine Dm (c := "BadName") (δ1 := [some (.sh (fV (bs.map qf) (nm.map .str) (gT ks es ss) (is.map bM) (os.map bM) (ws.map pD))), some (.sh (.int (-1))), some (.sh (.bl false))]) E.st E.fm E.nx (fun p => by rw [← Zz]; exact Jw (X := X.pinned p) E.g.nd E.pZ.pin (Jv (X := X.pinned p) (Dl (X := X.pinned p) (bs, nm, ks, es, ss, is, os, ws) E.nx E.qF.pin E.mH (aq (ah (v_ E.aX.1.pin)) aI) (by dsimp only [eF]; exact ⟨h, hr⟩)))) (.miss E.lJ E.jK E.wm (by decide) (.hit E.nX E.lK E.wk (by decide))) fun ev => ?_
   refine Dn E.g.nd E.dB.hand ai (az ?_)
   refine bO (gD (gF (q := false) (cj (aJ E.dB) (ah (dh (ah ai)))).1 (fun hp => by cases hp))) (fun hp => by cases hp) (fun _ => az ?_)
   exact aN (v_ E.dB.1) (by rw [e])
 . have Zz : Sw (nk bs nm ks es ss is os ws) = "BadBox" := by rw [e]; rfl
   refine Dm (c := "BadBox") (δ1 := [some (.sh (fV (bs.map qf) (nm.map .str) (gT ks es ss) (is.map bM) (os.map bM) (ws.map pD))), some (.sh (.int (-1))), some (.sh (.bl false))]) E.st E.fm E.nx (fun p => by rw [← Zz]; exact Jw (X := X.pinned p) E.g.nd E.pZ.pin (Jv (X := X.pinned p) (Dl (X := X.pinned p) (bs, nm, ks, es, ss, is, os, ws) E.nx E.qF.pin E.mH (aq (ah (v_ E.aX.1.pin)) aI) (by dsimp only [eF]; exact ⟨h, hr⟩)))) (.miss E.lJ E.jK E.yH (by decide) (.miss E.nX E.lK E.yG (by decide) (.hit E.tP E.qD E.Aa (by decide)))) fun ev => ?_
   refine Dn E.g.nd E.dB.hand ai (az ?_)
   refine bO (gD (gF (q := false) (cj (aJ E.dB) (ah (dh (ah ai)))).1 (fun hp => by cases hp))) (fun hp => by cases hp) (fun _ => az ?_)
   exact aN (v_ E.dB.1) (by rw [e])
 . have Zz : Sw (nk bs nm ks es ss is os ws) = "BadDeed" := by rw [e]; rfl
   refine Dm (c := "BadDeed") (δ1 := [some (.sh (fV (bs.map qf) (nm.map .str) (gT ks es ss) (is.map bM) (os.map bM) (ws.map pD))), some (.sh (.int (-1))), some (.sh (.bl false))]) E.st E.fm E.nx (fun p => by rw [← Zz]; exact Jw (X := X.pinned p) E.g.nd E.pZ.pin (Jv (X := X.pinned p) (Dl (X := X.pinned p) (bs, nm, ks, es, ss, is, os, ws) E.nx E.qF.pin E.mH (aq (ah (v_ E.aX.1.pin)) aI) (by dsimp only [eF]; exact ⟨h, hr⟩)))) (.miss E.lJ E.jK E.wA (by decide) (.miss E.nX E.lK E.wu (by decide) (.miss E.tP E.qD E.yI (by decide) (.hit E.uR E.rE E.wo (by decide))))) fun ev => ?_
   refine Dn E.g.nd E.dB.hand ai (az ?_)
   refine bO (gD (gF (q := false) (cj (aJ E.dB) (ah (dh (ah ai)))).1 (fun hp => by cases hp))) (fun hp => by cases hp) (fun _ => az ?_)
   exact aN (v_ E.dB.1) (by rw [e])
 . have Zz : Sw (nk bs nm ks es ss is os ws) = "BadWay" := by rw [e]; rfl
   refine Dm (c := "BadWay") (δ1 := [some (.sh (fV (bs.map qf) (nm.map .str) (gT ks es ss) (is.map bM) (os.map bM) (ws.map pD))), some (.sh (.int (-1))), some (.sh (.bl false))]) E.st E.fm E.nx (fun p => by rw [← Zz]; exact Jw (X := X.pinned p) E.g.nd E.pZ.pin (Jv (X := X.pinned p) (Dl (X := X.pinned p) (bs, nm, ks, es, ss, is, os, ws) E.nx E.qF.pin E.mH (aq (ah (v_ E.aX.1.pin)) aI) (by dsimp only [eF]; exact ⟨h, hr⟩)))) (.miss E.lJ E.jK E.yL (by decide) (.miss E.nX E.lK E.yK (by decide) (.miss E.tP E.qD E.Ab (by decide) (.miss E.uR E.rE E.yJ (by decide) (.hit E.DY E.z8 E.Ac (by decide)))))) fun ev => ?_
   refine Dn E.g.nd E.dB.hand ai (az ?_)
   refine bO (gD (gF (q := false) (cj (aJ E.dB) (ah (dh (ah ai)))).1 (fun hp => by cases hp))) (fun hp => by cases hp) (fun _ => az ?_)
   exact aN (v_ E.dB.1) (by rw [e])
theorem gQ : oW (aA uT) ([("chart", aE), ("kind", aE), ("right", aE), ("looked", aC), ("BadTree", aC), ("BadName", aC), ("BadBox", aC), ("BadDeed", aC), ("BadWay", aC)]) = true := by decide +kernel
theorem D4 : aT ["chart", "kind", "right"] ["chart"] (aA uT) := bf
noncomputable abbrev p8 : Stmt := inClass (top 21) 0
noncomputable abbrev tQ : Type := List Str × List Int × List Int
noncomputable def vv : tQ -> List L3.D := fun (ks, es, ss) => [.lst (ks.map .str), .lst (es.map .int), .lst (ss.map .int)]
noncomputable def vz : tQ -> Prop := fun (ks, es, ss) => True
noncomputable def vA : tQ -> List (Str × T) := fun (ks, es, ss) => (rY ks es ss : List (Str × T))
structure J7 (X : Cx) (CL : Str -> Addr) : Prop extends c7 X where
 qh : Ln X 0 "self"
 kr : Ln X 1 "kinds"
 cC : Ln X 2 "elders"
 ku : Ln X 3 "starts"
 g8 : Gl X "list"
 g9 : X.mg "list" = none
 dW : zF X.K (CL "Tree")
 gI : bq X.K (CL "Tree") "kinds"
 bD : bq X.K (CL "Tree") "elders"
 jw : bq X.K (CL "Tree") "starts"
theorem J8 {X : Cx} {CL : Str -> Addr} {b : Bx} (E : J7 X CL) (ks : List Str) (es ss : List Int) (y : Addr) (h : True) :
   gw X CL b (iZ p8) (VN ["self", "kinds", "elders", "starts"] y "Tree" [.lst (ks.map .str), .lst (es.map .int), .lst (ss.map .int)]) { nx := fun δ => δ[0]? = some (some (.pin y (.ins "Tree" (rY ks es ss)))), rt := fun _ _ => False } := by
 have hi : D.cM (ks.map L3.D.str) = true := c5 (fun _ => rfl) _
 refine xT E.dW E.gI E.qh.1 (dY E.g9 (aJ E.kr) hi E.g8 cE) rfl (alY rfl) ?_
 rw [kh]
 refine xT E.dW E.bD E.qh.1 (dY E.g9 (aJ E.cC) (jm _) E.g8 cE) rfl (alY rfl) ?_
 rw [cK (by decide +kernel), kh]
 refine xT E.dW E.jw E.qh.1 (dY E.g9 (aJ E.ku) (jm _) E.g8 cE) rfl (alY rfl) ?_
 rw [cK (by decide +kernel), cK (by decide +kernel), kh]
 exact az rfl
theorem kL : oW (aA p8) ([("self", aE), ("kinds", aE), ("elders", aE), ("starts", aE), ("list", aC)]) = true := by decide +kernel
theorem yM : aT ["self", "kinds", "elders", "starts"] ["self", "kinds", "elders", "starts"] (aA p8) := bf
noncomputable abbrev nO : Stmt := inClass (top 11) 0
noncomputable abbrev rG : Type := List L3.D × List L3.D × V × List L3.D × List L3.D × List L3.D
noncomputable def tR : rG -> List L3.D := fun (bs, nm, tv, is, os, ws) => [.lst bs, .lst nm, .val tv, .lst is, .lst os, .lst ws]
noncomputable def tS : rG -> Prop := fun (bs, nm, tv, is, os, ws) => D.cM bs = true /\ D.cM nm = true /\ D.cM is = true /\ D.cM os = true /\ D.cM ws = true
noncomputable def tT : rG -> List (Str × T) := fun (bs, nm, tv, is, os, ws) => (oh bs nm (.sh (.val tv)) is os ws : List (Str × T))
structure G8 (X : Cx) (CL : Str -> Addr) : Prop extends c7 X where
 qh : Ln X 0 "self"
 pK : Ln X 1 "boxes"
 jy : Ln X 2 "names"
 cT : Ln X 3 "tree"
 af5 : Ln X 4 "ins"
 adk : Ln X 5 "outs"
 zX : Ln X 6 "ways"
 g8 : Gl X "list"
 g9 : X.mg "list" = none
 bF : zF X.K (CL "Chart")
 eO : bq X.K (CL "Chart") "boxes"
 bT : bq X.K (CL "Chart") "names"
 nK : bq X.K (CL "Chart") "tree"
 pS : bq X.K (CL "Chart") "ins"
 nJ : bq X.K (CL "Chart") "outs"
 kI : bq X.K (CL "Chart") "ways"
theorem G9 {X : Cx} {CL : Str -> Addr} {b : Bx} (E : G8 X CL) (bs nm : List L3.D) (tv : V) (is os ws : List L3.D) (y : Addr) (h : D.cM bs = true /\ D.cM nm = true /\ D.cM is = true /\ D.cM os = true /\ D.cM ws = true) :
   gw X CL b (iZ nO) (VN ["self", "boxes", "names", "tree", "ins", "outs", "ways"] y "Chart" [.lst bs, .lst nm, .val tv, .lst is, .lst os, .lst ws]) { nx := fun δ => δ[0]? = some (some (.pin y (.ins "Chart" (oh bs nm (.sh (.val tv)) is os ws)))), rt := fun _ _ => False } := by
 obtain ⟨h1, h2, h3, h4, h5⟩ := h
 refine xT E.bF E.eO E.qh.1 (dY E.g9 (aJ E.pK) h1 E.g8 cE) rfl (alY rfl) ?_
 rw [kh]
 refine xT E.bF E.bT E.qh.1 (dY E.g9 (aJ E.jy) h2 E.g8 cE) rfl (alY rfl) ?_
 rw [cK (by decide +kernel), kh]
 refine xT E.bF E.nK E.qh.1 (v_ E.cT.1) rfl (alY rfl) ?_
 rw [cK (by decide +kernel), cK (by decide +kernel), kh]
 refine xT E.bF E.pS E.qh.1 (dY E.g9 (aJ E.af5) h3 E.g8 cE) rfl (alY rfl) ?_
 rw [cK (by decide +kernel), cK (by decide +kernel), cK (by decide +kernel), kh]
 refine xT E.bF E.nJ E.qh.1 (dY E.g9 (aJ E.adk) h4 E.g8 cE) rfl (alY rfl) ?_
 rw [cK (by decide +kernel), cK (by decide +kernel), cK (by decide +kernel), cK (by decide +kernel), kh]
 refine xT E.bF E.kI E.qh.1 (dY E.g9 (aJ E.zX) h5 E.g8 cE) rfl (alY rfl) ?_
 rw [cK (by decide +kernel), cK (by decide +kernel), cK (by decide +kernel), cK (by decide +kernel), cK (by decide +kernel), kh]
 exact az rfl
theorem eS : oW (aA nO) ([("self", aE), ("boxes", aE), ("names", aE), ("tree", aE), ("ins", aE), ("outs", aE), ("ways", aE), ("list", aC)]) = true := by decide +kernel
theorem vC : aT ["self", "boxes", "names", "tree", "ins", "outs", "ways"] ["self", "boxes", "names", "tree", "ins", "outs", "ways"] (aA nO) := bf
noncomputable abbrev CT : Stmt := top 62
noncomputable abbrev Hf : Type := (List (Str × Int)) × List Str × List Str × List Int × List Int × List (List qI) × List (List qI) × List BF
noncomputable def uU : Hf -> List L3.D := fun (bs, nm, ks, es, ss, is, os, ws) => [prV bs nm ks es ss is os ws]
noncomputable def uV : Hf -> Prop := fun (bs, nm, ks, es, ss, is, os, ws) => True
noncomputable def uW : Hf -> T := fun (bs, nm, ks, es, ss, is, os, ws) => (.ins "Chart" (oh (bs.map qf) (nm.map .str) (.ins "Tree" (rY ks es ss)) (is.map bM) (os.map bM) (ws.map pD)) : T)
structure ZC (X : Cx) (CL : Str -> Addr) : Prop extends c7 X where
 bJ : Ln X 0 "parts"
 cT : Ln X 1 "tree"
 adl : Gl X "Tree"
 g8 : Gl X "list"
 ZD : Gl X "Chart"
 adn : Fm X CL "Tree" 1 4 vv vz vA
 g9 : X.mg "list" = none
 ZE : Fm X CL "Chart" 1 7 tR tS tT
theorem ZF {X : Cx} {CL : Str -> Addr} {b : Bx} (E : ZC X CL) (bs nm ks es ss is os ws) (h : uV (bs, nm, ks, es, ss, is, os, ws)) :
   aG X CL b CT ["parts", "tree"] (uU (bs, nm, ks, es, ss, is, os, ws)) (uW (bs, nm, ks, es, ss, is, os, ws)) := by
 dsimp only [aG, uV, uU, uW] at h ⊢
 have ib : D.cM (bs.map qf) = true := c5 (fun _ => rfl) _
 have ii : ∀ l : List (List qI), D.cM (l.map bM) = true := fun l => c5 iO l
 have iw : D.cM (ws.map pD) = true := c5 (fun w => by
   show (true && (true && (D.cM (w.al.map E4) && ((bM w.dl).rW && (true && (true && true)))))) = true
   rw [show D.cM (w.al.map E4) = true from xZ w.al, iO]
   rfl) _
 refine aY E.g E.cT (aF (mk_ (ks, es, ss) E.adn E.adl (aq (aQ (dY E.g9 (aU (aJ E.bJ) (ah ai) (aD (j := 2) rfl)) (ki _) E.g8 cE)) (aq (aQ (dY E.g9 (aU (aJ E.bJ) (ah ai) (aD (j := 3) rfl)) (jm _) E.g8 cE)) (aq (aQ (dY E.g9 (aU (aJ E.bJ) (ah ai) (aD (j := 4) rfl)) (jm _) E.g8 cE)) aI))) trivial (Bl ks es ss)) (t2 := .ins "Tree" (rY ks es ss)) rfl) ?_
 exact aN (mkP (f := "tree") (Jo := zP (bs.map qf) (nm.map .str)) (UK := zQ (is.map bM) (os.map bM) (ws.map pD)) (fun v => (bs.map qf, nm.map .str, v, is.map bM, os.map bM, ws.map pD)) E.ZE E.ZD
   (Jp (aQ (dY E.g9 (aU (aJ E.bJ) (ah ai) (aD (j := 0) rfl)) ib E.g8 cE)) (Jp (aQ (dY E.g9 (aU (aJ E.bJ) (ah ai) (aD (j := 1) rfl)) (ki _) E.g8 cE))
     (V5 (vM E.cT.1)
       (aq (aQ (dY E.g9 (aU (aJ E.bJ) (ah ai) (aD (j := 5) rfl)) (ii is) E.g8 cE)) (aq (aQ (dY E.g9 (aU (aJ E.bJ) (ah ai) (aD (j := 6) rfl)) (ii os) E.g8 cE)) (aq (aQ (dY E.g9 (aU (aJ E.bJ) (ah ai) (aD (j := 7) rfl)) iw E.g8 cE)) aI))))))
   (fun v => rfl) (fun v => ⟨ib, ki _, ii is, ii os, iw⟩) (fun v => rfl) (Gy ib (ki _)) (Gz (ii is) (ii os) iw)) rfl
theorem tU : oW (aA CT) ([("parts", aE), ("tree", aE), ("Tree", aC), ("list", aC), ("Chart", aC)]) = true := by decide +kernel
theorem J9 : aT ["parts", "tree"] ["parts"] (aA CT) := bf
theorem Hg {bs nm is os ws : List L3.D} {t : T} (h1 : D.cM bs = true) (h2 : D.cM nm = true) (h3 : t.clean = true) (h4 : D.cM is = true) (h5 : D.cM os = true) (h6 : D.cM ws = true) : T.bY (oh bs nm t is os ws) = true := by
 unfold oh zP zQ
 rw [ami, ami, anp, T.bY, T.bY, T.bY, T.bY, T.bY, T.bY, T.bY, bK h1, bK h2, h3, bK h4, bK h5, bK h6]
 rfl
noncomputable def W5 : List Str := ["more", "more2"]
theorem W6 {α : Type} {l : List α} {k : Nat} (h : l.length <= k) : cutD l none (some (k : Int)) = l := by
 unfold cutD
 have e1 : HT.zG l.length 0 none = 0 := rfl
 have e2 : HT.zG l.length l.length (some (k : Int)) = l.length := by
   unfold HT.zG
   simp
   split <;> omega
 rw [e1, e2]
 simp
theorem Td (s : List Int) : (sY s).iY = prV (vV s (qg s)) (oX s (GL s)) (nq s (vh s) (lW s)) (vh s) (oi s (vh s) (lW s)) (X6 s) (X7 s) (UN s) := by
 unfold sY prV
 rw [T.iY, T.gR, T.gR, T.gR, T.gR, T.gR, T.gR, T.gR, T.gR, T.gR, cR, cR, cR, cR, cR, cR, cR, cR]
theorem Ka (l : List BF) : D.cM (l.map pD) = true := c5 (fun w => by have := JF w; rwa [T.clean] at this) l
theorem Kc (s : List Int) : (sY s).clean = true := by
 unfold sY
 rw [T.clean, T.ef, T.ef, T.ef, T.ef, T.ef, T.ef, T.ef, T.ef, T.ef, bK (c5 (f := qf) (fun _ => rfl) _), bK (ki _), bK (ki _), bK (jm _), bK (jm _), bK (c5 iO _), bK (c5 iO _), bK (Ka _)]
 rfl
theorem af6 (s : List Int) : GL s <= 25 /\ lW s <= GL s + 1 /\ FE s <= 49 := by
 obtain ⟨m1, m2, _⟩ := QN s
 have a1 := ama (nU s / 400) (b := 10) (by decide)
 have a2 := al1 (nU s / 400) (b := 10) (by decide)
 have a3 := QM (nU s / 400 % 10).toNat (by omega)
 have b1 := ama (nU s / 900) (b := 10) (by decide)
 have b2 := al1 (nU s / 900) (b := 10) (by decide)
 have b3 := QM (nU s / 900 % 10).toNat (by omega)
 unfold GL FE
 omega
theorem Kd {s : List Int} {l : List qI} (h : l ∈ X6 s ++ X7 s ++ (UN s).map (·.dl)) : l.length <= 1000 /\ ∀ q ∈ l, dgL q := by
 rcases al7.mp h with h | h
 . have : l ∈ sX s (qg s) (FE s) := by
     rcases al7.mp h with h | h
     . exact List.mem_of_mem_take h
     . exact List.mem_of_mem_drop h
   obtain ⟨k, _, rfl⟩ := amn.mp this
   exact ac1 _ _ _
 . obtain ⟨w, hw, rfl⟩ := amn.mp h
   obtain ⟨k, _, rfl⟩ := amn.mp hw
   exact (MK _ _ _ _ _).2.2
theorem Ke {s : List Int} {w : BF} (h : w ∈ UN s) : w.ok /\ w.al.length <= 1000 := by
 obtain ⟨k, _, rfl⟩ := amn.mp h
 exact ⟨(MK _ _ _ _ _).1, (MK _ _ _ _ _).2.1⟩
theorem Kf (s : List Int) (nm : List Str) (h1 : ∀ x ∈ nm, x.length <= 1000) (h2 : nm.length <= 1000) : x9 (vV s (qg s)) nm (nq s (vh s) (lW s)) (X6 s) (X7 s) (UN s) := by
 obtain ⟨m1, m2, _⟩ := QN s
 obtain ⟨n1, _⟩ := aaR s
 obtain ⟨l1, l2, l3⟩ := af6 s
 have hr : (sX s (qg s) (FE s)).length = FE s := by simp [sX]
 refine ⟨by simp [nq]; omega, h1, h2, fun q hq => ?_, by simp [vV]; omega, ?_, ?_, ?_, fun l hl => (Kd hl).2, fun w hw => (Ke hw).1⟩
 . obtain ⟨k, hk, rfl⟩ := amn.mp hq
   exact Ze _ _ (by have := amI.mp hk; omega)
 . unfold X6
   rw [List.length_take]
   omega
 . unfold X7
   rw [List.length_drop]
   omega
 . unfold UN
   rw [alR, am8]
   have := QT s
   omega
noncomputable abbrev Rb : Stmt := top 64
noncomputable abbrev W7 : Type := List Int
noncomputable def uX : W7 -> List L3.D := fun a => [.lst (a.map .int)]
noncomputable def uY : W7 -> Prop := fun a => a.length <= 63
noncomputable def uZ : W7 -> T := fun a => (.sh (.bl true) : T)
structure af7 (X : Cx) (CL : Str -> Addr) : Prop extends c7 X where
 cB : Ln X 0 "script"
 bJ : Ln X 1 "parts"
 Rc : Ln X 2 "due"
 Hh : Gl X "_law_parts"
 M6 : Gl X "_law_due"
 tV : Gl X "_law_refusal"
 yN : Gl X "_law_chart"
 ZG : Fc X CL "_law_parts" 4 1 uK uL uM
 af8 : Fc X CL "_law_due" 5 1 CM yk CN
 FJ : Fc X CL "_law_refusal" 7 1 pW pX pY
 Rf : Fc X CL "_law_chart" 3 1 uU uV uW
theorem af9 {X : Cx} {CL : Str -> Addr} {b : Bx} (E : af7 X CL) (a) (h : uY a) :
   aG X CL b Rb ["script", "parts", "due"] (uX a) (uZ a) := by
 dsimp only [aG, uY, uX, uZ] at h ⊢
 have hs : a.length <= 63 := by omega
 obtain ⟨s, hsd⟩ : ∃ s : List Int, s = a.map (· % 10 ^ (60 : Int).toNat) := ⟨_, rfl⟩
 have hsl : s.length <= 1000 := by rw [hsd, alR]; omega
 have aiX : cutD (a.map L3.D.int) none (some 90) = a.map L3.D.int := W6 (k := 90) (by rw [alR]; omega)
 refine aY E.g E.bJ (aF (c_ s E.ZG E.Hh (aq (aQ (aF (i7 (p := fun _ => true) (g := fun d => T.sh (.int (d.UJ % 10 ^ (60 : Int).toNat))) (cF .nil (by decide +kernel)) E.g.calm (j9 (Gj (ds := a.map .int) (aF (C6 (aJ E.cB) (jm _) Cm (Cp (ah ai))) (by rw [aiX])))) (.inr rfl) (fun C s0 H0 f0 b' d hd => ?Wu) (amo (bE (by rw [alR]; omega)))) (t2 := .lst ((s.map .int).map T.sh)) ?Zk)) aI) hsl (Kc s)) (t2 := sY s) rfl) ?_
 case Wu =>
   obtain ⟨i, _, rfl⟩ := amn.mp hd
   exact ⟨rfl, fun _ => (aS (ah (v_ (gi (i := 0) rfl (by decide +kernel)))) (ah (dS (ah ai) (ah ai) ⟨by decide, by decide, by decide⟩)) (by decide))⟩
 case Zk =>
   rw [ck, hsd, al5, al5, al5]
   rfl
 obtain ⟨m1, m2, _⟩ := QN s
 obtain ⟨l1, l2, l3⟩ := af6 s
 have hnm : ∀ x ∈ oX s (GL s), x.length <= 1000 := fun x hx => by
   obtain ⟨k, hk, rfl⟩ := amn.mp hx
   exact Zd _ _ (by have := amI.mp hk; omega)
 have hnl : (oX s (GL s)).length = GL s := by simp [oX]
 have hkl : (nq s (vh s) (lW s)).length = lW s := by simp [nq]
 have hel : (vh s).length = lW s := DC ..
 have htl : (oi s (vh s) (lW s)).length = lW s := by simp [oi]
 have qH : ∀ k : Nat, k < (nq s (vh s) (lW s)).length -> (oi s (vh s) (lW s)).getD k 0 < (vh s).length := fun k hk => by
   rw [hkl] at hk
   unfold oi
   rw [amJ, aml, ana hk]
   exact afE _ _ _ (by omega)
 have hsh := Kf s (oX s (GL s)) hnm (by omega)
 have aiY := Kf s (oX s (GL s) ++ W5) (fun x hx => by
   rcases al7.mp hx with h | h
   . exact hnm x h
   . have hb : ∀ y ∈ W5, y.length <= 1000 := by decide +kernel
     exact hb x h) (by rw [amM]; show _ + 2 <= 1000; omega)
 have hal : ∀ w ∈ UN s, w.al.length <= 1000 := fun w hw => (Ke hw).2
 have hdl : ∀ l ∈ X6 s ++ X7 s ++ (UN s).map (·.dl), l.length <= 1000 := fun l hl => (Kd hl).1
 have hfz := Td s
 have hpT : sY s = .lst [.lst (((vV s (qg s)).map qf).map T.sh), .lst (((oX s (GL s)).map .str).map T.sh), .lst (((nq s (vh s) (lW s)).map .str).map T.sh), .lst (((vh s).map .int).map T.sh), .lst (((oi s (vh s) (lW s)).map .int).map T.sh), .lst (((X6 s).map bM).map T.sh), .lst (((X7 s).map bM).map T.sh), .lst (((UN s).map pD).map T.sh)] := rfl
 rw [hpT] at hfz ⊢
 clear hpT
 generalize vV s (qg s) = bs at *
 generalize oX s (GL s) = nm at *
 generalize nq s (vh s) (lW s) = ks at *
 generalize oi s (vh s) (lW s) = ss at *
 generalize vh s = es at *
 generalize X6 s = is at *
 generalize X7 s = os at *
 generalize UN s = ws at *
 have ib : D.cM (bs.map qf) = true := c5 (fun _ => rfl) _
 have ii : ∀ l : List (List qI), D.cM (l.map bM) = true := fun l => c5 iO l
 have Jt : ∀ nm : List Str, T.iY (T.ins "Chart" (oh (bs.map qf) (nm.map .str) (.ins "Tree" (rY ks es ss)) (is.map bM) (os.map bM) (ws.map pD))) = fV (bs.map qf) (nm.map .str) (gT ks es ss) (is.map bM) (os.map bM) (ws.map pD) := fun nm => by rw [Mz, Sq]
 have clC : ∀ nm : List Str, (T.ins "Chart" (oh (bs.map qf) (nm.map .str) (.ins "Tree" (rY ks es ss)) (is.map bM) (os.map bM) (ws.map pD))).clean = true := fun nm => Hg ib (ki _) (Bl ks es ss) (ii is) (ii os) (Ka ws)
 refine aY E.g E.Rc (aF (c_ (bs, nm, ks, es, ss, is, os, ws) E.af8 E.M6 (aq (vE E.bJ.1 rfl hfz) aI) (by dsimp only [yk]; exact ⟨hsh, ⟨by omega, by omega, by omega⟩, qH, hal, hdl⟩) rfl) (t2 := .sh (.int (nk bs nm ks es ss is os ws))) rfl) ?_
 refine bO (gB (ah (aF (c_ (bs, nm, ks, es, ss, is, os, ws) E.FJ E.tV (aq (Jf (Qa (aF (c_ (bs, nm, ks, es, ss, is, os, ws) E.Rf E.yN (aq (vE E.bJ.1 rfl hfz) aI) trivial (clC nm)) (t2 := .ins "Chart" (oh (bs.map qf) (nm.map .str) (.ins "Tree" (rY ks es ss)) (is.map bM) (os.map bM) (ws.map pD))) rfl)) (Jt nm)) aI) hsh rfl) (t2 := .sh (.int (nk bs nm ks es ss is os ws))) rfl)) (aJ E.Rc)).1 (fun hp => by rw [alV rfl] at hp; cases hp) (fun _ => az ?_)
 refine Wj 1 (ds := W5.map .str) E.bJ.1 rfl rfl (aQ (b8 (cP (l := W5) rfl) (aH rfl))) (ki _) rfl rfl (by simp only [alR]; show nm.length + 2 <= _; omega) ?_
 have ai0 : T.iY (.lst [.lst ((bs.map qf).map T.sh), .lst ((nm.map L3.D.str).map T.sh ++ (W5.map L3.D.str).map T.sh), .lst ((ks.map .str).map T.sh), .lst ((es.map .int).map T.sh), .lst ((ss.map .int).map T.sh), .lst ((is.map bM).map T.sh), .lst ((os.map bM).map T.sh), .lst ((ws.map pD).map T.sh)]) = prV bs (nm ++ W5) ks es ss is os ws := by
   rw [← amk, ← amk]
   unfold prV
   rw [T.iY, T.gR, T.gR, T.gR, T.gR, T.gR, T.gR, T.gR, T.gR, T.gR, cR, cR, cR, cR, cR, cR, cR, cR]
 have hr0 : nk bs (nm ++ W5) ks es ss is os ws = 0 := by
   unfold nk
   rw [alW]
   unfold Jy
   rw [alS (show ¬ (nm ++ W5).length = ks.length by rw [amM]; show ¬ nm.length + 2 = ks.length; omega), amy, amf, amf, amf]
 refine aN (aF (cj (ah (aF (c_ (bs, nm ++ W5, ks, es, ss, is, os, ws) E.FJ E.tV (aq (Jf (Qa (aF (c_ (bs, nm ++ W5, ks, es, ss, is, os, ws) E.Rf E.yN (aq (vE E.bJ.1 rfl ai0) aI) trivial (clC _)) (t2 := .ins "Chart" (oh (bs.map qf) ((nm ++ W5).map .str) (.ins "Tree" (rY ks es ss)) (is.map bM) (os.map bM) (ws.map pD))) rfl)) (Jt _)) aI) aiY rfl) (t2 := .sh (.int 0)) (congrArg (fun z => T.sh (.int z)) hr0))) (ah ai)).2 (t2 := .sh (.bl true)) rfl) rfl
theorem wC : oW (aA Rb) ([("script", aE), ("parts", aE), ("due", aE), ("_law_parts", aC), ("_law_due", aC), ("_law_refusal", aC), ("_law_chart", aC)]) = true := by decide +kernel
theorem W8 : aT ["script", "parts", "due"] ["script"] (aA Rb) := bf
noncomputable def cl (ay aB aj ak au ao av : Addr) : Str -> Addr := fun c => if c = "Chart" then ay else if c = "Tree" then aB else if c = "BadTree" then aj else if c = "BadName" then ak else if c = "BadBox" then au else if c = "BadDeed" then ao else if c = "BadWay" then av else 0
theorem kM {ay aB aj ak au ao av : Addr} : cl ay aB aj ak au ao av "Chart" = ay := by unfold cl; rw [alW rfl]
theorem u0 {ay aB aj ak au ao av : Addr} : cl ay aB aj ak au ao av "Tree" = aB := by unfold cl; rw [alT (by decide +kernel)]; rw [alW rfl]
theorem cV {ay aB aj ak au ao av : Addr} : cl ay aB aj ak au ao av "BadTree" = aj := by unfold cl; rw [alT (by decide +kernel)]; rw [alT (by decide +kernel)]; rw [alW rfl]
theorem cW {ay aB aj ak au ao av : Addr} : cl ay aB aj ak au ao av "BadName" = ak := by unfold cl; rw [alT (by decide +kernel)]; rw [alT (by decide +kernel)]; rw [alT (by decide +kernel)]; rw [alW rfl]
theorem dJ {ay aB aj ak au ao av : Addr} : cl ay aB aj ak au ao av "BadBox" = au := by unfold cl; rw [alT (by decide +kernel)]; rw [alT (by decide +kernel)]; rw [alT (by decide +kernel)]; rw [alT (by decide +kernel)]; rw [alW rfl]
theorem cX {ay aB aj ak au ao av : Addr} : cl ay aB aj ak au ao av "BadDeed" = ao := by unfold cl; rw [alT (by decide +kernel)]; rw [alT (by decide +kernel)]; rw [alT (by decide +kernel)]; rw [alT (by decide +kernel)]; rw [alT (by decide +kernel)]; rw [alW rfl]
theorem dM {ay aB aj ak au ao av : Addr} : cl ay aB aj ak au ao av "BadWay" = av := by unfold cl; rw [alT (by decide +kernel)]; rw [alT (by decide +kernel)]; rw [alT (by decide +kernel)]; rw [alT (by decide +kernel)]; rw [alT (by decide +kernel)]; rw [alT (by decide +kernel)]; rw [alW rfl]
theorem ado {ay aB aj ak au ao av : Addr} {x : Str} (h : P7 x = true) : cl ay aB aj ak au ao av x = 0 := by unfold cl; rw [alT (fun e => by rw [e] at h; exact absurd h (by decide +kernel))]; rw [alT (fun e => by rw [e] at h; exact absurd h (by decide +kernel))]; rw [alT (fun e => by rw [e] at h; exact absurd h (by decide +kernel))]; rw [alT (fun e => by rw [e] at h; exact absurd h (by decide +kernel))]; rw [alT (fun e => by rw [e] at h; exact absurd h (by decide +kernel))]; rw [alT (fun e => by rw [e] at h; exact absurd h (by decide +kernel))]; rw [alT (fun e => by rw [e] at h; exact absurd h (by decide +kernel))]
noncomputable def aga {α : Type} : Nat -> (List α -> Prop) -> Prop
 | 0, P => P []
 | n + 1, P => ∀ a, aga n fun r => P (a :: r)
theorem bP {α : Type} {n : Nat} {P : List α -> Prop} (h : aga n P) : ∀ us : List α, us.length = n -> P us := by
 intro us hl
 induction us generalizing n P with
 | nil => subst hl; exact h
 | cons a r ih => subst hl; exact ih (P := fun r => P (a :: r)) (h a) rfl
theorem all_mk {l : PySem.W.OpenLaw} {w : World} {K : PySem.W.Frag} {h : Heap} {mg : Str -> Option Value} {fa Ad Ae wF M7 M8 M9 W9 Xa Hi tX tY Nb tZ wG t6 t7 Xb Hj Hl jL kN wH jM mS Af kO rH kP mU mV kQ oK oM lM yO Ag p9 nP Ho aaY ay aB aj ak au ao av : Addr} (XX : K.In h) (G : h.Ns mainGlobals mg) (hfa : mg "law" = some (.ref fa))
   {Te Tf Nf adp adq ads agb agc ZH Kg Kh adt Kl Ng Km Kn agd yo GZ jH kD dG jI jC j6 dR kG iJ dX mR iK oG oH ji mH Tg Ko Hq ZI aaZ : FuncData}
   (Hr : PySem.W.nsIn K mainGlobals "Chart" = some (some (.ref ay))) (D5 : PySem.W.plainGet K ay Str.empty = true) (D6 : PySem.W.hasDictIn K ay = true) (D7 : PySem.W.plainOver K ay = true) (D8 : PySem.W.findIn K (.ref ay) "__setattr__" = some (some (.builtin "object.__setattr__"))) (D9 : PySem.W.makesIn K ay = true) (Ea : PySem.W.keepIn K (.ref ay) = true)
   (qi : PySem.W.findIn K (.ref ay) "boxes" = some none)
   (qj : PySem.W.findIn K (.ref ay) "names" = some none)
   (rJ : PySem.W.findIn K (.ref ay) "tree" = some none)
   (t8 : PySem.W.findIn K (.ref ay) "ins" = some none)
   (rK : PySem.W.findIn K (.ref ay) "outs" = some none)
   (rL : PySem.W.findIn K (.ref ay) "ways" = some none)
   (Nh : PySem.W.nsIn K mainGlobals "Tree" = some (some (.ref aB))) (Hs : PySem.W.plainGet K aB Str.empty = true) (Ht : PySem.W.hasDictIn K aB = true) (Hu : PySem.W.plainOver K aB = true) (Hv : PySem.W.findIn K (.ref aB) "__setattr__" = some (some (.builtin "object.__setattr__"))) (Hw : PySem.W.makesIn K aB = true) (Hx : PySem.W.keepIn K (.ref aB) = true)
   (rM : PySem.W.findIn K (.ref aB) "kinds" = some none)
   (qk : PySem.W.findIn K (.ref aB) "elders" = some none)
   (ql : PySem.W.findIn K (.ref aB) "starts" = some none)
   (Ah : PySem.W.nsIn K mainGlobals "BadTree" = some (some (.ref aj)))
   {Ni Nj : Str} {Ai : Addr} {Nk Eb Nm : List Value} {Nn Np : Bool} {Nq : List Str} {Kp : Option Bool} {Nr : Option Addr} {Nt Nu Nv Nx Ny : Option Value} (wI : K.lookup aj = some (excClassObj Ni Nj aj Ai Nk Eb Nn Nq Nm Np Kp Nr Nt Nu Nv Nx Ny "ValueError.__new__")) (wJ : PySem.W.nsOkIn K Ai = true) (wK : PySem.W.nsIn K Ai "__init__" = some none) (wL : PySem.W.tailIn K qQ Eb = true)
   (Aj : PySem.W.nsIn K mainGlobals "BadName" = some (some (.ref ak)))
   {Nz NB : Str} {Ak : Addr} {NC Ec NF : List Value} {NK NP : Bool} {NQ : List Str} {Kq : Option Bool} {NR : Option Addr} {NS NT NV NW NX : Option Value} (wN : K.lookup ak = some (excClassObj Nz NB ak Ak NC Ec NK NQ NF NP Kq NR NS NT NV NW NX "ValueError.__new__")) (wO : PySem.W.nsOkIn K Ak = true) (wQ : PySem.W.nsIn K Ak "__init__" = some none) (wR : PySem.W.tailIn K qQ Ec = true)
   (Ed : PySem.W.nsIn K mainGlobals "BadBox" = some (some (.ref au)))
   {Ti Tj : Str} {Ef : Addr} {Tp FL Tq : List Value} {Tr Tt : Bool} {Tv : List Str} {NZ : Option Bool} {Tw : Option Addr} {Tz TF TH TJ TL : Option Value} (Al : K.lookup au = some (excClassObj Ti Tj au Ef Tp FL Tr Tv Tq Tt NZ Tw Tz TF TH TJ TL "ValueError.__new__")) (Am : PySem.W.nsOkIn K Ef = true) (An : PySem.W.nsIn K Ef "__init__" = some none) (Ao : PySem.W.tailIn K qQ FL = true)
   (Aq : PySem.W.nsIn K mainGlobals "BadDeed" = some (some (.ref ao)))
   {N1 N2 : Str} {As : Addr} {N3 Eg N4 : List Value} {N5 N6 : Bool} {N7 : List Str} {Kr : Option Bool} {N8 : Option Addr} {N9 Oa Ob Oc Od : Option Value} (wU : K.lookup ao = some (excClassObj N1 N2 ao As N3 Eg N5 N7 N4 N6 Kr N8 N9 Oa Ob Oc Od "ValueError.__new__")) (wV : PySem.W.nsOkIn K As = true) (wW : PySem.W.nsIn K As "__init__" = some none) (wX : PySem.W.tailIn K qQ Eg = true)
   (Eh : PySem.W.nsIn K mainGlobals "BadWay" = some (some (.ref av)))
   {TN TQ : Str} {Ei : Addr} {TR FN TV : List Value} {TX TY : Bool} {T3 : List Str} {Oe : Option Bool} {T4 : Option Addr} {T5 T6 T7 T8 T9 : Option Value} (Au : K.lookup av = some (excClassObj TN TQ av Ei TR FN TX T3 TV TY Oe T4 T5 T6 T7 T8 T9 "ValueError.__new__")) (Av : PySem.W.nsOkIn K Ei = true) (Aw : PySem.W.nsIn K Ei "__init__" = some none) (Ax : PySem.W.tailIn K qQ FN = true)
   (kR : PySem.W.exmOne K (.ref aj) (.ref au) = some false)
   (jN : PySem.W.exmOne K (.ref aj) (.ref ao) = some false)
   (jO : PySem.W.exmOne K (.ref aj) (.ref ak) = some false)
   (jP : PySem.W.exmOne K (.ref aj) (.ref aj) = some true)
   (kT : PySem.W.exmOne K (.ref aj) (.ref av) = some false)
   (kU : PySem.W.exmOne K (.ref ak) (.ref au) = some false)
   (jQ : PySem.W.exmOne K (.ref ak) (.ref ao) = some false)
   (jR : PySem.W.exmOne K (.ref ak) (.ref ak) = some true)
   (jS : PySem.W.exmOne K (.ref ak) (.ref aj) = some false)
   (kW : PySem.W.exmOne K (.ref ak) (.ref av) = some false)
   (lN : PySem.W.exmOne K (.ref au) (.ref au) = some true)
   (kX : PySem.W.exmOne K (.ref au) (.ref ao) = some false)
   (kY : PySem.W.exmOne K (.ref au) (.ref ak) = some false)
   (kZ : PySem.W.exmOne K (.ref au) (.ref aj) = some false)
   (lO : PySem.W.exmOne K (.ref au) (.ref av) = some false)
   (k6 : PySem.W.exmOne K (.ref ao) (.ref au) = some false)
   (jT : PySem.W.exmOne K (.ref ao) (.ref ao) = some true)
   (jU : PySem.W.exmOne K (.ref ao) (.ref ak) = some false)
   (jV : PySem.W.exmOne K (.ref ao) (.ref aj) = some false)
   (k7 : PySem.W.exmOne K (.ref ao) (.ref av) = some false)
   (lP : PySem.W.exmOne K (.ref av) (.ref au) = some false)
   (k8 : PySem.W.exmOne K (.ref av) (.ref ao) = some false)
   (k9 : PySem.W.exmOne K (.ref av) (.ref ak) = some false)
   (lg : PySem.W.exmOne K (.ref av) (.ref aj) = some false)
   (lQ : PySem.W.exmOne K (.ref av) (.ref av) = some true)
   (Ay : PySem.W.nsIn K mainGlobals "_law_cell_at" = some (some (.ref Ad))) (Az : nS K "_law_cell_at" "_law_cell_at" uG Ad Te)
   (AA : PySem.W.nsIn K mainGlobals "_law_tree_by" = some (some (.ref Ae))) (AF : nS K "_law_tree_by" "_law_tree_by" uH Ae Tf)
   (wY : PySem.W.nsIn K mainGlobals "_law_kinds_by" = some (some (.ref wF))) (wZ : nS K "_law_kinds_by" "_law_kinds_by" qU wF Nf)
   (Og : PySem.W.nsIn K mainGlobals "_law_some" = some (some (.ref M7))) (Oh : nS K "_law_some" "_law_some" GD M7 adp)
   (Oi : PySem.W.nsIn K mainGlobals "_law_term" = some (some (.ref M8))) (Oj : nS K "_law_term" "_law_term" GF M8 adq)
   (Ol : PySem.W.nsIn K mainGlobals "_law_deed" = some (some (.ref M9))) (Om : nS K "_law_deed" "_law_deed" GJ M9 ads)
   (Xc : PySem.W.nsIn K mainGlobals "_law_ask" = some (some (.ref W9))) (Xd : nS K "_law_ask" "_law_ask" QK W9 agb)
   (Xe : PySem.W.nsIn K mainGlobals "_law_way" = some (some (.ref Xa))) (Xf : nS K "_law_way" "_law_way" QL Xa agc)
   (Hy : PySem.W.nsIn K mainGlobals "_law_parts" = some (some (.ref Hi))) (Hz : nS K "_law_parts" "_law_parts" CK Hi ZH)
   (t9 : PySem.W.nsIn K mainGlobals "_law_good_tree" = some (some (.ref tX))) (ua : nS K "_law_good_tree" "_law_good_tree" pL tX Kg)
   (uc : PySem.W.nsIn K mainGlobals "_law_good_name" = some (some (.ref tY))) (ud : nS K "_law_good_name" "_law_good_name" pN tY Kh)
   (Oo : PySem.W.nsIn K mainGlobals "_law_near" = some (some (.ref Nb))) (Oq : nS K "_law_near" "_law_near" GR Nb adt)
   (uf : PySem.W.nsIn K mainGlobals "_law_good_term" = some (some (.ref tZ))) (ug : nS K "_law_good_term" "_law_good_term" pO tZ Kl)
   (w4 : PySem.W.nsIn K mainGlobals "_law_good_ask" = some (some (.ref wG))) (w6 : nS K "_law_good_ask" "_law_good_ask" rm wG Ng)
   (uh : PySem.W.nsIn K mainGlobals "_law_good_ways" = some (some (.ref t6))) (um : nS K "_law_good_ways" "_law_good_ways" pP t6 Km)
   (uo : PySem.W.nsIn K mainGlobals "_law_good_deed" = some (some (.ref t7))) (uq : nS K "_law_good_deed" "_law_good_deed" pQ t7 Kn)
   (Xg : PySem.W.nsIn K mainGlobals "_law_due" = some (some (.ref Xb))) (Xh : nS K "_law_due" "_law_due" QX Xb agd)
   (HB : PySem.W.nsIn K mainGlobals "above" = some (some (.ref Hj))) (HC : nS K "above" "above" CP Hj yo)
   (HD : PySem.W.nsIn K mainGlobals "depth" = some (some (.ref Hl))) (HF : nS K "depth" "depth" CQ Hl GZ)
   (jW : PySem.W.nsIn K mainGlobals "are_elders_right" = some (some (.ref jL))) (jX : nS K "are_elders_right" "are_elders_right" gH jL jH)
   (lq : PySem.W.nsIn K mainGlobals "are_kinds_right" = some (some (.ref kN))) (lu : nS K "are_kinds_right" "are_kinds_right" ig kN kD)
   (w9 : PySem.W.nsIn K mainGlobals "is_place" = some (some (.ref wH))) (xg : nS K "is_place" "is_place" rz wH dG)
   (jY : PySem.W.nsIn K mainGlobals "are_starts_right" = some (some (.ref jM))) (jZ : nS K "are_starts_right" "are_starts_right" gJ jM jI)
   (mW : PySem.W.nsIn K mainGlobals "is_tree_right" = some (some (.ref mS))) (mX : nS K "is_tree_right" "is_tree_right" jz mS jC)
   (AG : PySem.W.nsIn K mainGlobals "is_name" = some (some (.ref Af))) (AH : nS K "is_name" "is_name" uQ Af j6)
   (ly : PySem.W.nsIn K mainGlobals "are_names_right" = some (some (.ref kO))) (lz : nS K "are_names_right" "are_names_right" iB kO dR)
   (rN : PySem.W.nsIn K mainGlobals "is_bounded" = some (some (.ref rH))) (rO : nS K "is_bounded" "is_bounded" nI rH kG)
   (lA : PySem.W.nsIn K mainGlobals "are_boxes_right" = some (some (.ref kP))) (lB : nS K "are_boxes_right" "are_boxes_right" iC kP iJ)
   (mY : PySem.W.nsIn K mainGlobals "is_term_right" = some (some (.ref mU))) (mZ : nS K "is_term_right" "is_term_right" jA mU dX)
   (m5 : PySem.W.nsIn K mainGlobals "is_deed_right" = some (some (.ref mV))) (m7 : nS K "is_deed_right" "is_deed_right" jB mV mR)
   (lC : PySem.W.nsIn K mainGlobals "are_deeds_right" = some (some (.ref kQ))) (lD : nS K "are_deeds_right" "are_deeds_right" iI kQ iK)
   (oN : PySem.W.nsIn K mainGlobals "is_ask_right" = some (some (.ref oK))) (oO : nS K "is_ask_right" "is_ask_right" kJ oK oG)
   (oQ : PySem.W.nsIn K mainGlobals "is_way_right" = some (some (.ref oM))) (oR : nS K "is_way_right" "is_way_right" kK oM oH)
   (lR : PySem.W.nsIn K mainGlobals "are_ways_right" = some (some (.ref lM))) (lS : nS K "are_ways_right" "are_ways_right" jh lM ji)
   (Ej : PySem.W.nsIn K mainGlobals "looked" = some (some (.ref yO))) (ur : nS K "looked" "looked" tO yO mH)
   (AI : PySem.W.nsIn K mainGlobals "_law_refusal" = some (some (.ref Ag))) (AJ : nS K "_law_refusal" "_law_refusal" uT Ag Tg)
   (uv : PySem.W.findIn K (.ref aB) "__init__" = some (some (.ref p9))) (uw : PySem.W.isFn K (.ref p9) = true) (Bs : nS K "__init__" "Tree.__init__" p8 p9 Ko)
   (rP : PySem.W.findIn K (.ref ay) "__init__" = some (some (.ref nP))) (rQ : PySem.W.isFn K (.ref nP) = true) (yP : nS K "__init__" "Chart.__init__" nO nP Hq)
   (HG : PySem.W.nsIn K mainGlobals "_law_chart" = some (some (.ref Ho))) (HJ : nS K "_law_chart" "_law_chart" CT Ho ZI)
   (Rg : PySem.W.nsIn K mainGlobals "law" = some (some (.ref aaY))) (Xi : nS K "law" "law" Rb aaY aaZ)
   (Xj : PySem.W.nsIn K mainGlobals "len" = some none)
   (Xk : PySem.W.nsIn K mainGlobals "int" = some none)
   (HK : PySem.W.nsIn K mainGlobals "range" = some none)
   (Xl : PySem.W.nsIn K mainGlobals "max" = some none)
   (HL : PySem.W.nsIn K mainGlobals "tuple" = some none)
   (Xm : PySem.W.nsIn K mainGlobals "str" = some none)
   (Ek : PySem.W.nsIn K mainGlobals "sorted" = some none)
   (Xn : PySem.W.nsIn K mainGlobals "all" = some none)
   (Xo : PySem.W.nsIn K mainGlobals "set" = some none)
   {Ot : Tok} (AK : PySem.W.nsIn K mainGlobals "DEEPEST" = some (some (.int 12 Ot)))
   (ux : PySem.W.nsIn K mainGlobals "enumerate" = some none)
   {Rh : Addr} {Xp : Option Addr} {G0 : Nat} {Xq : Array (Option Value)} {Ou Ov Ow : Tok} (HM : PySem.W.nsIn K mainGlobals "KINDS" = some (some (.ref Rh))) (El : K.lookup Rh = some ⟨.type "tuple", Xp, .seq #[.str "leaf" Ou, .str "one" Ov, .str "all" Ow] G0, Xq⟩)
   {BQ : Tok} (oS : PySem.W.nsIn K mainGlobals "LONGEST_NAME" = some (some (.int 12 BQ)))
   {Ri : Addr} {Xr : Option Addr} {G3 : Nat} {Xs : Array (Option Value)} {Ox Oz OB OD OG OI OJ OL OO OQ Ks Ku Kv Kw Kx Ky Kz KC KD : Tok} (HN : PySem.W.nsIn K mainGlobals "WORDS" = some (some (.ref Ri))) (Em : K.lookup Ri = some ⟨.type "tuple", Xr, .seq #[.str "all" Ox, .str "and" Oz, .str "box" OB, .str "call" OD, .str "do" OG, .str "far" OI, .str "if" OJ, .str "in" OL, .str "leaf" OO, .str "near" OQ, .str "on" Ks, .str "one" Ku, .str "open" Kv, .str "out" Kw, .str "put" Kx, .str "say" Ky, .str "shut" Kz, .str "then" KC, .str "to" KD] G3, Xs⟩)
   {OS : Tok} (AO : PySem.W.nsIn K mainGlobals "LETTERS" = some (some (.str "abcdefghijklmnopqrstuvwxyz" OS)))
   {rR : Tok} (ia : PySem.W.nsIn K mainGlobals "LETTERS_AND_FIGURES" = some (some (.str "abcdefghijklmnopqrstuvwxyz0123456789" rR)))
   {Xu : Tok} (HP : PySem.W.nsIn K mainGlobals "DEEDS" = some (some (.int 3 Xu)))
   {Rj : Addr} {Xv : Option Addr} {G6 : Nat} {Xw : Array (Option Value)} {OU OV OW OX : Tok} (HQ : PySem.W.nsIn K mainGlobals "MARKS" = some (some (.ref Rj))) (En : K.lookup Rj = some ⟨.type "tuple", Xv, .seq #[.str "<" OU, .str "<=" OV, .str "=" OW, .str "!=" OX] G6, Xw⟩)
   {Ua : Tok} (Eo : PySem.W.nsIn K mainGlobals "TARGET" = some (some (.int 4 Ua)))
   {ZJ : Tok} (OY : PySem.W.nsIn K mainGlobals "MODE" = some (some (.int 5 ZJ)))
   {Ub : Tok} (Ep : PySem.W.nsIn K mainGlobals "SOURCE" = some (some (.int 0 Ub)))
   {ZK : Tok} (OZ : PySem.W.nsIn K mainGlobals "SIGN" = some (some (.int 1 ZK)))
   {Rk : Addr} {Xx : Option Addr} {G7 : Nat} {Xy : Array (Option Value)} {O1 O2 O4 : Tok} (HR : PySem.W.nsIn K mainGlobals "MODES" = some (some (.ref Rk))) (Er : K.lookup Rk = some ⟨.type "tuple", Xx, .seq #[.str "new" O1, .str "near" O2, .str "far" O4] G7, Xy⟩)
   {ZL : Tok} (O5 : PySem.W.nsIn K mainGlobals "ASKS" = some (some (.int 2 ZL)))
   (O6 : PySem.W.nsIn K mainGlobals "list" = some none)
   : ∃ fd : FuncData, (∀ (s : Shared) (v : Value), BindsTo s fd ⟨[v], []⟩ [("script", v)]) /\ ∀ base : Heap, K.In base -> base.Ns mainGlobals mg -> cJ l.prog w K mg base lF 8 fa fd ["script"] (nT K (fun _ => 0) 1 uX uY uZ) := by
 have e := hfa.symm.trans (alX XX G Rg)
 cases e
 have Uc := alX XX G Ay
 have Ud := Az.binds (ps := ["script", "k"]) fun _ _ _ _ _ _ => by refine bP ?_; exact fun _ _ => rfl
 have Ue := alX XX G AA
 have Ug := AF.binds (ps := ["script", "many", "deep"]) fun _ _ _ _ _ _ => by refine bP ?_; exact fun _ _ _ => rfl
 have O7 := alX XX G wY
 have O8 := wZ.binds (ps := ["script", "elders"]) fun _ _ _ _ _ _ => by refine bP ?_; exact fun _ _ => rfl
 have adu := alX XX G Og
 have adv := Oh.binds (ps := ["cell", "good", "bad"]) fun _ _ _ _ _ _ => by refine bP ?_; exact fun _ _ _ => rfl
 have adw := alX XX G Oi
 have adx := Oj.binds (ps := ["cell", "many"]) fun _ _ _ _ _ _ => by refine bP ?_; exact fun _ _ => rfl
 have ady := alX XX G Ol
 have adz := Om.binds (ps := ["cell", "many"]) fun _ _ _ _ _ _ => by refine bP ?_; exact fun _ _ => rfl
 have age := alX XX G Xc
 have agf := Xd.binds (ps := ["cell", "many", "moods"]) fun _ _ _ _ _ _ => by refine bP ?_; exact fun _ _ _ => rfl
 have agg := alX XX G Xe
 have agh := Xf.binds (ps := ["script", "at", "source", "many", "moods"]) fun _ _ _ _ _ _ => by refine bP ?_; exact fun _ _ _ _ _ => rfl
 have ZM := alX XX G Hy
 have ZN := Hz.binds (ps := ["script"]) fun _ _ _ _ _ _ => by refine bP ?_; exact fun _ => rfl
 have KG := alX XX G t9
 have KH := ua.binds (ps := ["kinds", "elders", "starts"]) fun _ _ _ _ _ _ => by refine bP ?_; exact fun _ _ _ => rfl
 have KJ := alX XX G uc
 have KL := ud.binds (ps := ["text"]) fun _ _ _ _ _ _ => by refine bP ?_; exact fun _ => rfl
 have adA := alX XX G Oo
 have adB := Oq.binds (ps := ["number"]) fun _ _ _ _ _ _ => by refine bP ?_; exact fun _ => rfl
 have KN := alX XX G uf
 have KP := ug.binds (ps := ["term", "many"]) fun _ _ _ _ _ _ => by refine bP ?_; exact fun _ _ => rfl
 have O9 := alX XX G w4
 have Pa := w6.binds (ps := ["ask", "many", "moods"]) fun _ _ _ _ _ _ => by refine bP ?_; exact fun _ _ _ => rfl
 have KQ := alX XX G uh
 have KR := um.binds (ps := ["ways", "many", "moods"]) fun _ _ _ _ _ _ => by refine bP ?_; exact fun _ _ _ => rfl
 have KS := alX XX G uo
 have KW := uq.binds (ps := ["deed", "many"]) fun _ _ _ _ _ _ => by refine bP ?_; exact fun _ _ => rfl
 have agi := alX XX G Xg
 have agj := Xh.binds (ps := ["parts"]) fun _ _ _ _ _ _ => by refine bP ?_; exact fun _ => rfl
 have ZO := alX XX G HB
 have ZP := HC.binds (ps := ["tree", "mood"]) fun _ _ _ _ _ _ => by refine bP ?_; exact fun _ _ => rfl
 have ZQ := alX XX G HD
 have ZR := HF.binds (ps := ["tree", "mood"]) fun _ _ _ _ _ _ => by refine bP ?_; exact fun _ _ => rfl
 have xh := alX XX G jW
 have xj := jX.binds (ps := ["tree"]) fun _ _ _ _ _ _ => by refine bP ?_; exact fun _ => rfl
 have yQ := alX XX G lq
 have yR := lu.binds (ps := ["tree"]) fun _ _ _ _ _ _ => by refine bP ?_; exact fun _ => rfl
 have Pb := alX XX G w9
 have Pg := xg.binds (ps := ["number", "row"]) fun _ _ _ _ _ _ => by refine bP ?_; exact fun _ _ => rfl
 have xm := alX XX G jY
 have xo := jZ.binds (ps := ["tree"]) fun _ _ _ _ _ _ => by refine bP ?_; exact fun _ => rfl
 have BR := alX XX G mW
 have BU := mX.binds (ps := ["tree", "names"]) fun _ _ _ _ _ _ => by refine bP ?_; exact fun _ _ => rfl
 have Uh := alX XX G AG
 have Ui := AH.binds (ps := ["text"]) fun _ _ _ _ _ _ => by refine bP ?_; exact fun _ => rfl
 have yS := alX XX G ly
 have yT := lz.binds (ps := ["names"]) fun _ _ _ _ _ _ => by refine bP ?_; exact fun _ => rfl
 have HS := alX XX G rN
 have HV := rO.binds (ps := ["number"]) fun _ _ _ _ _ _ => by refine bP ?_; exact fun _ => rfl
 have yU := alX XX G lA
 have yV := lB.binds (ps := ["boxes"]) fun _ _ _ _ _ _ => by refine bP ?_; exact fun _ => rfl
 have BV := alX XX G mY
 have BW := mZ.binds (ps := ["chart", "term"]) fun _ _ _ _ _ _ => by refine bP ?_; exact fun _ _ => rfl
 have BX := alX XX G m5
 have BZ := m7.binds (ps := ["chart", "deed"]) fun _ _ _ _ _ _ => by refine bP ?_; exact fun _ _ => rfl
 have yW := alX XX G lC
 have yX := lD.binds (ps := ["chart"]) fun _ _ _ _ _ _ => by refine bP ?_; exact fun _ => rfl
 have Es := alX XX G oN
 have Et := oO.binds (ps := ["chart", "ask"]) fun _ _ _ _ _ _ => by refine bP ?_; exact fun _ _ => rfl
 have Eu := alX XX G oQ
 have Ew := oR.binds (ps := ["chart", "way"]) fun _ _ _ _ _ _ => by refine bP ?_; exact fun _ _ => rfl
 have AQ := alX XX G lR
 have AU := lS.binds (ps := ["chart"]) fun _ _ _ _ _ _ => by refine bP ?_; exact fun _ => rfl
 have KY := alX XX G Ej
 have KZ := ur.binds (ps := ["chart"]) fun _ _ _ _ _ _ => by refine bP ?_; exact fun _ => rfl
 have Uj := alX XX G AI
 have Uk := AJ.binds (ps := ["chart"]) fun _ _ _ _ _ _ => by refine bP ?_; exact fun _ => rfl
 have K0 := Bs.binds (ps := ["self", "kinds", "elders", "starts"]) fun _ _ _ _ _ _ => by refine bP ?_; exact fun _ _ _ _ => rfl
 have HW := yP.binds (ps := ["self", "boxes", "names", "tree", "ins", "outs", "ways"]) fun _ _ _ _ _ _ => by refine bP ?_; exact fun _ _ _ _ _ _ _ => rfl
 have ZS := alX XX G HG
 have ZT := HJ.binds (ps := ["parts"]) fun _ _ _ _ _ _ => by refine bP ?_; exact fun _ => rfl
 have ajU := alX XX G Rg
 have ajV := Xi.binds (ps := ["script"]) fun _ _ _ _ _ _ => by refine bP ?_; exact fun _ => rfl
 have ZU := alX XX G Hr
 have bF : zF K ay := ⟨D5, D6, D7, D8⟩
 have nQ : zF K ((cl ay aB aj ak au ao av) "Chart") := by rw [kM]; exact bF
 have jx : bq K ((cl ay aB aj ak au ao av) "Chart") "boxes" := by rw [kM]; exact qi
 have g5 : bq K ((cl ay aB aj ak au ao av) "Chart") "names" := by rw [kM]; exact qj
 have rS : bq K ((cl ay aB aj ak au ao av) "Chart") "tree" := by rw [kM]; exact rJ
 have Bt : bq K ((cl ay aB aj ak au ao av) "Chart") "ins" := by rw [kM]; exact t8
 have yZ : bq K ((cl ay aB aj ak au ao av) "Chart") "outs" := by rw [kM]; exact rK
 have rT : bq K ((cl ay aB aj ak au ao av) "Chart") "ways" := by rw [kM]; exact rL
 have adC := alX XX G Nh
 have dW : zF K aB := ⟨Hs, Ht, Hu, Hv⟩
 have AV : zF K ((cl ay aB aj ak au ao av) "Tree") := by rw [u0]; exact dW
 have nR : bq K ((cl ay aB aj ak au ao av) "Tree") "kinds" := by rw [u0]; exact rM
 have g6 : bq K ((cl ay aB aj ak au ao av) "Tree") "elders" := by rw [u0]; exact qk
 have qm : bq K ((cl ay aB aj ak au ao av) "Tree") "starts" := by rw [u0]; exact ql
 have AW := alX XX G Ah
 have xq : iN K aj := ⟨⟨_, _, _, _, _, _, _, _, _, _, _, _, _, _, _, _, wI, wJ, wK, wL⟩⟩
 have AX := alX XX G Aj
 have xr : iN K ak := ⟨⟨_, _, _, _, _, _, _, _, _, _, _, _, _, _, _, _, wN, wO, wQ, wR⟩⟩
 have Ex := alX XX G Ed
 have AY : iN K au := ⟨⟨_, _, _, _, _, _, _, _, _, _, _, _, _, _, _, _, Al, Am, An, Ao⟩⟩
 have AZ := alX XX G Aq
 have xu : iN K ao := ⟨⟨_, _, _, _, _, _, _, _, _, _, _, _, _, _, _, _, wU, wV, wW, wX⟩⟩
 have Ey := alX XX G Eh
 have A0 : iN K av := ⟨⟨_, _, _, _, _, _, _, _, _, _, _, _, _, _, _, _, Au, Av, Aw, Ax⟩⟩
 have oU := amN XX G Xj
 have Xz := amN XX G Xk
 have u9 := amN XX G HK
 have agk := amN XX G Xl
 have Rl := amN XX G HL
 have agl := amN XX G Xm
 have XA := amN XX G Ek
 have XC := amN XX G Xn
 have aa0 := amN XX G Xo
 have Ul : ∃ u, mg "DEEPEST" = some (.int 12 u) := ⟨_, alX XX G AK⟩
 have Bu := amN XX G ux
 have ZV := alX XX G HM
 have Ez : ∃ u, mg "LONGEST_NAME" = some (.int 12 u) := ⟨_, alX XX G oS⟩
 have ZW := alX XX G HN
 have Um : ∃ u, mg "LETTERS" = some (.str "abcdefghijklmnopqrstuvwxyz" u) := ⟨_, alX XX G AO⟩
 have sA : ∃ u, mg "LETTERS_AND_FIGURES" = some (.str "abcdefghijklmnopqrstuvwxyz0123456789" u) := ⟨_, alX XX G ia⟩
 have ZX : ∃ u, mg "DEEDS" = some (.int 3 u) := ⟨_, alX XX G HP⟩
 have ZY := alX XX G HQ
 have XD : ∃ u, mg "TARGET" = some (.int 4 u) := ⟨_, alX XX G Eo⟩
 have adD : ∃ u, mg "MODE" = some (.int 5 u) := ⟨_, alX XX G OY⟩
 have K1 : ∃ u, mg "SOURCE" = some (.int 0 u) := ⟨_, alX XX G Ep⟩
 have adE : ∃ u, mg "SIGN" = some (.int 1 u) := ⟨_, alX XX G OZ⟩
 have ZZ := alX XX G HR
 have adF : ∃ u, mg "ASKS" = some (.int 2 u) := ⟨_, alX XX G O5⟩
 have Ph := amN XX G O6
 refine ⟨aaZ, ?bind, fun base _ _ => ?_⟩
 case bind =>
   obtain ⟨oc, od, kV, doc, pm, an, gu, ct, UI, rfl, lk, qo⟩ := Xi.ex
   exact fun s v => .of_eq rfl
 have Uo : cJ l.prog w K mg base lF 1 Ad _ ["script", "k"] (nT K (cl ay aB aj ak au ao av) 2 iP iQ iS) := bx Az DB fun gu Ar outer s H E b a hr hp => by
   obtain ⟨p0, p1⟩ := a; refine Sz ?_ p0 p1 hp
   exact ⟨⟨⟨DB.nd, rfl, .never⟩, hr.units⟩, b9 vP 0, b9 vP 1, cZ vP 2, oU⟩
 have vd := dF Uo Uc Az.kp Ud
 have Up : cJ l.prog w K mg base lF 2 Ae _ ["script", "many", "deep"] (nT K (cl ay aB aj ak au ao av) 3 pF mC pG) := bx AF DE fun gu Ar outer s H E b a hr hp => by
   obtain ⟨p0, p1, p2⟩ := a; refine SJ ?_ p0 p1 p2 hp
   exact ⟨⟨⟨DE.nd, rfl, .never⟩, hr.units⟩, b9 fW 0, b9 fW 1, b9 fW 2, b9 fW 3, b9 fW 4, b9 fW 5, cZ fW 6, cZ fW 7, cZ fW 8, cZ fW 9, Xz, cQ vd hr, u9, agk⟩
 have Uq := dF Up Ue AF.kp Ug
 have Pj : cJ l.prog w K mg base lF 2 wF _ ["script", "elders"] (nT K (cl ay aB aj ak au ao av) 2 nu ko ny) := bx wZ Bp fun gu Ar outer s H E b a hr hp => by
   obtain ⟨p0, p1⟩ := a; refine MF ?_ p0 p1 hp
   exact ⟨⟨⟨Bp.nd, rfl, .never⟩, hr.units⟩, b9 cI 0, Jt cI 1, fz cI 1 rfl, b9 cI 2, b9 cI 3, Jt cI 4, fz cI 4 rfl, b9 cI 5, b9 cI 6, b9 cI 7, b9 cI 8, cZ cI 9, cZ cI 10, cZ cI 11, u9, oU, cQ vd hr⟩
 have Pk := dF Pj O7 wZ.kp O8
 have adG : cJ l.prog w K mg base lF 1 M7 _ ["cell", "good", "bad"] (nT K (cl ay aB aj ak au ao av) 3 oj gk res_some) := bx Oh QG fun gu Ar outer s H E b a hr hp => by
   obtain ⟨p0, p1, p2⟩ := a; refine acQ ?_ p0 p1 p2 hp
   exact ⟨⟨⟨QG.nd, rfl, .never⟩, hr.units⟩, b9 Cz 0, b9 Cz 1, b9 Cz 2, cZ Cz 3, oU⟩
 have HX := dF adG adu Oh.kp adv
 have adH : cJ l.prog w K mg base lF 1 M8 _ ["cell", "many"] (nT K (cl ay aB aj ak au ao av) 2 sN sO sP) := bx Oj QH fun gu Ar outer s H E b a hr hp => by
   obtain ⟨p0, p1⟩ := a; refine acS ?_ p0 p1 hp
   exact ⟨⟨⟨QH.nd, rfl, .never⟩, hr.units⟩, b9 yb 0, b9 yb 1, b9 yb 2, b9 yb 3, b9 yb 4⟩
 have XF := dF adH adw Oj.kp adx
 have adI : cJ l.prog w K mg base lF 2 M9 _ ["cell", "many"] (nT K (cl ay aB aj ak au ao av) 2 sR om sS) := bx Om QJ fun gu Ar outer s H E b a hr hp => by
   obtain ⟨p0, p1⟩ := a; refine acU ?_ p0 p1 hp
   exact ⟨⟨⟨QJ.nd, rfl, .never⟩, hr.units⟩, b9 qX 0, b9 qX 1, b9 qX 2, b9 qX 3, b9 qX 4, cZ qX 5, cZ qX 6, cQ HX hr, cQ XF hr⟩
 have XG := dF adI ady Om.kp adz
 have agm : cJ l.prog w K mg base lF 2 W9 _ ["cell", "many", "moods"] (nT K (cl ay aB aj ak au ao av) 3 CB yc CD) := bx Xd WD fun gu Ar outer s H E b a hr hp => by
   obtain ⟨p0, p1, p2⟩ := a; refine afJ ?_ p0 p1 p2 hp
   exact ⟨⟨⟨WD.nd, rfl, .never⟩, hr.units⟩, b9 vS 0, b9 vS 1, b9 vS 2, b9 vS 3, cZ vS 4, cZ vS 5, cZ vS 6, Xz, cQ HX hr, cQ XF hr⟩
 have agn := dF agm age Xd.kp agf
 have ago : cJ l.prog w K mg base lF 3 Xa _ ["script", "at", "source", "many", "moods"] (nT K (cl ay aB aj ak au ao av) 5 CF yd CG) := bx Xf WN fun gu Ar outer s H E b a hr hp => by
   obtain ⟨p0, p1, p2, p3, p4⟩ := a; refine afN ?_ p0 p1 p2 p3 p4 hp
   exact ⟨⟨⟨WN.nd, rfl, .never⟩, hr.units⟩, b9 gn 0, b9 gn 1, b9 gn 2, Jt gn 3, fz gn 3 rfl, Jt gn 4, fz gn 4 rfl, Jt gn 5, fz gn 5 rfl, Jt gn 6, fz gn 6 rfl, b9 gn 7, b9 gn 8, b9 gn 9, b9 gn 10, b9 gn 11, cZ gn 12, cZ gn 13, cZ gn 14, cZ gn 15, cQ vd hr, Rl, u9, cQ HX hr, cQ agn hr, cQ XG hr⟩
 have agp := dF ago agg Xf.kp agh
 have Z0 : cJ l.prog w K mg base lF 4 Hi _ ["script"] (nT K (cl ay aB aj ak au ao av) 1 uK uL uM) := bx Hz JK fun gu Ar outer s H E b a hr hp => by
   refine Zh ?_ a hp
   exact ⟨⟨⟨JK.nd, rfl, .never⟩, hr.units⟩, Jt bA 0, fz bA 0 rfl, b9 bA 1, b9 bA 2, Jt bA 3, fz bA 3 rfl, Jt bA 4, fz bA 4 rfl, b9 bA 5, b9 bA 6, b9 bA 7, b9 bA 8, Jt bA 9, fz bA 9 rfl, b9 bA 10, b9 bA 11, b9 bA 12, b9 bA 13, Jt bA 14, fz bA 14 rfl, b9 bA 15, cZ bA 16, cZ bA 17, cZ bA 18, cZ bA 19, cZ bA 20, cZ bA 21, cZ bA 22, cZ bA 23, cZ bA 24, cZ bA 25, cQ vd hr, Xz, cQ Uq hr, cQ Pk hr, u9, agl, cQ HX hr, Rl, XA, oU, cQ XG hr, cQ agp hr⟩
 have Z6 := dF Z0 ZM Hz.kp ZN
 have K2 : cJ l.prog w K mg base lF 1 tX _ ["kinds", "elders", "starts"] (nT K (cl ay aB aj ak au ao av) 3 lX jq lY) := bx ua yf fun gu Ar outer s H E b a hr hp => by
   obtain ⟨p0, p1, p2⟩ := a; refine JM ?_ p0 p1 p2 hp
   exact ⟨⟨⟨yf.nd, rfl, .never⟩, hr.units⟩, b9 fE 0, b9 fE 1, b9 fE 2, b9 fE 3, b9 fE 4, b9 fE 5, cZ fE 6, cZ fE 7, u9, oU⟩
 have K3 := dF K2 KG ua.kp KH
 have K4 : cJ l.prog w K mg base lF 1 tY _ ["text"] (nT K (cl ay aB aj ak au ao av) 1 gX gY gZ) := bx ud yg fun gu Ar outer s H E b a hr hp => by
   refine JQ ?_ a hp
   exact ⟨⟨⟨yg.nd, rfl, .never⟩, hr.units⟩, b9 nA 0, b9 nA 1, cZ nA 2, cZ nA 3, oU, XC⟩
 have uy := dF K4 KJ ud.kp KL
 have adJ : cJ l.prog w K mg base lF 1 Nb _ ["number"] (nT K (cl ay aB aj ak au ao av) 1 tD tE tF) := bx Oq QW fun gu Ar outer s H E b a hr hp => by
   refine ada ?_ a hp
   exact ⟨⟨⟨QW.nd, rfl, .never⟩, hr.units⟩, b9 Zm 0⟩
 have XH := dF adJ adA Oq.kp adB
 have K5 : cJ l.prog w K mg base lF 2 tZ _ ["term", "many"] (nT K (cl ay aB aj ak au ao av) 2 jr jt ju) := bx ug yh fun gu Ar outer s H E b a hr hp => by
   obtain ⟨p0, p1, p2⟩ := a; refine JT ?_ p0 p1 p2 hp
   exact ⟨⟨⟨yh.nd, rfl, .never⟩, hr.units⟩, b9 rg 0, b9 rg 1, cZ rg 2, cQ XH hr⟩
 have Bv := dF K5 KN ug.kp KP
 have Pn : cJ l.prog w K mg base lF 3 wG _ ["ask", "many", "moods"] (nT K (cl ay aB aj ak au ao av) 3 nB nE nF) := bx w6 Bq fun gu Ar outer s H E b a hr hp => by
   obtain ⟨p0, p1, p2⟩ := a; refine MX ?_ p0 p1 p2 hp
   exact ⟨⟨⟨Bq.nd, rfl, .never⟩, hr.units⟩, b9 mF 0, b9 mF 1, b9 mF 2, cZ mF 3, cZ mF 4, oU, cQ Bv hr⟩
 have Pp := dF Pn O9 w6.kp Pa
 have K6 : cJ l.prog w K mg base lF 4 t6 _ ["ways", "many", "moods"] (nT K (cl ay aB aj ak au ao av) 3 lZ jv l0) := bx um yi fun gu Ar outer s H E b a hr hp => by
   obtain ⟨p0, p1, p2⟩ := a; refine JW ?_ p0 p1 p2 hp
   exact ⟨⟨⟨yi.nd, rfl, .never⟩, hr.units⟩, b9 ez 0, Jt ez 1, fz ez 1 rfl, Jt ez 2, fz ez 2 rfl, b9 ez 3, b9 ez 4, cZ ez 5, cZ ez 6, cQ uy hr, XC, cQ Pp hr⟩
 have K7 := dF K6 KQ um.kp KR
 have K8 : cJ l.prog w K mg base lF 3 t7 _ ["deed", "many"] (nT K (cl ay aB aj ak au ao av) 2 mh mj mq) := bx uq yj fun gu Ar outer s H E b a hr hp => by
   obtain ⟨p0, p1⟩ := a; refine JY ?_ p0 p1 hp
   exact ⟨⟨⟨yj.nd, rfl, .never⟩, hr.units⟩, b9 nG 0, b9 nG 1, cZ nG 2, cZ nG 3, cQ uy hr, cQ Bv hr⟩
 have K9 := dF K8 KS uq.kp KW
 have agq : cJ l.prog w K mg base lF 5 Xb _ ["parts"] (nT K (cl ay aB aj ak au ao av) 1 CM yk CN) := bx Xh WY fun gu Ar outer s H E b a hr hp => by
   obtain ⟨p0, p1, p2, p3, p4, p5, p6, p7⟩ := a; refine af0 ?_ p0 p1 p2 p3 p4 p5 p6 p7 hp
   exact ⟨⟨⟨WY.nd, rfl, .never⟩, hr.units⟩, b9 ou 0, Jt ou 1, fz ou 1 rfl, b9 ou 2, b9 ou 3, b9 ou 4, cZ ou 5, cZ ou 6, cZ ou 7, cZ ou 8, cZ ou 9, oU, cQ K3 hr, aa0, XC, cQ K7 hr, cQ uy hr, cQ XH hr, cQ K9 hr⟩
 have agr := dF agq agi Xh.kp agj
 have Z7 : cJ l.prog w K mg base lF 1 Hj _ ["tree", "mood"] (nT K (cl ay aB aj ak au ao av) 2 qx nV qy) := bx HC J4 fun gu Ar outer s H E b a hr hp => by
   obtain ⟨p0, p1, p2, p3⟩ := a; refine Zo ?_ p0 p1 p2 p3 hp
   exact ⟨⟨⟨J4.nd, rfl, .never⟩, hr.units⟩, b9 ym 0, b9 ym 1, b9 ym 2, b9 ym 3, AV, g6⟩
 have Rm := dF Z7 ZO HC.kp ZP
 have Z8 : cJ l.prog w K mg base lF 2 Hl _ ["tree", "mood"] (nT K (cl ay aB aj ak au ao av) 2 uO qz uP) := bx HF J5 fun gu Ar outer s H E b a hr hp => by
   obtain ⟨p0, p1, p2, p3⟩ := a; refine Zr ?_ p0 p1 p2 p3 hp
   exact ⟨⟨⟨J5.nd, rfl, .never⟩, hr.units⟩, b9 yp 0, b9 yp 1, cZ yp 2, cZ yp 3, oU, cQ Rm hr⟩
 have Z9 := dF Z8 ZQ HF.kp ZR
 have xx : cJ l.prog w K mg base lF 3 jL _ ["tree"] (nT K (cl ay aB aj ak au ao av) 1 fF dO fG) := bx jX m9 fun gu Ar outer s H E b a hr hp => by
   obtain ⟨p0, p1, p2⟩ := a; refine vZ ?_ p0 p1 p2 hp
   exact ⟨⟨⟨m9.nd, rfl, .never⟩, hr.units⟩, b9 bU 0, b9 bU 1, b9 bU 2, cZ bU 3, cZ bU 4, cZ bU 5, cZ bU 6, cZ bU 7, u9, oU, cQ Rm hr, cQ Z9 hr, Ul, AV, g6⟩
 have xA := dF xx xh jX.kp xj
 have y9 : cJ l.prog w K mg base lF 1 kN _ ["tree"] (nT K (cl ay aB aj ak au ao av) 1 fY dZ fZ) := bx lu ow fun gu Ar outer s H E b a hr hp => by
   obtain ⟨p0, p1, p2⟩ := a; refine yr ?_ p0 p1 p2 hp
   exact ⟨⟨⟨ow.nd, rfl, .never⟩, hr.units⟩, b9 cU 0, b9 cU 1, b9 cU 2, b9 cU 3, b9 cU 4, cZ cU 5, cZ cU 6, Bu, Qs ZV El (aH rfl) (.cons ⟨_, rfl⟩ (.cons ⟨_, rfl⟩ (.cons ⟨_, rfl⟩ (.nil)))), AV, g6, nR⟩
 have za := dF y9 yQ lu.kp yR
 have Pq : cJ l.prog w K mg base lF 1 wH _ ["number", "row"] (nT K (cl ay aB aj ak au ao av) 2 fH fJ fK) := bx xg Br fun gu Ar outer s H E b a hr hp => by
   obtain ⟨p0, p1⟩ := a; refine M0 ?_ p0 p1 hp
   exact ⟨⟨⟨Br.nd, rfl, .never⟩, hr.units⟩, b9 tN 0, b9 tN 1, cZ tN 2, oU⟩
 have oV := dF Pq Pb xg.kp Pg
 have xB : cJ l.prog w K mg base lF 2 jM _ ["tree"] (nT K (cl ay aB aj ak au ao av) 1 fL dP fM) := bx jZ ng fun gu Ar outer s H E b a hr hp => by
   obtain ⟨p0, p1, p2⟩ := a; refine v8 ?_ p0 p1 p2 hp
   exact ⟨⟨⟨ng.nd, rfl, .never⟩, hr.units⟩, b9 d7 0, b9 d7 1, b9 d7 2, cZ d7 3, cZ d7 4, Bu, cQ oV hr, AV, qm, nR, g6⟩
 have xC := dF xB xm jZ.kp xo
 have B3 : cJ l.prog w K mg base lF 4 mS _ ["tree", "names"] (nT K (cl ay aB aj ak au ao av) 2 iu iy iz) := bx mX qA fun gu Ar outer s H E b a hr hp => by
   obtain ⟨p0, p1, p2, p3⟩ := a; refine BI ?_ p0 p1 p2 p3 hp
   exact ⟨⟨⟨qA.nd, rfl, .never⟩, hr.units⟩, b9 dH 0, b9 dH 1, b9 dH 2, cZ dH 3, cZ dH 4, cZ dH 5, cZ dH 6, oU, cQ xA hr, cQ za hr, cQ xC hr, AV, nR, g6, qm⟩
 have sf := dF B3 BR mX.kp BU
 have Ur : cJ l.prog w K mg base lF 1 Af _ ["text"] (nT K (cl ay aB aj ak au ao av) 1 j3 j4 j5) := bx AH DQ fun gu Ar outer s H E b a hr hp => by
   refine S6 ?_ a hp
   exact ⟨⟨⟨DQ.nd, rfl, .never⟩, hr.units⟩, b9 jJ 0, b9 jJ 1, cZ jJ 2, cZ jJ 3, cZ jJ 4, cZ jJ 5, cZ jJ 6, oU, Ez, Qs ZW Em (aH rfl) (.cons ⟨_, rfl⟩ (.cons ⟨_, rfl⟩ (.cons ⟨_, rfl⟩ (.cons ⟨_, rfl⟩ (.cons ⟨_, rfl⟩ (.cons ⟨_, rfl⟩ (.cons ⟨_, rfl⟩ (.cons ⟨_, rfl⟩ (.cons ⟨_, rfl⟩ (.cons ⟨_, rfl⟩ (.cons ⟨_, rfl⟩ (.cons ⟨_, rfl⟩ (.cons ⟨_, rfl⟩ (.cons ⟨_, rfl⟩ (.cons ⟨_, rfl⟩ (.cons ⟨_, rfl⟩ (.cons ⟨_, rfl⟩ (.cons ⟨_, rfl⟩ (.cons ⟨_, rfl⟩ (.nil)))))))))))))))))))), Um, sA⟩
 have A1 := dF Ur Uh AH.kp Ui
 have zb : cJ l.prog w K mg base lF 2 kO _ ["names"] (nT K (cl ay aB aj ak au ao av) 1 d8 bV d9) := bx lz oz fun gu Ar outer s H E b a hr hp => by
   refine yw ?_ a hp
   exact ⟨⟨⟨oz.nd, rfl, .never⟩, hr.units⟩, b9 eZ 0, b9 eZ 1, cZ eZ 2, cZ eZ 3, cZ eZ 4, cQ A1 hr, oU, aa0⟩
 have lE := dF zb yS lz.kp yT
 have HY : cJ l.prog w K mg base lF 1 rH _ ["number"] (nT K (cl ay aB aj ak au ao av) 1 iU iV iW) := bx rO vt fun gu Ar outer s H E b a hr hp => by
   refine G5 ?_ a hp
   exact ⟨⟨⟨vt.nd, rfl, .never⟩, hr.units⟩, b9 E8 0⟩
 have zc := dF HY HS rO.kp HV
 have zf : cJ l.prog w K mg base lF 3 kP _ ["boxes"] (nT K (cl ay aB aj ak au ao av) 1 f6 di f7) := bx lB oA fun gu Ar outer s H E b a hr hp => by
   refine yy ?_ a hp
   exact ⟨⟨⟨oA.nd, rfl, .never⟩, hr.units⟩, b9 gK 0, b9 gK 1, cZ gK 2, cZ gK 3, cQ zc hr, cQ lE hr⟩
 have qa := dF zf yU lB.kp yV
 have B4 : cJ l.prog w K mg base lF 2 mU _ ["chart", "term"] (nT K (cl ay aB aj ak au ao av) 2 fN fO fP) := bx mZ qB fun gu Ar outer s H E b a hr hp => by
   obtain ⟨p0, p1, p2, p3, p4, p5, p6, p7⟩ := a; refine BK ?_ p0 p1 p2 p3 p4 p5 p6 p7 hp
   exact ⟨⟨⟨qB.nd, rfl, .never⟩, hr.units⟩, b9 ja 0, b9 ja 1, cZ ja 2, cZ ja 3, cQ oV hr, cQ zc hr, nQ, jx⟩
 have sj := dF B4 BV mZ.kp BW
 have B5 : cJ l.prog w K mg base lF 3 mV _ ["chart", "deed"] (nT K (cl ay aB aj ak au ao av) 2 iF iG iH) := bx m7 qC fun gu Ar outer s H E b a hr hp => by
   obtain ⟨p0, p1, p2, p3, p4, p5, p6⟩ := a; refine BO ?_ p0 p1 p2 p3 p4 p5 p6 hp
   exact ⟨⟨⟨qC.nd, rfl, .never⟩, hr.units⟩, b9 eV 0, b9 eV 1, b9 eV 2, cZ eV 3, cZ eV 4, cZ eV 5, cQ oV hr, cQ sj hr, cQ A1 hr, nQ, jx⟩
 have B6 := dF B5 BX m7.kp BZ
 have zg : cJ l.prog w K mg base lF 4 kQ _ ["chart"] (nT K (cl ay aB aj ak au ao av) 1 f9 dm gb) := bx lD oB fun gu Ar outer s H E b a hr hp => by
   obtain ⟨p0, p1, p2, p3, p4, p5⟩ := a; refine yC ?_ p0 p1 p2 p3 p4 p5 hp
   exact ⟨⟨⟨oB.nd, rfl, .never⟩, hr.units⟩, b9 dI 0, b9 dI 1, b9 dI 2, b9 dI 3, cZ dI 4, cZ dI 5, oU, cQ B6 hr, ZX, nQ, g5, Bt, yZ, rT⟩
 have qb := dF zg yW lD.kp yX
 have EA : cJ l.prog w K mg base lF 3 oK _ ["chart", "ask"] (nT K (cl ay aB aj ak au ao av) 2 jb jc jd) := bx oO r9 fun gu Ar outer s H E b a hr hp => by
   obtain ⟨p0, p1, p2, p3, p4, p5, p6⟩ := a; refine DS ?_ p0 p1 p2 p3 p4 p5 p6 hp
   exact ⟨⟨⟨r9.nd, rfl, .never⟩, hr.units⟩, b9 fh 0, b9 fh 1, b9 fh 2, cZ fh 3, cZ fh 4, cZ fh 5, cQ oV hr, Qs ZY En (aH rfl) (.cons ⟨_, rfl⟩ (.cons ⟨_, rfl⟩ (.cons ⟨_, rfl⟩ (.cons ⟨_, rfl⟩ (.nil))))), cQ sj hr, nQ, g5⟩
 have EB := dF EA Es oO.kp Et
 have EC : cJ l.prog w K mg base lF 4 oM _ ["chart", "way"] (nT K (cl ay aB aj ak au ao av) 2 je jf jg) := bx oR sd fun gu Ar outer s H E b a hr hp => by
   obtain ⟨p0, p1, p2, p3, p4, p5, p6⟩ := a; refine DV ?_ p0 p1 p2 p3 p4 p5 p6 hp
   exact ⟨⟨⟨sd.nd, rfl, .never⟩, hr.units⟩, b9 bz 0, b9 bz 1, b9 bz 2, b9 bz 3, b9 bz 4, cZ bz 5, cZ bz 6, cZ bz 7, cZ bz 8, cZ bz 9, cZ bz 10, cZ bz 11, cZ bz 12, cZ bz 13, XD, adD, cQ oV hr, K1, cQ A1 hr, adE, Qs ZZ Er (aH rfl) (.cons ⟨_, rfl⟩ (.cons ⟨_, rfl⟩ (.cons ⟨_, rfl⟩ (.nil)))), adF, cQ EB hr, nQ, g5⟩
 have ED := dF EC Eu oR.kp Ew
 have A2 : cJ l.prog w K mg base lF 5 lM _ ["chart"] (nT K (cl ay aB aj ak au ao av) 1 gM gO gP) := bx lS pT fun gu Ar outer s H E b a hr hp => by
   obtain ⟨p0, p1, p2, p3, p4, p5⟩ := a; refine z7 ?_ p0 p1 p2 p3 p4 p5 hp
   exact ⟨⟨⟨pT.nd, rfl, .never⟩, hr.units⟩, b9 fQ 0, b9 fQ 1, b9 fQ 2, cZ fQ 3, cZ fQ 4, K1, cQ ED hr, nQ, rT⟩
 have qG := dF A2 AQ lS.kp AU
 have XI : cJ l.prog w K mg base lF 6 yO _ ["chart"] (nT K (cl ay aB aj ak au ao av) 1 rC oJ rD) := bx ur uS fun gu Ar outer s H E b a hr hp => by
   obtain ⟨p0, p1, p2, p3, p4, p5, p6, p7⟩ := a; refine W3 ?_ p0 p1 p2 p3 p4 p5 p6 p7 hp
   exact ⟨⟨⟨uS.nd, rfl, .never⟩, hr.units⟩, b9 bQ 0, cZ bQ 1, cZ bQ 2, cZ bQ 3, cZ bQ 4, cZ bQ 5, cZ bQ 6, cZ bQ 7, cZ bQ 8, cZ bQ 9, cZ bQ 10, cQ sf hr, by rw [cV]; exact AW, by rw [cV]; exact xq, cQ lE hr, by rw [cW]; exact AX, by rw [cW]; exact xr, cQ qa hr, by rw [dJ]; exact Ex, by rw [dJ]; exact AY, cQ qb hr, by rw [cX]; exact AZ, by rw [cX]; exact xu, cQ qG hr, by rw [dM]; exact Ey, by rw [dM]; exact A0, nQ, rS, g5, jx⟩
 have XJ := dF XI KY ur.kp KZ
 have Us : cJ l.prog w K mg base (CX8 l.prog w) 6 yO _ ["chart"] (spR K (cl ay aB aj ak au ao av) 1 nL eF nM) := acJ ur uS fun gu Ar outer s H E b a hr hp hE => by
   obtain ⟨p0, p1, p2, p3, p4, p5, p6, p7⟩ := a; refine S7 ?_ p0 p1 p2 p3 p4 p5 p6 p7 hp hE
   exact ⟨⟨⟨uS.nd, rfl, Y5 rfl rfl⟩, hr.units⟩, b9 bQ 0, cZ bQ 1, cZ bQ 2, cZ bQ 3, cZ bQ 4, cZ bQ 5, cZ bQ 6, cZ bQ 7, cZ bQ 8, cZ bQ 9, cZ bQ 10, cQ sf hr, by rw [cV]; exact AW, by rw [cV]; exact xq, cQ lE hr, by rw [cW]; exact AX, by rw [cW]; exact xr, cQ qa hr, by rw [dJ]; exact Ex, by rw [dJ]; exact AY, cQ qb hr, by rw [cX]; exact AZ, by rw [cX]; exact xu, cQ qG hr, by rw [dM]; exact Ey, by rw [dM]; exact A0, nQ, rS, g5, jx⟩
 have Ut : cJ l.prog w K mg base lF 7 Ag _ ["chart"] (nT K (cl ay aB aj ak au ao av) 1 pW pX pY) := bx AJ D4 fun gu Ar outer s H E b a hr hp => by
   obtain ⟨p0, p1, p2, p3, p4, p5, p6, p7⟩ := a; refine Tc ?_ p0 p1 p2 p3 p4 p5 p6 p7 hp
   exact ⟨⟨⟨D4.nd, rfl, .never⟩, hr.units⟩, b9 gQ 0, b9 gQ 1, b9 gQ 2, cZ gQ 3, cZ gQ 4, cZ gQ 5, cZ gQ 6, cZ gQ 7, cZ gQ 8, cQ XJ hr, by rw [cV]; exact AW, by rw [cV]; exact xq, by rw [cW]; exact AX, by rw [cW]; exact xr, by rw [dJ]; exact Ex, by rw [dJ]; exact AY, by rw [cX]; exact AZ, by rw [cX]; exact xu, by rw [dM]; exact Ey, by rw [dM]; exact A0, ⟨⟨_, _, _, Us, KY, ur.kp, KZ⟩, hr.mono (by decide)⟩, rfl, rfl, rfl, by rw [cV, dJ]; exact kR, by rw [cV, cX]; exact jN, by rw [cV, cW]; exact jO, by rw [cV]; exact jP, by rw [cV, dM]; exact kT, by rw [cW, dJ]; exact kU, by rw [cW, cX]; exact jQ, by rw [cW]; exact jR, by rw [cW, cV]; exact jS, by rw [cW, dM]; exact kW, by rw [dJ]; exact lN, by rw [dJ, cX]; exact kX, by rw [dJ, cW]; exact kY, by rw [dJ, cV]; exact kZ, by rw [dJ, dM]; exact lO, by rw [cX, dJ]; exact k6, by rw [cX]; exact jT, by rw [cX, cW]; exact jU, by rw [cX, cV]; exact jV, by rw [cX, dM]; exact k7, by rw [dM, dJ]; exact lP, by rw [dM, cX]; exact k8, by rw [dM, cW]; exact k9, by rw [dM, cV]; exact lg, by rw [dM]; exact lQ⟩
 have Uu := dF Ut Uj AJ.kp Uk
 have La : cJ l.prog w K mg base lF 1 p9 _ ["self", "kinds", "elders", "starts"] (spI K (cl ay aB aj ak au ao av) "Tree" 4 vv vz vA) := Ql Bs yM fun gu Ar outer s H E b a y hr hp => by
   obtain ⟨p0, p1, p2⟩ := a; refine J8 ?_ p0 p1 p2 y hp
   exact ⟨⟨⟨yM.nd, rfl, .never⟩, hr.units⟩, b9 kL 0, b9 kL 1, b9 kL 2, b9 kL 3, cZ kL 4, Ph, AV, nR, g6, qm⟩
 have HZ : cJ l.prog w K mg base lF 1 nP _ ["self", "boxes", "names", "tree", "ins", "outs", "ways"] (spI K (cl ay aB aj ak au ao av) "Chart" 7 tR tS tT) := Ql yP vC fun gu Ar outer s H E b a y hr hp => by
   obtain ⟨p0, p1, p2, p3, p4, p5⟩ := a; refine G9 ?_ p0 p1 p2 p3 p4 p5 y hp
   exact ⟨⟨⟨vC.nd, rfl, .never⟩, hr.units⟩, b9 eS 0, b9 eS 1, b9 eS 2, b9 eS 3, b9 eS 4, b9 eS 5, b9 eS 6, cZ eS 7, Ph, nQ, jx, g5, rS, Bt, yZ, rT⟩
 have aac : cJ l.prog w K mg base lF 3 Ho _ ["parts"] (nT K (cl ay aB aj ak au ao av) 1 uU uV uW) := bx HJ J9 fun gu Ar outer s H E b a hr hp => by
   obtain ⟨p0, p1, p2, p3, p4, p5, p6, p7⟩ := a; refine ZF ?_ p0 p1 p2 p3 p4 p5 p6 p7 hp
   exact ⟨⟨⟨J9.nd, rfl, .never⟩, hr.units⟩, b9 tU 0, b9 tU 1, cZ tU 2, cZ tU 3, cZ tU 4, ⟨⟨_, _, _, by rw [u0]; exact ⟨Hw, uv, uw, Hx⟩, La, by rw [u0]; exact adC, K0⟩, hr.mono (by decide)⟩, Ph, ⟨⟨_, _, _, by rw [kM]; exact ⟨D9, rP, rQ, Ea⟩, HZ, by rw [kM]; exact ZU, HW⟩, hr.mono (by decide)⟩⟩
 have aad := dF aac ZS HJ.kp ZT
 have ags : cJ l.prog w K mg base lF 8 _ _ ["script"] (nT K (cl ay aB aj ak au ao av) 1 uX uY uZ) := bx Xi W8 fun gu Ar outer s H E b a hr hp => by
   refine af9 ?_ a hp
   exact ⟨⟨⟨W8.nd, rfl, .never⟩, hr.units⟩, b9 wC 0, b9 wC 1, b9 wC 2, cZ wC 3, cZ wC 4, cZ wC 5, cZ wC 6, cQ Z6 hr, cQ agr hr, cQ Uu hr, cQ aad hr⟩
 exact ags.imp (ach (fun _ => rfl) (fun _ => rfl) fun x hx => ado hx)
theorem walk {l : PySem.W.OpenLaw} {q : Program} {loose : List Str} {XP : (Str -> Option Value) -> Heap -> Prop} {YP : World -> Heap -> Prop} {d : DefRec} {K : Params -> PySem.W.Frag} (hn : l.most = some 63) (hdf : d.params.defaults = [])
   (hY : ∀ (w : World) (h : Heap), YP w h -> (K w.params).In h)
   (F : ∀ (w : World) (mg : Str -> Option Value) (fa : Addr) (h : Heap), (K w.params).In h -> h.Ns mainGlobals mg -> mg d.name = some (.ref fa) →
     ∃ fd : FuncData, (∀ (s : Shared) (u : Value), BindsTo s fd ⟨[u], []⟩ [("script", u)]) /\ ∀ base : Heap, (K w.params).In base -> base.Ns mainGlobals mg -> cJ l.prog w (K w.params) mg base lF 8 fa fd ["script"] (nT (K w.params) (fun _ => 0) 1 uX uY uZ)) :
   PySem.W.WalkO q loose XP YP l.row.toRowW d [] (fun f vs => PySem.call f vs) :=
 L2.Yu (n := 63) (k := 8) (x := "script") (CX := fun _ => lF) (sp := fun w => nT (K w.params) (fun _ => 0) 1 uX uY uZ) hn (by decide) hdf ⟨rfl, by decide, by decide⟩ hY F (fun _ _ a ns hl _ hS => ab8 rfl hl rfl hS) fun _ _ _ _ _ z => z
end Law
namespace PySem.W.Fast
 def tw8191252391981321909 := 0
 def tw8481151434161794355 := 0
 def tw10319613114440490141 := 0
 def tw8898999394158958109 := 0
 def tw17293065036248953678 := 0
 def tw11683523707525900171 := 0
 def tw7037116055806167794 := 0
 def tw8989356326333867587 := 0
 def tw9086459001063493385 := 0
 def tw12811715275693906667 := 0
 def tw14539039207930431668 := 0
 def tw4219581118621257147 := 0
 def tw10544449099470549552 := 0
 def tw7893333429217742796 := 0
 def tw17338139371859058331 := 0
 def tw1295564464159302282 := 0
 def tw3192713041005656019 := 0
 def tw11625483832528294290 := 0
 def tw10195230655693053661 := 0
 def tw17543303891506211520 := 0
 def tw2464341560373182722 := 0
 def tw5481358668498302026 := 0
 def tw17507572456444405786 := 0
 def tw9030252659905092095 := 0
 def tw3228709256787308001 := 0
 def tw1894103868906950920 := 0
 def tw9559010093033937968 := 0
 def tw5735753806463691682 := 0
 def tw5169936936741038264 := 0
 def tw11550435271283926865 := 0
 def tw7937758476540729067 := 0
 def tw4739693101264797066 := 0
 def tw15488736964763730476 := 0
 def tw17422259685186626287 := 0
 def tw7237138659707213045 := 0
 def tw17924730514690963638 := 0
 def tw1324450238615292343 := 0
 def tw4381890855568037472 := 0
 def tw4086060349756359495 := 0
 def tw16577466604507189209 := 0
 def tw7725443874281660364 := 0
 def tw13507287724595965247 := 0
 def tw4050065416545830063 := 0
 def tw9577276052955976265 := 0
 def tw9161680171068246751 := 0
 def tw18320184386204519550 := 0
 def tw7518559136689224729 := 0
 def tw5046923727795167446 := 0
 def tw3984344968215671118 := 0
 def tw5267683673753654005 := 0
 def tw12696535231746654236 := 0
 def tw6001820569619889020 := 0
 def tw15236783164024751518 := 0
 def tw10755265609546757827 := 0
 def tw18037620070397646261 := 0
 def tw12289857327536258707 := 0
 def tw12510834068627218718 := 0
 def tw2014648632621033072 := 0
 def tw3286633456154017493 := 0
 def tw13268101859193054874 := 0
 def tw7366623036646629691 := 0
 def tw1936049434360598048 := 0
 def tw1564290102343765350 := 0
 def tw1125528322949964227 := 0
 def tw12461312832556573724 := 0
end PySem.W.Fast
open PySem PySem.W PyProof.Rows
set_option maxRecDepth 100000 in
set_option maxHeartbeats 0 in
theorem PySem.Challenge.cw_moodtree_k18_whole_look_by_a_judge_holds : PySem.Challenge.rw_moodtree_k18_whole_look_by_a_judge.Holds := by
 w_on; o_law; k_head; (case hw => w_witness2)
 k_fill
 refine Law.walk (l := PySem.Challenge.rw_moodtree_k18_whole_look_by_a_judge) rfl rfl (fun w h Y => PySem.W.kIn_of Y) ?F
 case F =>
   intro w mg fa h KX G hmg
   refine' Law.all_mk KX G hmg ?Hr ?D5 ?D6 ?D7 ?D8 ?D9 ?Ea ?qi ?qj ?rJ ?t8 ?rK ?rL ?Nh ?Hs ?Ht ?Hu ?Hv ?Hw ?Hx ?rM ?qk ?ql ?Ah ?wI ?wJ ?wK ?wL ?Aj ?wN ?wO ?wQ ?wR ?Ed ?Al ?Am ?An ?Ao ?Aq ?wU ?wV ?wW ?wX ?Eh ?Au ?Av ?Aw ?Ax ?kR ?jN ?jO ?jP ?kT ?kU ?jQ ?jR ?jS ?kW ?lN ?kX ?kY ?kZ ?lO ?k6 ?jT ?jU ?jV ?k7 ?lP ?k8 ?k9 ?lg ?lQ ?Ay (L2.bN ?Uv ?Uw ?Ux) ?AA (L2.bN ?Uy ?Uz ?UA) ?wY (L2.bN ?Pr ?Pu ?Pw) ?Og (L2.bN ?GH ?adK ?adL) ?Oi (L2.bN ?qZ ?adM ?adN) ?Ol (L2.bN ?cO ?adO ?adP) ?Xc (L2.bN ?lH ?agt ?agu) ?Xe (L2.bN ?fX ?agv ?agw) ?Hy (L2.bN ?bJ ?aae ?aaf) ?t9 (L2.bN ?Lb ?Lc ?Ld) ?uc (L2.bN ?Le ?Lf ?Lg) ?Oo (L2.bN ?qV ?adQ ?adR) ?uf (L2.bN ?Lh ?Li ?Lj) ?w4 (L2.bN ?Px ?Py ?Pz) ?uh (L2.bN ?Lk ?Lp ?Lq) ?uo (L2.bN ?Lr ?Ls ?Lv) ?Xg (L2.bN ?Rc ?agx ?agy) ?HB (L2.bN ?aag ?aah ?aai) ?HD (L2.bN ?aaj ?aak ?aal) ?jW (L2.bN ?xD ?xE ?xF) ?lq (L2.bN ?zj ?zk ?zl) ?w9 (L2.bN ?PB ?PD ?PF) ?jY (L2.bN ?xG ?xH ?xJ) ?mW (L2.bN ?B7 ?B8 ?B9) ?AG (L2.bN ?UB ?UC ?UD) ?ly (L2.bN ?zm ?zo ?zq) ?rN (L2.bN ?Ic ?Ie ?Ig) ?lA (L2.bN ?zu ?zv ?zx) ?mY (L2.bN ?Ca ?Cb ?Cd) ?m5 (L2.bN ?Ce ?Cg ?Ci) ?lC (L2.bN ?zy ?zA ?zB) ?oN (L2.bN ?EE ?EF ?EG) ?oQ (L2.bN ?EH ?EI ?EJ) ?lR (L2.bN ?A3 ?A4 ?A5) ?Ej (L2.bN ?XM ?XO ?XQ) ?AI (L2.bN ?UE ?UG ?UH) ?uv ?uw (L2.bN ?Lw ?Lx ?Ly) ?rP ?rQ (L2.bN ?Ih ?Ii ?Ij) ?HG (L2.bN ?aX ?aam ?aan) ?Rg (L2.bN ?agz ?agA ?agB) ?Xj ?Xk ?HK ?Xl ?HL ?Xm ?Ek ?Xn ?Xo ?AK ?ux ?HM ?El ?oS ?HN ?Em ?AO ?ia ?HP ?HQ ?En ?Eo ?OY ?Ep ?OZ ?HR ?Er ?O5 ?O6
   case Hr | D5 | D6 | D7 | D8 | D9 | Ea | qi | qj | rJ | t8 | rK | rL | Nh | Hs | Ht | Hu | Hv | Hw | Hx | rM | qk | ql | Ah | wI => k_is
   case wJ => kernel_rfl
   case wK => k_is
   case wL => kernel_rfl
   case Aj | wN => k_is
   case wO => kernel_rfl
   case wQ => k_is
   case wR => kernel_rfl
   case Ed | Al => k_is
   case Am => kernel_rfl
   case An => k_is
   case Ao => kernel_rfl
   case Aq | wU => k_is
   case wV => kernel_rfl
   case wW => k_is
   case wX => kernel_rfl
   case Eh | Au => k_is
   case Av => kernel_rfl
   case Aw => k_is
   case Ax => kernel_rfl
   case kR => kts_exm
   case jN => kts_exm
   case jO => kts_exm
   case jP => kts_exm
   case kT => kts_exm
   case kU => kts_exm
   case jQ => kts_exm
   case jR => kts_exm
   case jS => kts_exm
   case kW => kts_exm
   case lN => kts_exm
   case kX => kts_exm
   case kY => kts_exm
   case kZ => kts_exm
   case lO => kts_exm
   case k6 => kts_exm
   case jT => kts_exm
   case jU => kts_exm
   case jV => kts_exm
   case k7 => kts_exm
   case lP => kts_exm
   case k8 => kts_exm
   case k9 => kts_exm
   case lg => kts_exm
   case lQ => kts_exm
   case Ay | Uv | Uw | Ux | AA | Uy | Uz | UA | wY | Pr | Pu | Pw | Og | GH | adK | adL | Oi | qZ | adM | adN | Ol | cO | adO | adP | Xc | lH | agt | agu | Xe | fX | agv | agw | Hy | bJ | aae | aaf | t9 | Lb | Lc | Ld | uc | Le | Lf | Lg | Oo | qV | adQ | adR | uf | Lh | Li | Lj | w4 | Px | Py | Pz | uh | Lk | Lp | Lq | uo | Lr | Ls | Lv | Xg | Rc | agx | agy | HB | aag | aah | aai | HD | aaj | aak | aal | jW | xD | xE | xF | lq | zj | zk | zl | w9 | PB | PD | PF | jY | xG | xH | xJ | mW | B7 | B8 | B9 | AG | UB | UC | UD | ly | zm | zo | zq | rN | Ic | Ie | Ig | lA | zu | zv | zx | mY | Ca | Cb | Cd | m5 | Ce | Cg | Ci | lC | zy | zA | zB | oN | EE | EF | EG | oQ | EH | EI | EJ | lR | A3 | A4 | A5 | Ej | XM | XO | XQ | AI | UE | UG | UH | uv | uw | Lw | Lx | Ly | rP | rQ | Ih | Ii | Ij | HG | aX | aam | aan | Rg | agz | agA | agB | Xj | Xk | HK | Xl | HL | Xm | Ek | Xn | Xo | AK | ux | HM | El | oS | HN | Em | AO | ia | HP | HQ | En | Eo | OY | Ep | OZ | HR | Er | O5 | O6 => k_is
