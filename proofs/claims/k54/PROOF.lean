import PyProof.Rows.All
import Wide.All
import OpenK.AllK
import Wide.FinOn
import Lean
import PyProof.EqAt
import PyProof.EqKinds
import PyProof.TupleCall
import PySem.Challenge.RW_moodtree_k54_flat_steps_back
set_option Elab.async false
set_option linter.all false
set_option maxRecDepth 100000
set_option maxHeartbeats 4000000
set_option hygiene false
local macro_rules | `($x:ident) => let u:=Lean.Macro.throwUnsupported; match x.getId with
 | .str (.str .anonymous "Q") s => (match s.front with
|'a'=>(match s with
|"a"=>`((by decide +kernel))
|_=>u)
|'b'=>(match s with
|"b"=>`((by decide))
|_=>u)
|'c'=>(match s with
|"c"=>`((by omega))
|_=>u)
|'d'=>(match s with
|"d"=>`(model X.prog X.w)
|_=>u)
|'e'=>(match s with
|"e"=>`(Str -> Addr)
|_=>u)
|'f'=>(match s with
|"f"=>`(List (Option T))
|_=>u)
|'g'=>(match s with
|"g"=>`(Inv X pins σ H s)
|_=>u)
|'h'=>(match s with
|"h"=>`(PySem.W.Frag)
|_=>u)
|'i'=>(match s with
|"i"=>`(List (Addr × Obj))
|_=>u)
|'j'=>(match s with
|"j"=>`((by decide +kernel))
|_=>u)
|'k'=>(match s with
|"k"=>`(.aZ o (.dT gs))
|_=>u)
|'l'=>(match s with
|"l"=>`(Value -> Shared -> Prop)
|_=>u)
|'m'=>(match s with
|"m"=>`((x == ("__debug__" : Str)) = false)
|_=>u)
|'n'=>(match s with
|"n"=>`(ne c (by simp [hc]))
|_=>u)
|'o'=>(match s with
|"o"=>`(List (bP × List cu))
|_=>u)
|'p'=>(match s with
|"p"=>`(Str -> Option Value)
|_=>u)
|'q'=>(match s with
|"q"=>`(aL K CL b H Z δ σ ts vs)
|_=>u)
|'r'=>(match s with
|"r"=>`(starEach (e :: es) X.env = (false, eval e X.env) :: starEach es X.env)
|_=>u)
|'s'=>(match s with
|"s"=>`(fun _ _ _ => trivial)
|_=>u)
|'t'=>(match s with
|"t"=>`(fun _ _ h r => .cons h r)
|_=>u)
|'u'=>(match s with
|"u"=>`(fun _ _ _ _ => trivial)
|_=>u)
|'v'=>(match s with
|"v"=>`(r fun a ha => k a (ahz _ ha))
|_=>u)
|'w'=>(match s with
|"w"=>`((backTo pos (starEach es X.env)).any (·.1) = false)
|_=>u)
|'x'=>(match s with
|"x"=>`(eN bx (hs.map .str) bg pr (jg R))
|_=>u)
|'y'=>(match s with
|"y"=>`(starEach [e] X.env = (false, eval e X.env) :: starEach [] X.env)
|_=>u)
|'z'=>(match s with
|"z"=>`(fun _ _ h r k => .cons (h fun a ha => k a (ahy _ ha)) (r fun a ha => k a (ahu _ ha)))
|_=>u)
|'A'=>(match s with
|"A"=>`(backToKw pos (keywordEach [] X.env))
|_=>u)
|'B'=>(match s with
|"B"=>`(bH X scope Nc s3.heap.objs.size s3 (upd H s.heap.objs.size (.lst [])) fp)
|_=>u)
|'C'=>(match s with
|"C"=>`(fun _ _ _ _ _ _ => by refine fP ?_; exact fun _ => rfl)
|_=>u)
|'D'=>(match s with
|"D"=>`(.sh (eN (bs.map qd) (hh.map .str) (xs.map It.d) ((List.range n).map mh) (jg R)))
|_=>u)
|'E'=>(match s with
|"E"=>`(.lst [.lst (bs.map qd), .lst (hh.map .str), .lst ((List.range n).map mh)])
|_=>u)
|'F'=>(match s with
|"F"=>`(fun _ _ _ _ _ _ => by refine fP ?_; exact fun _ _ => rfl)
|_=>u)
|'G'=>(match s with
|"G"=>`(((backTo pb (starEach [e] X.env)).all (fun x => !x.1) && (backToKw pb (keywordEach [] X.env)).all (fun x => x.1.isSome) && decide ([e].length + ([] : List Keyword).length + (if ([] : List Keyword).isEmpty then 0 else 1) < 30)) = true)
|_=>u)
|'H'=>(match s with
|"H"=>`(.ins "FlatRun" (b8 TD (.int (cy R hh s0 ns).1) (dw (cy R hh s0 ns).2.2) (cy R hh s0 ns).2.1 (nT (some r0))))
|_=>u)
 |_=>u)
 | _ => u
noncomputable section
namespace L2
open PySem PySem.Spec PyProof.Rows
abbrev aht := @wpAny_bind
abbrev ahu := @List.mem_append_right
abbrev ahv := @List.append_assoc
abbrev ahw := @List.mem_cons_self
abbrev ahx := @List.length_map
abbrev ahy := @List.mem_append_left
abbrev ahz := @List.mem_cons_of_mem
abbrev ahA := @Nat.le_of_ble_eq_true
abbrev ahB := @List.mem_append
abbrev ahC := @if_neg
abbrev ahD := @List.map_append
abbrev ahE := @Heap.get?_push_of_some
abbrev ahF := @wpAny_pure
abbrev ahG := @Nat.le_refl
abbrev ahH := @List.mem_cons
abbrev ahI := @Bool.false_ne_true
abbrev ahJ := @List.append_nil
abbrev ahK := @List.not_mem_nil
abbrev ahL := @List.length_append
abbrev ahM := @List.size_toArray
abbrev ahN := @if_pos
abbrev ahO := @List.map_cons
abbrev ahP := @Option.some.inj
abbrev ahQ := @List.getElem?_eq_getElem
abbrev ahR := @Heap.lt_size
abbrev ahS := @List.mem_map
abbrev ahT := @List.cons_append
abbrev ahU := @Heap.get?_push_size
abbrev ahV := @List.perm_append_comm
abbrev ahW := @List.getElem?_map
abbrev ahX := @of_decide_eq_true
abbrev ahY := @List.length_cons
abbrev ahZ := @Int.emod_lt_of_pos
abbrev ah0 := @Bool.and_eq_true
abbrev ah1 := @List.lookup_cons
abbrev ah2 := @List.Sublist.append
abbrev ah3 := @List.nodup_append
abbrev ah4 := @Nat.lt_of_lt_of_le
abbrev ah5 := @List.Sublist.refl
abbrev ah6 := @List.Perm.append_left
abbrev ah7 := @Int.emod_nonneg
abbrev ah8 := @Nat.zero_le
abbrev ah9 := @List.filterMap_cons
abbrev aia := @List.nodup_cons
abbrev aib := @List.reverse_cons
abbrev aic := @of_decide_eq_false
abbrev aid := @Nat.ne_of_lt
abbrev aie := @List.map_map
abbrev aif := @Option.map_eq_some_iff
abbrev aih := @List.mem_of_getElem?
abbrev aii := @List.getElem?_eq_some_iff
abbrev aij := @List.sublist_append_right
abbrev aik := @wpAny_mono
abbrev ail := @List.mem_singleton
abbrev aim := @decide_eq_true
abbrev ain := @Nat.le_trans
abbrev aio := @List.length_take
abbrev aip := @PySem.W.mg_of
abbrev aiq := @PySem.mem_of_lookup
abbrev air := @List.length_range
abbrev ais := @List.getElem?_eq_none
abbrev ait := @List.length_filterMap_le
abbrev aiu := @PySem.F.plainAttrs_list
abbrev aiv := @List.take_length
abbrev aiw := @List.getD_eq_getElem?_getD
abbrev aix := @sizeLine_eq
abbrev aiy := @wpAny_newObj_type
abbrev aiz := @Int.toNat_natCast
abbrev aiA := @List.perm_iff_count
abbrev aiB := @List.length_singleton
abbrev aiC := @Nat.le_of_lt
abbrev aiD := @Nat.lt_of_le_of_lt
abbrev aiE := @List.perm_middle
abbrev aiF := @wpAny_call_entry
abbrev aiG := @Obj.data_mapFields
abbrev aiH := @PySem.W.mg_none_of
abbrev aiI := @PySem.F.slot_dict_itemiterator_next
abbrev aiJ := @wpAny_callSpecial?_slot
abbrev aiK := @List.count_append
abbrev aiL := @PySem.F.slot_dict_keyiterator_next
abbrev aiM := @decide_eq_false
abbrev aiN := @wpAny_field
abbrev aiO := @List.getElem?_append_right
abbrev aiP := @List.all_eq_true
abbrev aiQ := @List.length_replicate
abbrev aiR := @List.find?_cons
abbrev aiS := @wpAny_comprehension_free
abbrev aiT := @List.range_succ
abbrev aiU := @wpAny_typeNameOfWhole_itemiter
abbrev aiV := @List.take_add_one
abbrev aiW := @wpAny_typeNameOfWhole_keyiter
abbrev aiX := @List.map_congr_left
abbrev aiY := @List.mem_range
abbrev aiZ := @List.nodup_nil
abbrev ai0 := @List.map_nil
abbrev ai1 := @wpAny_passesOwn
abbrev ai2 := @PySem.W.methodCall_KW
abbrev ai3 := @Heap.get?_update_self
abbrev ai4 := @Array.getElem?_eq_some_iff
abbrev ai5 := @lookup_relabel_local
abbrev ai6 := @List.mem_of_find?_eq_some
abbrev ai7 := @wpAny_setField
abbrev ai8 := @or_false
abbrev ai9 := @beq_eq_false_iff_ne
abbrev aja := @Heap.SameBut.update
abbrev ajb := @Nat.lt_irrefl
abbrev ajc := @wpAny_attempt
abbrev ajd := @beq_iff_eq
abbrev aje := @wpAny_Call_Name_kw
abbrev ajf := @List.nil_append
abbrev ajg := @wpAny_setField_rec
abbrev ajh := @List.foldl_cons
abbrev aji := @List.getElem?_set_self
abbrev ajj := @Heap.get?_update_other
abbrev ajk := @decide_eq_true_eq
abbrev ajl := @wpAny_dictEntries
abbrev ajm := @Array.getElem?_toList
abbrev ajn := @Obj.isFreed_of_fields
abbrev ajo := @Int.zero_add
abbrev ajp := @if_false
abbrev ajq := @beq_self_eq_true
abbrev ajr := @List.mem_of_mem_take
abbrev ajs := @List.mem_flatMap
abbrev ajt := @Paired.length
abbrev aju := @List.any_cons
abbrev ajv := @Ne.symm
abbrev ajw := @if_true
abbrev ajx := @PySem.W.hideAll_get
abbrev ajy := @Array.length_toList
abbrev ajz := @List.length_set
abbrev ajA := @List.count_cons
abbrev ajB := @wpAny_dictEpoch
abbrev ajC := @PySem.W.of_hideAll
abbrev ajD := @List.mem_filterMap
abbrev ajE := @PySem.W.callWith_K
abbrev ajF := @Bool.false_eq_true
abbrev ajG := @PySem.F.slot_list_append
abbrev ajH := @PySem.F.type_list_append
abbrev ajI := @Heap.size_push
abbrev ajJ := @List.Perm.refl
abbrev ajK := @List.getElem?_cons_succ
abbrev ajL := @List.length_eq_zero_iff
abbrev ajM := @wpAny_holding
abbrev Key := Sum Int Str
def Bp : Key -> Value -> Bool
 | .inl k, v => Value.isInt k v
 | .inr x, v => Value.isStrOf x v
def acS (w : World) : Key -> Int
 | .inl k => hashInt k
 | .inr x => hashStr w x
theorem dY : ∀ {k : Key} {v : Value}, Bp k v = true -> (∃ i t, k = Sum.inl i /\ v = Value.int i t) \/ (∃ x t, k = Sum.inr x /\ v = Value.str x t)
 | .inl i, v, h => by
   obtain ⟨t, e⟩ := Value.isInt_shape (k := i) (v := v) h
   exact .inl ⟨i, t, rfl, e⟩
 | .inr x, v, h => by
   obtain ⟨t, e⟩ := Value.isStrOf_shape (x := x) (v := v) h
   exact .inr ⟨x, t, rfl, e⟩
theorem JV (i : Int) (t : Tok) : Bp (.inl i) (.int i t) = true := by simp [Bp, Value.isInt]
theorem JW (x : Str) (t : Tok) : Bp (.inr x) (.str x t) = true := by simp [Bp, Value.isStrOf]
theorem V9 (a b : Int) : decide ((Sum.inl a : Key) = Sum.inl b) = (a == b) := by
 by_cases e : a = b
 . subst e; simp
 . have h : ¬ (Sum.inl a : Key) = Sum.inl b := fun q => e (Sum.inl.inj q)
   rw [aiM h]
   exact (ai9.mpr e).symm
theorem Wa (a b : Str) : decide ((Sum.inr a : Key) = Sum.inr b) = decide (a = b) := by
 by_cases e : a = b
 . subst e; simp
 . have h : ¬ (Sum.inr a : Key) = Sum.inr b := fun q => e (Sum.inr.inj q)
   rw [aiM h, aiM e]
theorem Wb (a : Int) (b : Str) : decide ((Sum.inl a : Key) = Sum.inr b) = false := aiM (fun q => nomatch q)
theorem Wc (a : Str) (b : Int) : decide ((Sum.inr a : Key) = Sum.inl b) = false := aiM (fun q => nomatch q)
def eW (prog : Program) (w : World) : PySem.KeyKind prog w Key where
 is := Bp
 hash := acS w
 inj := fun v a b ha hb => by
   rcases dY ha with ⟨i, t, rfl, rfl⟩ | ⟨x, t, rfl, rfl⟩
   . rcases dY hb with ⟨j, u, rfl, e⟩ | ⟨y, u, rfl, e⟩
     . injection e with e1 _; rw [e1]
     . exact nomatch e
   . rcases dY hb with ⟨j, u, rfl, e⟩ | ⟨y, u, rfl, e⟩
     . exact nomatch e
     . injection e with e1 _; rw [e1]
 byValue := fun k v h => by
   rcases dY h with ⟨i, t, rfl, rfl⟩ | ⟨x, t, rfl, rfl⟩ <;> rfl
 pyHash := fun hv h => by
   rcases dY hv with ⟨i, t, rfl, rfl⟩ | ⟨x, t, rfl, rfl⟩
   . exact wpAny_pyHash_int h
   . exact wpAny_pyHash_str h
 eqBool := fun hu hv h => by
   rcases dY hu with ⟨i, t, rfl, rfl⟩ | ⟨x, t, rfl, rfl⟩
   . rcases dY hv with ⟨j, u, rfl, rfl⟩ | ⟨y, u, rfl, rfl⟩
     . rw [V9] at h; exact wpAny_eqBool_int h
     . rw [Wb] at h; exact SeqAt.EqAt.int_str i t y u _ _ _ _ h
   . rcases dY hv with ⟨j, u, rfl, rfl⟩ | ⟨y, u, rfl, rfl⟩
     . rw [Wc] at h; exact SeqAt.EqAt.str_int x t j u _ _ _ _ h
     . rw [Wa] at h; exact wpAny_eqBool_str h
 «strs» := fun k x t v h => by
   rcases dY h with ⟨i, u, rfl, e⟩ | ⟨y, u, rfl, e⟩
   . exact nomatch e
   . injection e with e1 _
     subst e1
     cases v <;> rfl
theorem Ei (prog : Program) (w : World) (i : Int) (t : Tok) : (eW prog w).is (.inl i) (.int i t) = true := JV i t
theorem Ej (prog : Program) (w : World) (x : Str) (t : Tok) : (eW prog w).is (.inr x) (.str x t) = true := JW x t
inductive V where
 | non | bl (b : Bool) | int (i : Int) | str (x : Str) | Ir (b : Array UInt8) | flt (b : UInt64) | ref (a : Addr) | ty (n : String)
 deriving DecidableEq
def RelV : V -> Value -> Prop
 | .non, u => u = Value.none
 | .bl b, u => u = Value.bool b
 | .int i, u => ∃ t, u = Value.int i t
 | .str x, u => ∃ t, u = Value.str x t
 | .Ir b, u => ∃ t, u = Value.bytes b t
 | .flt b, u => ∃ t, u = Value.float b t
 | .ref a, u => u = Value.ref a
 | .ty n, u => u = Value.type n
abbrev Vals : List V -> List Value -> Prop := Paired RelV
variable {xs : List V} {us : List Value}
theorem Vals.length (r : Vals xs us) : xs.length = us.length := ajt r
theorem Vals.get : ∀ {xs : List V} {us : List Value} {i : Nat} {x : V}, Vals xs us -> xs[i]? = some x -> ∃ u, us[i]? = some u /\ RelV x u
 | _, _, _, _, .nil, e => by simp at e
 | _, _, 0, _, .cons r _, e => by simp at e; subst e; exact ⟨_, rfl, r⟩
 | _, _, i + 1, x, .cons _ t, e => by
   obtain ⟨u, h1, h2⟩ := Vals.get (i := i) (x := x) t (by simpa using e)
   exact ⟨u, by simpa using h1, h2⟩
theorem Vals.set {x : V} {u : Value} (r : RelV x u) : ∀ {xs : List V} {us : List Value} (i : Nat), Vals xs us -> Vals (xs.set i x) (us.set i u)
 | _, _, _, .nil => .nil
 | _, _, 0, .cons _ t => .cons r t
 | _, _, i + 1, .cons q t => .cons q (Vals.set r i t)
theorem Vals.append : ∀ {xs ys : List V} {us ws : List Value}, Vals xs us -> Vals ys ws -> Vals (xs ++ ys) (us ++ ws)
 | _, _, _, _, .nil, s => s
 | _, _, _, _, .cons r t, s => .cons r (Vals.append t s)
theorem Vals.take : ∀ {xs : List V} {us : List Value} (n : Nat), Vals xs us -> Vals (xs.take n) (us.take n)
 | _, _, 0, _ => .nil
 | _, _, _ + 1, .nil => .nil
 | _, _, n + 1, .cons r t => .cons r (Vals.take n t)
theorem Vals.drop : ∀ {xs : List V} {us : List Value} (n : Nat), Vals xs us -> Vals (xs.drop n) (us.drop n)
 | _, _, 0, r => r
 | _, _, _ + 1, .nil => .nil
 | _, _, n + 1, .cons _ t => Vals.drop n t
def pY : Option V -> Option Value -> Prop
 | some v, some u => RelV v u
 | none, none => True
 | _, _ => False
def KV {κ : Type} : List (κ × V) -> List (κ × Value) -> Prop := Paired fun (p : κ × V) (q : κ × Value) => p.1 = q.1 /\ RelV p.2 q.2
def kV : Key -> V
 | .inl i => .int i
 | .inr x => .str x
inductive HO where
 | lst (xs : List V)
 | tup (xs : List V)
 | dK (kvs : List (Key × V)) | dT (kvs : List (List Key × V))
 | set (S : Int -> Bool) (n : Nat)
 | ins (C dx : Addr) (fs : List (Str × V))
 | own (x : Addr)
 | xd (fs : List (Str × V))
 | met (f x : Addr)
 | rng (lo hi : Int)
 | aZ (o : Obj) (u : HO)
 | Vk (ps : Array Value)
 | tabs (q : Str)
 | Vl (q : Str)
 | ext (φ : Heap -> Prop)
abbrev Hp := Addr -> Option HO
def upd (H : Hp) (a : Addr) (o : HO) : Hp := fun b => if b = a then some o else H b
variable {H : Hp} {a : Addr} {o : HO}
theorem aC : upd H a o a = some o := by unfold upd; rw [ahN rfl]
variable {b : Addr}
theorem aj (h : b ≠ a) : upd H a o b = H b := by unfold upd; rw [ahC h]
theorem ZP {u : HO} (h : H a = some o) (h' : H b = some u) (d : o ≠ u) : a ≠ b := by
 intro e; subst e; rw [h] at h'; exact d (ahP h')
theorem bC (h : H a = some o) (h' : H b = none) : a ≠ b := by
 intro e; subst e; rw [h] at h'; cases h'
section
variable (P : Program) (w : World)
def dD (H : Hp) (h : Heap) (a : Addr) : HO -> Prop
 | .lst xs => xs.length <= sizeLine /\ ∃ (its : List Value) (n : Nat), Vals xs its /\ h.get? a = some { cls := .type "list", data := .seq its.toArray n }
 | .tup xs => xs.length <= sizeLine /\ ∃ its : List Value, Vals xs its /\ IsTup h a its.toArray
 | .dK kvs => kvs.length <= sizeLine /\ (a == sysModules) = false /\ ∃ vs, KV kvs vs /\ h.DictOf (eW P w) a vs
 | .dT kvs => kvs.length <= sizeLine /\ (a == sysModules) = false /\ ∃ xs : List (List Key × Addr × Value),
     Paired (fun (p : List Key × V) (q : List Key × Addr × Value) => p.1 = q.1 /\ H q.2.1 = some (.tup (p.1.map kV)) /\ RelV p.2 q.2.2) kvs xs ∧
     ∃ o es ep, h.get? a = some o /\ o.ExactDict /\ o.data = .dict es ep /\ es.toList = xs.map (entryOfKey (tupleKind (eW P w))) /\ (xs.map (·.1)).Nodup
 | .set S n => h.SetOf (intKind P w) a S n
 | .ins C dx fs => H dx = some (.own a) /\ fs.length <= 1000 /\ dx ≠ a /\ h.get? a = some (PySem.W.instObj C dx) ∧
     ∃ mA, h.Ns1 dx mA /\ (∀ f, pY (fs.lookup f) (mA f)) /\ PySem.Within mA (fs.map (·.1))
 | .own _ => ∃ o, h.get? a = some o
 | .xd fs => ∃ mA, h.Ns1 a mA /\ ∀ f, pY (fs.lookup f) (mA f)
 | .rng lo hi => ∃ t u v, h.get? a = some { cls := .type "range", data := .fields #[.int lo t, .int hi u, .int 1 v] }
 | .aZ o u => h.get? a = some o /\ dD H h a u
 | .Vk ps => h.get? a = some { cls := .none, data := .fields ps }
 | .tabs q => ∃ ps : Array Value, h.get? a = some { cls := .none, data := .fields ps } /\ TriplesOk ps.toList /\ ∀ pos cv, codeAmong pos ps.toList = some cv -> ∃ c, cv = .ref c /\ H c = some (.Vl q)
 | .Vl q => ∃ o vs t, h.get? a = some o /\ o.data = .fields vs /\ vs[1]? = some (.str q t)
 | .met f x => h.get? a = some (PySem.W.methodObj (.ref f) (.ref x))
 | .ext φ => φ h /\ (∃ o, h.get? a = some o) /\ ∀ h1 h2 : Heap, φ h1 -> (∀ o, h1.get? a = some o -> h2.get? a = some o) -> φ h2
def qV (H : Hp) (h : Heap) : Prop := ∀ a o, H a = some o -> dD P w H h a o
end
variable {P : Program} {w : World} {H' : Hp} {h h' : Heap}
theorem dD.lt (x : dD P w H h a o) : a < h.objs.size := by
 cases o with
 | lst xs => obtain ⟨_, _, _, _, e⟩ := x; exact ahR e
 | tup xs => obtain ⟨_, _, _, p⟩ := x; exact p.lt
 | dK kvs => obtain ⟨_, _, _, _, o, _, _, e, _⟩ := x; exact ahR e
 | dT kvs => obtain ⟨_, _, _, _, o, _, _, e, _⟩ := x; exact ahR e
 | set S n => obtain ⟨o, _, _, _, e, _⟩ := x; exact ahR e
 | ins C dx fs => obtain ⟨_, _, _, e, _⟩ := x; exact ahR e
 | own y => obtain ⟨_, e⟩ := x; exact ahR e
 | xd fs => obtain ⟨_, ⟨_, _, _, e, _⟩, _⟩ := x; exact ahR e
 | rng lo hi => obtain ⟨_, _, _, e⟩ := x; exact ahR e
 | aZ ob u => obtain ⟨e, _⟩ := x; exact ahR e
 | Vk ps => exact ahR (show h.get? a = some _ from x)
 | tabs q => obtain ⟨_, e, _⟩ := x; exact ahR e
 | Vl q => obtain ⟨_, _, _, e, _⟩ := x; exact ahR e
 | met f y => exact ahR (show h.get? a = some _ from x)
 | ext φ => obtain ⟨_, ⟨_, e⟩, _⟩ := x; exact ahR e
theorem Paired.Wd {α β : Type} {F G : α -> β -> Prop} : ∀ {l₁ : List α} {l₂ : List β}, Paired F l₁ l₂ -> (∀ a b, F a b -> G a b) -> Paired G l₁ l₂
 | _, _, .nil, _ => .nil
 | _, _, .cons r t, f => .cons (f _ _ r) (Paired.Wd t f)
theorem dD.x9 (x : dD P w H h a o) (k : ∀ b u, (b = a \/ H b = some (.own a)) -> h.get? b = some u -> h'.get? b = some u)
   (ho : ∀ b, H b = some (.own a) -> H' b = some (.own a)) (ht : ∀ b xs, H b = some (.tup xs) -> H' b = some (.tup xs)) (j3 : ∀ b q, H b = some (.Vl q) -> H' b = some (.Vl q) := by intro _ _ q; exact q) : dD P w H' h' a o := by
 induction o with
 | lst xs => obtain ⟨z, its, n, r, e⟩ := x; exact ⟨z, its, n, r, k _ _ (.inl rfl) e⟩
 | tup xs => obtain ⟨z, its, r, ob, e, c⟩ := x; exact ⟨z, its, r, ob, k _ _ (.inl rfl) e, c⟩
 | dK kvs => obtain ⟨z, y, vs, r, ob, es, ep, e, c⟩ := x; exact ⟨z, y, vs, r, ob, es, ep, k _ _ (.inl rfl) e, c⟩
 | dT kvs =>
   obtain ⟨z, y, xs, r, ob, es, ep, e, c⟩ := x
   exact ⟨z, y, xs, Paired.Wd r fun p q z => ⟨z.1, ht _ _ z.2.1, z.2.2⟩, ob, es, ep, k _ _ (.inl rfl) e, c⟩
 | set S n => obtain ⟨ob, es, ep, t, e, c⟩ := x; exact ⟨ob, es, ep, t, k _ _ (.inl rfl) e, c⟩
 | ins C dx fs =>
   obtain ⟨d, z, ne, e, mA, ⟨od, es, ep, e2, c⟩, r⟩ := x
   exact ⟨ho _ d, z, ne, k _ _ (.inl rfl) e, mA, ⟨od, es, ep, k _ _ (.inr d) e2, c⟩, r⟩
 | own y => obtain ⟨ob, e⟩ := x; exact ⟨ob, k _ _ (.inl rfl) e⟩
 | xd fs => obtain ⟨mA, ⟨od, es, ep, e, c⟩, r⟩ := x; exact ⟨mA, ⟨od, es, ep, k _ _ (.inl rfl) e, c⟩, r⟩
 | rng lo hi => obtain ⟨t, u, v, e⟩ := x; exact ⟨t, u, v, k _ _ (.inl rfl) e⟩
 | aZ ob u ih => obtain ⟨e, q⟩ := x; exact ⟨k _ _ (.inl rfl) e, ih q⟩
 | Vk ps =>
   have e : h.get? a = some { cls := .none, data := .fields ps } := x
   show h'.get? a = some { cls := .none, data := .fields ps }
   exact k a _ (.inl rfl) e
 | met f y =>
   have e : h.get? a = some (PySem.W.methodObj (.ref f) (.ref y)) := x
   show h'.get? a = some (PySem.W.methodObj (.ref f) (.ref y))
   exact k a _ (.inl rfl) e
 | tabs q => obtain ⟨ps, e, tr, cs⟩ := x; exact ⟨ps, k _ _ (.inl rfl) e, tr, fun pos cv z => let ⟨c, e1, e2⟩ := cs pos cv z; ⟨c, e1, j3 _ _ e2⟩⟩
 | Vl q => obtain ⟨ob, vs, t, e, r⟩ := x; exact ⟨ob, vs, t, k _ _ (.inl rfl) e, r⟩
 | ext φ => obtain ⟨p, ⟨o, e⟩, st⟩ := x; exact ⟨st _ _ p fun o q => k _ _ (.inl rfl) q, ⟨o, k _ _ (.inl rfl) e⟩, st⟩
theorem qV.lt (x : qV P w H h) (e : H a = some o) : a < h.objs.size := (x a o e).lt
theorem qV.fresh (x : qV P w H h) (e : h.objs.size <= a) : H a = none := by
 cases q : H a with
 | none => rfl
 | some u => exact absurd (ah4 (x.lt q) e) (ajb _)
theorem qV.kept (x : qV P w H h) (k : ∀ b u, h.get? b = some u -> h'.get? b = some u) : qV P w H h' := fun a o e =>
 (x a o e).x9 (fun b u _ q => k b u q) (fun _ q => q) fun _ _ q => q
theorem qV.laid (x : qV P w H h) (k : ∀ b u, h.get? b = some u -> h'.get? b = some u) (hp : h.objs.size <= a) (new : dD P w (upd H a o) h' a o) : qV P w (upd H a o) h' := fun b u e => by
 have hn := x.fresh hp
 by_cases hb : b = a
 . subst hb; rw [aC] at e; cases e; exact new
 . rw [aj hb] at e
   exact (x b u e).x9 (fun c v _ q => k c v q) (fun c q => by rw [aj (bC q hn)]; exact q) (fun c xs q => by rw [aj (bC q hn)]; exact q) fun c z q => by rw [aj (bC q hn)]; exact q
def Rd (H : Hp) (a : Addr) (u : HO) : Prop := H a = some u \/ ∃ o, H a = some (.aZ o u)
theorem Rd.ok {u : HO} (r : Rd H a u) (x : qV P w H h) : dD P w H h a u := by
 rcases r with r | ⟨o, r⟩
 . exact x a u r
 . obtain ⟨_, q⟩ := x a _ r
   exact q
def ZQ : Option HO -> Prop
 | some (.lst _) => True
 | some (.dK _) => True
 | some (.dT _) => True
 | some (.set _ _) => True
 | some (.ins _ _ _) => True
 | some (.ext _) => True
 | some (.tabs _) => True
 | _ => False
variable {x e : Addr} {o' : HO}
theorem qV.write (ok : qV P w H h) (mu : ZQ (H x)) (he : e = x \/ H e = some (.own x)) (k : ∀ b u, b ≠ e -> h.get? b = some u -> h'.get? b = some u) (Zi : ∃ u, h'.get? e = some u)
   (new : dD P w (upd H x o') h' x o') : qV P w (upd H x o') h' := fun b u q => by
 have ZR : ∀ c y, H c = some (.own y) -> c ≠ x := fun c y r z => by subst z; rw [r] at mu; exact mu
 have acU : ∀ c xs, H c = some (.tup xs) -> c ≠ x := fun c xs r z => by subst z; rw [r] at mu; exact mu
 have acV : ∀ c q, H c = some (.Vl q) -> c ≠ x := fun c q r z => by subst z; rw [r] at mu; exact mu
 by_cases hb : b = x
 . subst hb; rw [aC] at q; cases q; exact new
 . rw [aj hb] at q
   by_cases Wf : b = e
   . have q' : H b = some (.own x) := by
       rcases he with z | z
       . exact absurd (Wf.trans z) hb
       . rw [Wf]; exact z
     rw [q] at q'; cases q'
     obtain ⟨v, hv⟩ := Zi
     exact ⟨v, by rw [Wf]; exact hv⟩
   . refine (ok b u q).x9 (fun c v hc r => k c v ?_ r) (fun c r => by rw [aj (ZR c b r)]; exact r) (fun c xs r => by rw [aj (acU c xs r)]; exact r) fun c z r => by rw [aj (acV c z r)]; exact r
     rcases hc with rfl | hc
     . exact Wf
     . rintro rfl
       rcases he with z | z
       . exact ZR c b hc z
       . rw [hc] at z; cases z; exact hb rfl
structure Un (fs ex : List Addr) (H H' : Hp) (h h' : Heap) : Prop where
 keep : ∀ b o, h.get? b = some o -> H b = none -> b ∉ fs -> b ∉ ex -> h'.get? b = some o
 slot : ∀ b o, h.get? b = some o -> H b = none -> b ∈ fs -> b ∉ ex -> ∃ sl, h'.get? b = some { o with slots := sl }
 free : ∀ b o, h.get? b = some o -> H b = none -> b ∉ ex -> H' b = none
 there : ∀ b o, h.get? b = some o -> b ∉ ex -> ∃ o', h'.get? b = some o'
 yb : ∀ b xs, H b = some (.tup xs) -> H' b = some (.tup xs)
 c5 : ∀ b o u, H b = some (.aZ o u) -> H' b = some (.aZ o u)
 yc : ∀ b ps, H b = some (.Vk ps) -> ∃ more, H' b = some (.Vk (ps ++ more))
section
variable {fs ex : List Addr} {H1 : Hp} {h1 : Heap}
theorem Un.any (u : Un fs ex H H1 h h1) {ob : Obj} (q : h.get? b = some ob) (n : H b = none) (hx : b ∉ ex) : ∃ sl, h1.get? b = some { ob with slots := sl } := by
 by_cases hb : b ∈ fs
 . exact u.slot b ob q n hb hx
 . exact ⟨ob.slots, u.keep b ob q n hb hx⟩
theorem Un.kept (k : ∀ b u, h.get? b = some u -> h'.get? b = some u) : Un fs ex H H h h' :=
 ⟨fun b ob q _ _ _ => k b ob q, fun b ob q _ _ _ => ⟨ob.slots, k b ob q⟩, fun _ _ _ n _ => n, fun b ob q _ => ⟨ob, k b ob q⟩, fun _ _ q => q, fun _ _ _ q => q, fun _ ps q => ⟨#[], by rw [q]; simp⟩⟩
theorem Un.refl : Un fs ex H H h h := Un.kept fun _ _ q => q
theorem Un.laid (k : ∀ b u, h.get? b = some u -> h'.get? b = some u) (hp : h.objs.size <= a) (hn : H a = none) : Un fs ex H (upd H a o) h h' where
 keep := fun b u q _ _ _ => k b u q
 slot := fun b u q _ _ _ => ⟨u.slots, k b u q⟩
 free := fun b u q n _ => by rw [aj (aid (ah4 (ahR q) hp))]; exact n
 there := fun b u q _ => ⟨u, k b u q⟩
 yb := fun b xs q => by rw [aj (bC q hn)]; exact q
 c5 := fun b u xs q => by rw [aj (bC q hn)]; exact q
 yc := fun b ps q => ⟨#[], by rw [aj (bC q hn), q]; simp⟩
theorem Un.write (mu : ZQ (H x)) (he : e = x \/ H e = some (.own x)) (k : ∀ b u, b ≠ e -> h.get? b = some u -> h'.get? b = some u) (Zi : ∃ u, h'.get? e = some u) : Un fs ex H (upd H x o) h h' := by
 have hx : ∀ b, H b = none -> b ≠ x := fun b n z => by subst z; rw [n] at mu; exact mu
 have hb : ∀ b, H b = none -> b ≠ e := fun b n z => by
   subst z
   rcases he with r | r
   . exact hx b n r
   . rw [n] at r; cases r
 have hm : ∀ b u, H b = some u -> ¬ ZQ (some u) -> b ≠ x := fun b u q nm z => by subst z; rw [q] at mu; exact nm mu
 refine ⟨fun b u q n _ _ => k b u (hb b n) q, fun b u q n _ _ => ⟨u.slots, k b u (hb b n) q⟩, fun b u q n _ => by rw [aj (hx b n)]; exact n, fun b u q _ => ?_,
   fun b xs q => by rw [aj (hm b _ q fun z => z)]; exact q, fun b u xs q => by rw [aj (hm b _ q fun z => z)]; exact q, fun b ps q => ⟨#[], by rw [aj (hm b _ q fun z => z), q]; simp⟩⟩
 by_cases Wf : b = e
 . subst Wf; exact Zi
 . exact ⟨u, k b u Wf q⟩
end
def trk (h : Heap) (H : Hp) : List Addr := (List.range h.objs.size).filter fun a => (H a).isSome
def B9 (h : Heap) (H : Hp) : Heap := PySem.W.hideAll h (trk h H)
theorem JX (h : Heap) (H : Hp) : (B9 h H).objs.size = h.objs.size := PySem.W.hideAll_size _ _
theorem MA {o : Obj} (e : h.get? b = some o) (n : H b = none) : (B9 h H).get? b = some o :=
 ajx _ e fun hm => by
   have q : (H b).isSome = true := (List.mem_filter.mp hm).2
   rw [n] at q; simp at q
theorem Rq {o : Obj} (e : (B9 h H).get? b = some o) : h.get? b = some o /\ H b = none := by
 have e' : h.get? b = some o := ajC (trk h H) e
 refine ⟨e', ?_⟩
 cases q : H b with
 | none => rfl
 | some x =>
   have hm : b ∈ trk h H := List.mem_filter.mpr ⟨aiY.mpr (ahR e'), by simp [q]⟩
   have z : (B9 h H).get? b = none := PySem.W.hideAll_none (trk h H) hm
   rw [z] at e; cases e
def Rr (g h : Heap) (L : Addr) : List (Addr × Obj) := (List.range h.objs.size).filterMap fun a => if a = L \/ (g.get? a).isSome = true then none else (h.get? a).map fun o => (a, o)
def rest (g h : Heap) (L d : Addr) : List (Addr × Obj) := (Rr g h L).filter fun p => decide (p.1 ≠ d)
structure Mod (K : Q.h) (mg : Q.p) (base : Heap) : Prop where
 Zj : K.In base
 glob : base.Ns mainGlobals mg
 blt : ∃ mb, base.Ns builtinsNs mb /\ ∀ x : Str, x ≠ "__name__" -> mb x = bootBuiltins x
 nolimit : base.NoLimit
structure Cx where
 prog : Program
 w : World
 K : PySem.W.Frag
 mg : Str -> Option Value
 base : Heap
 A : Around
 N : List Str
 s₀ : Shared
 H₀ : Hp
 env : Env
 outer : List Env
 stack : List Env
 ex : List Addr
 fn : Str -> Bool
 calm : Bool
 pn : List (Addr × Obj)
 xe : Value -> Shared -> Prop
def qW (l : List Env) : List Addr := l.filterMap (·.frame)
abbrev Cx.fs (X : Cx) : List Addr := qW X.outer
def Vm (sc : Scope) (x : Str) : Prop := sc.names.lookup x = some .local \/ sc.names.lookup x = some .cell \/ sc.names.lookup x = some .free
def Loc (sc : Scope) (x : Str) : Prop := sc.names.lookup x = some .local \/ sc.names.lookup x = some .cell
def Look (env : Env) (h : Heap) (m : Q.p) (x : Str) (u : Value) : Prop :=
 (env.kindOf x = some .local /\ m x = some u) \/ ((env.kindOf x = some .cell \/ env.kindOf x = some .free) /\ ∃ c, env.cells.lookup x = some c /\ h.IsCell c (some u))
structure Cx.Ok (X : Cx) : Prop where
 mod : Mod X.K X.mg X.base
 kind : X.env.scope.kind = .function
 glob : X.env.globals = mainGlobals
 blt : X.env.builtins = builtinsNs
 above : X.s₀.heap.objs.size <= X.env.locals
 inj : ∀ x y c, X.env.cells.lookup x = some c -> X.env.cells.lookup y = some c -> x = y
 has : ∀ x, (X.env.kindOf x = some .cell \/ X.env.kindOf x = some .free) -> ∃ c, X.env.cells.lookup x = some c
 Wg : ∀ x c, X.fn x = true -> X.env.cells.lookup x = some c -> X.s₀.heap.objs.size <= c
 hd : X.calm = true -> X.A.handled = none
 frames : X.A.frames = some X.stack
 Zk : X.stack = X.outer \/ (X.stack = X.env :: X.outer /\ X.env.frame = some X.env.locals)
 exf : ∀ b ∈ X.ex, b ≠ X.env.locals /\ ∀ x c, X.env.cells.lookup x = some c -> c ≠ b
 bs : ∀ b o, X.base.get? b = some o -> X.s₀.heap.get? b = some o /\ X.H₀ b = none
 Iu : X.base.objs.size <= X.s₀.heap.objs.size
 Ek : ∀ b o, X.base.get? b = some o -> b ∉ X.ex
 JY : ∀ b ∈ X.ex, b ∉ X.fs
 rV : X.s₀.heap.FunFrames X.base X.outer
 MB : ∀ b ∈ X.fs, X.H₀ b = none
structure Inv (X : Cx) (pins : Q.i) (σ : List (Option V)) (H : Hp) (s : Shared) : Prop where
 ok : X.Ok
 os : s.os = X.s₀.os
 bare : AllBare s.gens
 base : Un X.fs X.ex X.H₀ H X.s₀.heap s.heap
 loc : ∃ m, s.heap.Ns X.env.locals m /\ ∀ (i : Nat) (x : Str) (v : V), X.N[i]? = some x -> σ[i]? = some (some v) -> Vm X.env.scope x -> ∃ u, RelV v u /\ Look X.env s.heap m x u
 cell : ∀ x c, X.env.cells.lookup x = some c -> ∃ v, s.heap.IsCell c v
 free : H X.env.locals = none
 jT : ∀ x c, X.env.cells.lookup x = some c -> H c = none
 pin : ∀ p ∈ X.pn ++ pins, s.heap.get? p.1 = some p.2 /\ H p.1 = none /\ p.1 ≠ X.env.locals /\ p.1 ∉ X.fs /\ ∀ v, p.2.data ≠ .cell v
 bY : qV X.prog X.w H s.heap
 len : σ.length = X.N.length
variable {X : Cx} {pins : Q.i} {σ : List (Option V)} {s : Shared}
theorem Cx.Ok.acW (ok : X.Ok) {o : Obj} (e : X.base.get? b = some o) : b ∉ X.fs := fun hb => by
 have := (ok.rV.mem hb).1
 rw [e] at this; cases this
theorem Inv.bs (I : Q.g) : ∀ b o, X.base.get? b = some o -> s.heap.get? b = some o /\ H b = none := fun b o e =>
 ⟨I.base.keep b o (I.ok.bs b o e).1 (I.ok.bs b o e).2 (I.ok.acW e) (I.ok.Ek b o e), I.base.free b o (I.ok.bs b o e).1 (I.ok.bs b o e).2 (I.ok.Ek b o e)⟩
theorem Inv.bk (I : Q.g) : ∀ b o, X.base.get? b = some o -> s.heap.get? b = some o := fun b o e => (I.bs b o e).1
theorem Inv.mod (I : Q.g) : Mod X.K X.mg X.base := I.ok.mod
theorem Inv.wR (I : Q.g) : X.K.In s.heap := I.ok.mod.Zj.keeps I.bk
theorem Inv.lt (I : Q.g) : X.env.locals < s.heap.objs.size := let ⟨_, hn, _⟩ := I.loc; hn.lt
theorem Inv.sz (I : Q.g) : X.s₀.heap.objs.size <= s.heap.objs.size := ain I.ok.above (aiC I.lt)
theorem Inv.acX (I : Q.g) (h : s.heap.objs.size <= a) : a ∉ X.fs := fun hb => by
 obtain ⟨_, o, ho, _⟩ := I.ok.rV.mem hb
 exact absurd (ah4 (ahR ho) (ain I.sz h)) (ajb _)
theorem Inv.Wh (I : Q.g) : ∀ x c, X.env.cells.lookup x = some c -> c ≠ X.env.locals := fun x c e z => by
 obtain ⟨v, o, ho, hd⟩ := I.cell x c e
 obtain ⟨m, ⟨o', es, ep, Mt, Rt, _⟩, _⟩ := I.loc
 rw [z, Mt] at ho; cases ho; rw [Rt] at hd; cases hd
theorem Inv.rV (I : Q.g) : s.heap.FunFrames X.base X.outer := by
 have all : ∀ (l : List Env), (∀ b ∈ qW l, b ∈ X.fs) -> X.s₀.heap.FunFrames X.base l -> s.heap.FunFrames X.base l := by
   intro l
   induction l with
   | nil => intro _ _; trivial
   | cons env r ih =>
     intro hs hl
     obtain ⟨hk, ⟨L, o, hf, hn, ho, hd⟩, hr⟩ := hl
     have hL : L ∈ X.fs := hs L (by unfold qW; rw [ah9, hf]; exact ahw)
     obtain ⟨sl, e⟩ := I.base.slot L o ho (I.ok.MB L hL) hL fun z => I.ok.JY L z hL
     exact ⟨hk, ⟨L, _, hf, hn, e, hd⟩, ih (fun b hb => hs b (by unfold qW; rw [ah9, hf]; exact ahz _ hb)) hr⟩
 exact all X.outer (fun _ hb => hb) I.ok.rV
theorem Inv.stack (I : Q.g) : s.heap.FunFrames X.base X.stack := by
 rcases I.ok.Zk with e | ⟨e, hf⟩
 . rw [e]; exact I.rV
 . rw [e]
   obtain ⟨m, hn, _⟩ := I.loc
   refine .cons (by rw [I.ok.kind]; decide) hf hn ?_ I.rV
   exact Heap.get?_none_of_le (ain I.ok.Iu I.ok.above)
theorem Inv.uX (I : Q.g) : ∀ b ∈ qW X.stack, b ∈ X.env.locals :: X.fs := fun b hb => by
 rcases I.ok.Zk with e | ⟨e, hf⟩
 . rw [e] at hb; exact ahz _ hb
 . rw [e] at hb
   unfold qW at hb
   rw [ah9, hf] at hb
   exact hb
theorem Inv.xA (I : Q.g) : ∀ b ∈ qW X.stack, H b = none := fun b hb => by
 rcases ahH.mp (I.uX b hb) with e | hb
 . rw [e]; exact I.free
 . obtain ⟨_, o, ho, _⟩ := I.ok.rV.mem hb
   exact I.base.free b o ho (I.ok.MB b hb) fun z => I.ok.JY b z hb
variable {t' : Nat}
theorem Inv.step {g' : Array GenState} {d' : Drawn} {ch : List Addr} (I : Q.g)
   (Rb : ∀ b ∈ ch, (b ∈ X.ex \/ X.s₀.heap.objs.size <= b) /\ b ≠ X.env.locals /\ (∀ x c, X.env.cells.lookup x = some c -> c ≠ b) /\ ∀ p ∈ X.pn ++ pins, p.1 ≠ b)
   (keep : ∀ b o, b ≠ X.env.locals -> b ∉ X.fs -> b ∉ ch -> s.heap.get? b = some o -> H b = none -> h'.get? b = some o)
   (slot : ∀ b o, b ≠ X.env.locals -> b ∈ X.fs -> b ∉ ch -> s.heap.get? b = some o -> H b = none -> ∃ sl, h'.get? b = some { o with slots := sl }) (free : ∀ b o, b ∉ ch -> s.heap.get? b = some o -> H b = none -> H' b = none)
   (there : ∀ b o, b ∉ ch -> s.heap.get? b = some o -> ∃ o', h'.get? b = some o')
   (yb : ∀ b xs, H b = some (.tup xs) -> H' b = some (.tup xs)) (c5 : ∀ b o u, H b = some (.aZ o u) -> H' b = some (.aZ o u)) (yc : ∀ b ps, H b = some (.Vk ps) -> ∃ more, H' b = some (.Vk (ps ++ more)))
   (ns : ∀ m, s.heap.Ns X.env.locals m -> h'.Ns X.env.locals m) (bY : qV X.prog X.w H' h') (hg : AllBare g') :
   Inv X pins σ H' { s with heap := h', gens := g', drawn := d', toks := t' } := by
 have neL : ∀ b o, X.s₀.heap.get? b = some o -> b ≠ X.env.locals := fun b o e => aid (ah4 (ahR e) I.ok.above)
 have neC : ∀ b o, X.s₀.heap.get? b = some o -> b ∉ X.ex -> b ∉ ch := fun b o e hx hb => by
   rcases (Rb b hb).1 with z | z
   . exact hx z
   . exact absurd (ah4 (ahR e) z) (ajb _)
 have cellK : ∀ x c, X.env.cells.lookup x = some c -> ∀ v, s.heap.IsCell c v -> h'.IsCell c v := fun x c e v ⟨o, ho, hd⟩ => by
   have ZS : c ∉ ch := fun z => (Rb c z).2.2.1 x c e rfl
   by_cases hc : c ∈ X.fs
   . obtain ⟨sl, q⟩ := slot c o (I.Wh x c e) hc ZS ho (I.jT x c e)
     exact ⟨_, q, hd⟩
   . exact ⟨o, keep c o (I.Wh x c e) hc ZS ho (I.jT x c e), hd⟩
 refine ⟨I.ok, I.os, hg, ⟨fun b o e n hb hx => ?_, fun b o e n hb hx => ?_, fun b o e n hx => ?_, fun b o e hx => ?_, fun b xs e => yb b xs (I.base.yb b xs e), fun b o xs e => c5 b o xs (I.base.c5 b o xs e), fun b ps e => ?_⟩, ?_, fun x c e => ?_, ?_, fun x c e => ?_, fun p hp => ?_, bY, I.len⟩
 . exact keep b o (neL b o e) hb (neC b o e hx) (I.base.keep b o e n hb hx) (I.base.free b o e n hx)
 . obtain ⟨sl, e1⟩ := I.base.slot b o e n hb hx
   obtain ⟨sl', e2⟩ := slot b _ (neL b o e) hb (neC b o e hx) e1 (I.base.free b o e n hx)
   exact ⟨sl', e2⟩
 . obtain ⟨o', e1⟩ := I.base.there b o e hx
   exact free b o' (neC b o e hx) e1 (I.base.free b o e n hx)
 . obtain ⟨o', e1⟩ := I.base.there b o e hx
   exact there b o' (neC b o e hx) e1
 . obtain ⟨m1, e1⟩ := I.base.yc b ps e
   obtain ⟨m2, e2⟩ := yc b _ e1
   exact ⟨m1 ++ m2, by rw [e2, Array.append_assoc]⟩
 . obtain ⟨m, hn, hl⟩ := I.loc
   refine ⟨m, ns m hn, fun i x v e1 e2 e3 => ?_⟩
   obtain ⟨u, r, l⟩ := hl i x v e1 e2 e3
   refine ⟨u, r, ?_⟩
   rcases l with l | ⟨k, c, e, z⟩
   . exact .inl l
   . exact .inr ⟨k, c, e, cellK x c e _ z⟩
 . obtain ⟨v, z⟩ := I.cell x c e
   exact ⟨v, cellK x c e v z⟩
 . obtain ⟨m, ⟨o, _, _, ho, _⟩, _⟩ := I.loc
   exact free _ o (fun z => (Rb _ z).2.1 rfl) ho I.free
 . obtain ⟨v, o, ho, hd⟩ := I.cell x c e
   exact free c o (fun z => (Rb c z).2.2.1 x c e rfl) ho (I.jT x c e)
 . obtain ⟨e, n, ne, nf, d⟩ := I.pin p hp
   have ZS : p.1 ∉ ch := fun z => (Rb p.1 z).2.2.2 p hp rfl
   exact ⟨keep p.1 p.2 ne nf ZS e n, free p.1 p.2 ZS e n, ne, nf, d⟩
theorem Inv.un (I : Q.g) (u : Un X.fs [] H H' s.heap h') (bY : qV X.prog X.w H' h') : Inv X pins σ H' { s with heap := h', toks := t' } := by
 obtain ⟨m, ⟨o, es, ep, ho, r⟩, _⟩ := id I.loc
 obtain ⟨sl, hL⟩ := u.any ho I.free (by simp)
 exact I.step (g' := s.gens) (d' := s.drawn) (ch := []) (fun _ z => nomatch z) (fun b o _ hb _ e n => u.keep b o e n hb (by simp)) (fun b o _ hb _ e n => u.slot b o e n hb (by simp)) (fun b o _ e n => u.free b o e n (by simp)) (fun b o _ e => u.there b o e (by simp)) u.yb u.c5 u.yc (fun m' hm => by
   obtain ⟨o', Vo, Wi, Mt, r'⟩ := hm
   rw [ho] at Mt; cases Mt
   exact ⟨_, Vo, Wi, hL, r'⟩) bY I.bare
theorem Inv.call {g' : Array GenState} {d' : Drawn} {ch : List Addr} (I : Q.g) (u : Un (qW X.stack) ch H H' s.heap h') (bY : qV X.prog X.w H' h') (hg : AllBare g')
   (Rb : ∀ b ∈ ch, (b ∈ X.ex \/ X.s₀.heap.objs.size <= b) /\ b ≠ X.env.locals /\ (∀ x c, X.env.cells.lookup x = some c -> c ≠ b) /\ ∀ p ∈ X.pn ++ pins, p.1 ≠ b) :
   Inv X pins σ H' { s with heap := h', gens := g', drawn := d', toks := t' } := by
 obtain ⟨m, ⟨o, es, ep, ho, r⟩, _⟩ := id I.loc
 obtain ⟨sl, hL⟩ := u.any ho I.free fun z => (Rb _ z).2.1 rfl
 exact I.step (ch := ch) Rb (fun b o hL hb hc e n => u.keep b o e n (fun z => (ahH.mp (I.uX b z)).elim hL hb) hc) (fun b o _ _ hc e n => u.any e n hc) (fun b o hc e n => u.free b o e n hc) (fun b o hc e => u.there b o e hc) u.yb u.c5 u.yc (fun m' hm => by
   obtain ⟨o', Vo, Wi, Mt, r'⟩ := hm
   rw [ho] at Mt; cases Mt
   exact ⟨_, Vo, Wi, hL, r'⟩) bY hg
theorem Inv.turned {it : Addr} (I : Q.g) (k : ∀ b o, b ≠ it -> s.heap.get? b = some o -> h'.get? b = some o) (hn : H it = none) (hL : it ≠ X.env.locals)
   (h1 : it ∈ X.ex \/ X.s₀.heap.objs.size <= it) (h2 : ∀ x c, X.env.cells.lookup x = some c -> c ≠ it) (h3 : ∀ p ∈ X.pn ++ pins, p.1 ≠ it) : Inv X pins σ H { s with heap := h', toks := t' } := by
 have nit : ∀ b u, H b = some u -> b ≠ it := fun b u e z => by rw [z, hn] at e; cases e
 refine I.step (g' := s.gens) (d' := s.drawn) (ch := [it]) (fun b hb => ?_) (fun b o _ _ hc e _ => k b o (fun z => hc (by simp [z])) e) (fun b o _ _ hc e _ => ⟨o.slots, k b o (fun z => hc (by simp [z])) e⟩) (fun _ _ _ _ n => n)
   (fun b o hc e => ⟨o, k b o (fun z => hc (by simp [z])) e⟩) (fun _ _ e => e) (fun _ _ _ e => e) (fun b ps e => ⟨#[], by rw [e]; simp⟩) (fun m hm => ?_) (fun b u e => ?_) I.bare
 . have e : b = it := by simpa using hb
   subst e
   exact ⟨h1, hL, h2, h3⟩
 . obtain ⟨o, es, ep, ho, r⟩ := hm
   exact ⟨o, es, ep, k _ o (ajv hL) ho, r⟩
 . refine (I.bY b u e).x9 (fun c v hc q => k c v ?_ q) (fun _ q => q) fun _ _ q => q
   rcases hc with z | z
   . rw [z]; exact nit b u e
   . exact nit c _ z
theorem Inv.tok (I : Q.g) (t : Nat) : Inv X pins σ H { s with toks := t } := I.un (h' := s.heap) (t' := t) Un.refl I.bY
theorem Inv.kept (I : Q.g) (k : ∀ b u, s.heap.get? b = some u -> h'.get? b = some u) : Inv X pins σ H { s with heap := h', toks := t' } := I.un (Un.kept k) (I.bY.kept k)
theorem Inv.laid (I : Q.g) (k : ∀ b u, s.heap.get? b = some u -> h'.get? b = some u) (hp : s.heap.objs.size <= a) (new : dD X.prog X.w (upd H a o) h' a o) :
   Inv X pins σ (upd H a o) { s with heap := h', toks := t' } := I.un (Un.laid k hp (I.bY.fresh hp)) (I.bY.laid k hp new)
theorem Inv.write (I : Q.g) (mu : ZQ (H x)) (he : e = x \/ H e = some (.own x)) (k : ∀ b u, b ≠ e -> s.heap.get? b = some u -> h'.get? b = some u) (Zi : ∃ u, h'.get? e = some u)
   (new : dD X.prog X.w (upd H x o) h' x o) : Inv X pins σ (upd H x o) { s with heap := h', toks := t' } := I.un (Un.write mu he k Zi) (I.bY.write mu he k Zi new)
theorem Inv.qX {El : Q.i} (I : Q.g) (h : ∀ p ∈ El, s.heap.get? p.1 = some p.2 /\ H p.1 = none /\ p.1 ≠ X.env.locals /\ p.1 ∉ X.fs /\ ∀ v, p.2.data ≠ .cell v) : Inv X El σ H s :=
 ⟨I.ok, I.os, I.bare, I.base, I.loc, I.cell, I.free, I.jT, fun p hp => (ahB.mp hp).elim (fun z => I.pin p (ahy _ z)) (h p), I.bY, I.len⟩
variable {i : Nat}
theorem Em {N : List Str} (hN : N.Nodup) {j : Nat} {x : Str} (a : N[i]? = some x) (b : N[j]? = some x) : i = j := by
 obtain ⟨h1, e1⟩ := aii.mp a
 obtain ⟨h2, e2⟩ := aii.mp b
 exact (List.getElem_inj hN).mp (e1.trans e2.symm)
variable {M : Model} {A : Around} {E : Q.l} {v : V} {u : Value} {Q : Unit -> Shared -> Prop}
theorem JZ {x : Str} (I : Q.g) (hN : X.N.Nodup) (hi : X.N[i]? = some x) (hx : Loc X.env.scope x) (r : RelV v u)
   (h : ∀ s', Inv X pins (σ.set i (some v)) H s' -> (∃ a, Heap.SameBut a s.heap s'.heap /\ (a = X.env.locals \/ X.env.cells.lookup x = some a)) -> Q () s') (hf : X.fn x = true \/ X.env.scope.names.lookup x = some .local := by first | exact .inl rfl | exact .inr rfl | assumption) : wpAny M A (storeName X.env x u) Q E s := by
 obtain ⟨m, hn, hl⟩ := id I.loc
 have Wj : (X.env.scope.kind == .class || (X.env.scope.kind == .module && X.env.locals != X.env.globals)) = false := by rw [I.ok.kind]; rfl
 have ZT : i < σ.length := by rw [I.len]; exact (aii.mp hi).1
 have Wh := I.Wh
 have tracked : ∀ {a : Addr} {h' : Heap}, (∃ o, s.heap.get? a = some o /\ H a = none) -> Heap.SameBut a s.heap h' -> qV X.prog X.w H h' := fun {a h'} ha hs b ob e => by
   obtain ⟨_, _, Vp⟩ := ha
   refine (I.bY b ob e).x9 (fun c w' hc q => (hs.2 c ?_).trans q) (fun _ q => q) fun _ _ q => q
   rintro rfl
   rcases hc with rfl | hc
   . rw [Vp] at e; cases e
   . rw [Vp] at hc; cases hc
 rcases hx with hk | hk
 . refine wpAny_storeName_local hk hn (fun h' hn' hs => ?_) Wj
   obtain ⟨oL, _, _, hoL, _⟩ := id hn
   refine h _ ⟨I.ok, I.os, I.bare, ⟨fun b o e n hb hx => ?_, fun b o e n hb hx => ?_, I.base.free, fun b o e hx => ?_, I.base.yb, I.base.c5, I.base.yc⟩, ⟨_, hn', fun j y v' e1 e2 e3 => ?_⟩, fun y c e => ?_, I.free, I.jT, fun p hp => ?_, tracked ⟨oL, hoL, I.free⟩ hs, by simpa using I.len⟩ ⟨_, hs, .inl rfl⟩
   . exact (hs.2 b (aid (ah4 (ahR e) I.ok.above))).trans (I.base.keep b o e n hb hx)
   . obtain ⟨sl, e1⟩ := I.base.slot b o e n hb hx
     exact ⟨sl, (hs.2 b (aid (ah4 (ahR e) I.ok.above))).trans e1⟩
   . obtain ⟨o', e1⟩ := I.base.there b o e hx
     exact ⟨o', (hs.2 b (aid (ah4 (ahR e) I.ok.above))).trans e1⟩
   . by_cases hj : j = i
     . subst hj
       rw [hi] at e1; cases e1
       rw [aji ZT] at e2
       cases e2
       exact ⟨u, r, .inl ⟨hk, by simp⟩⟩
     . rw [List.getElem?_set_ne (ajv hj)] at e2
       obtain ⟨u', r', q⟩ := hl j y v' e1 e2 e3
       refine ⟨u', r', ?_⟩
       rcases q with ⟨k, e⟩ | ⟨k, c, e, z⟩
       . refine .inl ⟨k, ?_⟩
         have : y ≠ x := fun e => hj (Em hN e1 (e ▸ hi))
         simp [this, e]
       . exact .inr ⟨k, c, e, z.sameBut hs (Wh y c e)⟩
   . obtain ⟨w', z⟩ := I.cell y c e
     exact ⟨w', z.sameBut hs (Wh y c e)⟩
   . obtain ⟨e, n, ne, nf, d⟩ := I.pin p hp
     exact ⟨(hs.2 p.1 ne).trans e, n, ne, nf, d⟩
 . have hfn : X.fn x = true := by
     rcases hf with z | z
     . exact z
     . rw [z] at hk; cases hk
   obtain ⟨c, hc⟩ := I.ok.has x (.inl hk)
   obtain ⟨w', z⟩ := I.cell x c hc
   refine wpAny_storeName_cell I.ok.kind hk hc z (fun h' Vq hs => ?_)
   obtain ⟨oc, Vr, ac0⟩ := id z
   refine h { s with heap := h' } ⟨I.ok, I.os, I.bare, ⟨fun b o e n hb hx => ?_, fun b o e n hb hx => ?_, I.base.free, fun b o e hx => ?_, I.base.yb, I.base.c5, I.base.yc⟩, ⟨m, hn.sameBut hs (Ne.symm (Wh x c hc)), fun j y v' e1 e2 e3 => ?_⟩, fun y c' e => ?_, I.free, I.jT, fun p hp => ?_, tracked ⟨oc, Vr, I.jT x c hc⟩ hs, by simpa using I.len⟩ ⟨c, hs, .inr hc⟩
   . exact (hs.2 b (aid (ah4 (ahR e) (I.ok.Wg x c hfn hc)))).trans (I.base.keep b o e n hb hx)
   . obtain ⟨sl, e1⟩ := I.base.slot b o e n hb hx
     exact ⟨sl, (hs.2 b (aid (ah4 (ahR e) (I.ok.Wg x c hfn hc)))).trans e1⟩
   . obtain ⟨o', e1⟩ := I.base.there b o e hx
     exact ⟨o', (hs.2 b (aid (ah4 (ahR e) (I.ok.Wg x c hfn hc)))).trans e1⟩
   . by_cases hj : j = i
     . subst hj
       rw [hi] at e1; cases e1
       rw [aji ZT] at e2
       cases e2
       exact ⟨u, r, .inr ⟨.inl hk, c, hc, Vq⟩⟩
     . rw [List.getElem?_set_ne (ajv hj)] at e2
       obtain ⟨u', r', q⟩ := hl j y v' e1 e2 e3
       refine ⟨u', r', ?_⟩
       rcases q with q | ⟨k, c', e, z'⟩
       . exact .inl q
       . refine .inr ⟨k, c', e, z'.sameBut hs ?_⟩
         rintro rfl
         exact hj (Em hN e1 (I.ok.inj _ _ _ e hc ▸ hi))
   . by_cases hcc : c' = c
     . subst hcc; exact ⟨_, Vq⟩
     . obtain ⟨w2, z2⟩ := I.cell y c' e
       exact ⟨w2, z2.sameBut hs hcc⟩
   . obtain ⟨e, n, ne, nf, d⟩ := I.pin p hp
     refine ⟨(hs.2 p.1 ?_).trans e, n, ne, nf, d⟩
     intro q
     rw [q, Vr] at e
     have q' : oc = p.2 := ahP e
     exact d w' (by rw [← q']; exact ac0)
theorem yd {x : Str} (I : Q.g) (hN : X.N.Nodup) (hi : X.N[i]? = some x) (hx : Loc X.env.scope x) (r : RelV v u)
   (h : ∀ s', Inv X pins (σ.set i (some v)) H s' -> Q () s') (hf : X.fn x = true \/ X.env.scope.names.lookup x = some .local := by first | exact .inl rfl | exact .inr rfl | assumption) : wpAny M A (storeName X.env x u) Q E s :=
 JZ I hN hi hx r (fun s' I' _ => h s' I') hf
theorem Inv.ZU {s' : Shared} {ch : List Addr} (I : Q.g) (ho : s'.os = s.os) (u : Un (qW X.stack) ch H H' s.heap s'.heap) (bY : qV X.prog X.w H' s'.heap) (hg : AllBare s'.gens)
   (Rb : ∀ b ∈ ch, (b ∈ X.ex \/ X.s₀.heap.objs.size <= b) /\ b ≠ X.env.locals /\ (∀ x c, X.env.cells.lookup x = some c -> c ≠ b) /\ ∀ p ∈ X.pn ++ pins, p.1 ≠ b) : Inv X pins σ H' s' := by
 obtain ⟨h', g', d', t', o'⟩ := s'
 have e : o' = s.os := ho
 subst e
 exact I.call (g' := g') (t' := t') (d' := d') u bY hg Rb
abbrev XK := Value -> Option Addr -> Hp -> Prop
abbrev St := List (Option V)
abbrev VK := V -> Hp -> Prop
abbrev TE := St -> Hp -> VK -> Prop
abbrev TT := St -> Hp -> (Bool -> Hp -> Prop) -> Prop
abbrev TA := St -> Hp -> (List V -> Hp -> Prop) -> Prop
structure Ends where
 nx : St -> Hp -> Prop
 rt : VK
 bk : St -> Hp -> Prop := fun _ _ => False
 ct : St -> Hp -> Prop := fun _ _ => False
abbrev TS := Ends -> St -> Hp -> Prop
def EP (X : Cx) (pins : Q.i) (σ : St) (Q : VK) (u : Value) (s' : Shared) : Prop := ∃ v H', Inv X pins σ H' s' /\ RelV v u /\ Q v H'
def TP (X : Cx) (pins : Q.i) (σ : St) (Q : Bool -> Hp -> Prop) (b : Bool) (s' : Shared) : Prop := ∃ H', Inv X pins σ H' s' /\ Q b H'
def AP (X : Cx) (pins : Q.i) (σ : St) (Q : List V -> Hp -> Prop) (us : List Value) (s' : Shared) : Prop := ∃ vs H', Inv X pins σ H' s' /\ Vals vs us /\ Q vs H'
def SP (X : Cx) (pins : Q.i) (D : Ends) (f : Flow) (s' : Shared) : Prop :=
 match f with
 | .next => ∃ σ' H', Inv X pins σ' H' s' /\ D.nx σ' H'
 | .brk => ∃ σ' H', Inv X pins σ' H' s' /\ D.bk σ' H'
 | .cont => ∃ σ' H', Inv X pins σ' H' s' /\ D.ct σ' H'
 | .ret u => ∃ v σ' H', Inv X pins σ' H' s' /\ RelV v u /\ D.rt v H'
def PE (X : Cx) (e : Expr) (t : TE) : Prop :=
 ∀ (pins : Q.i) (s : Shared) (σ : St) (H : Hp) (Q : VK), Inv X pins σ H s -> t σ H Q -> wpAny Q.d X.A (eval e X.env) (EP X pins σ Q) X.xe s
def PT (X : Cx) (e : Expr) (t : TT) : Prop :=
 ∀ (pins : Q.i) (s : Shared) (σ : St) (H : Hp) (Q : Bool -> Hp -> Prop), Inv X pins σ H s -> t σ H Q -> wpAny Q.d X.A (isTrue e X.env (eval e X.env)) (TP X pins σ Q) X.xe s
def PW (X : Cx) (e : Expr) (t : TT) : Prop :=
 ∀ (whole : Sem Value) (pins : Q.i) (s : Shared) (σ : St) (H : Hp) (Q : Bool -> Hp -> Prop), Inv X pins σ H s -> t σ H Q -> wpAny Q.d X.A (isTrue e X.env whole) (TP X pins σ Q) X.xe s
def PA (X : Cx) (es : List Expr) (t : TA) : Prop :=
 ∀ (pos : Pos) (pins : Q.i) (s : Shared) (σ : St) (H : Hp) (Q : List V -> Hp -> Prop), Inv X pins σ H s -> t σ H Q -> wpAny Q.d X.A (spliced (backTo pos (starEach es X.env))) (AP X pins σ Q) X.xe s
def PS (X : Cx) (st : Stmt) (t : TS) : Prop :=
 ∀ (pins : Q.i) (s : Shared) (σ : St) (H : Hp) (D : Ends), Inv X pins σ H s -> t D σ H -> wpAny Q.d X.A (exec st X.env) (SP X pins D) X.xe s
def Iv (X : Cx) (st : List Stmt) (t : TS) : Prop :=
 ∀ (pins : Q.i) (s : Shared) (σ : St) (H : Hp) (D : Ends), Inv X pins σ H s -> t D σ H -> wpAny Q.d X.A (execs st X.env) (SP X pins D) X.xe s
theorem di {α : Type} {t : Sem α} {Q Q' : α -> Shared -> Prop} (h : wpAny M A t Q E s) (hQ : ∀ a s, Q a s -> Q' a s) : wpAny M A t Q' E s := aik h hQ fun _ _ x => x
section
def ac1 (i : Nat) : TE := fun σ H Q => ∃ v, σ[i]? = some (some v) /\ Q v H
def tC (v : V) : TE := fun _ H Q => Q v H
theorem eB {x : Str} {pos : Pos} (hN : X.N[i]? = some x) (hv : Vm X.env.scope x) (hd : Q.m := by decide) (j3 : (x == ("__classdict__" : Str)) = false := by decide) : PE X (.Name x pos) (ac1 i) := by
 intro pins s σ H Q I h
 obtain ⟨v, e, h⟩ := h
 obtain ⟨m, hn, hl⟩ := I.loc
 obtain ⟨u, r, l⟩ := hl i x v hN e hv
 have fin : EP X pins σ Q u s := ⟨v, H, I, r, h⟩
 rcases l with ⟨hk, hm⟩ | ⟨hk, c, hc, pR⟩
 . exact wpAny_Name (wpAny_loadName_local I.ok.kind hk hn hm fin) hd
 . rcases hk with hk | hk
   . exact wpAny_Name (wpAny_loadName_cell I.ok.kind hk hc pR fin) hd
   . exact wpAny_Name (wpAny_loadName_free I.ok.kind hk hc pR fin j3) hd
theorem F7 {i j pos} : PE X (.Constant (.int i) j pos) (tC (.int i)) := fun _ _ _ H _ I h => wpAny_Constant_int ⟨.int i, H, I.tok _, ⟨_, rfl⟩, h⟩
theorem ZV {b j pos} : PE X (.Constant (.bool b) j pos) (tC (.bl b)) := fun _ _ _ H _ I h => Constant_bool ⟨.bl b, H, I, rfl, h⟩
theorem Wk {x j pos} : PE X (.Constant (.str x) j pos) (tC (.str x)) := fun _ _ _ H _ I h => Calls.Constant_str ⟨.str x, H, I.tok _, ⟨_, rfl⟩, h⟩
def Gl (X : Cx) (x : Str) : Prop := X.env.kindOf x = some .globalImplicit
theorem qY {σ : St} {x : Str} {pos : Pos} {Q : Q.l} (I : Q.g) (hg : Gl X x) (hm : X.mg x = some u) (h : Q u s)
   (hd : Q.m := by decide) : wpAny Q.d X.A (eval (.Name x pos) X.env) Q E s :=
 Calls.Name_function_global I.ok.kind hg (Calls.loadGlobal_global (by rw [I.ok.glob]; exact I.mod.glob.keeps I.bk) hm h) hd
theorem F8 {σ : St} {x : Str} {pos : Pos} {Q : Q.l} (I : Q.g) (hg : Gl X x) (hm : X.mg x = none) (hv : bootBuiltins x = some u) (h : Q u s)
   (hn : x ≠ "__name__" := by decide) (hd : Q.m := by decide) : wpAny Q.d X.A (eval (.Name x pos) X.env) Q E s := by
 obtain ⟨mb, h1, h2⟩ := I.mod.blt
 exact Calls.Name_function_global I.ok.kind hg (Calls.loadGlobal_builtin (by rw [I.ok.glob]; exact I.mod.glob.keeps I.bk) hm (by rw [I.ok.blt]; exact h1.keeps I.bk) ((h2 x hn).trans hv) h) hd
theorem Ca {x : Str} {pos : Pos} (hg : Gl X x) (hm : X.mg x = some u) (r : RelV v u) (hd : Q.m := by decide) : PE X (.Name x pos) (tC v) :=
 fun _ _ _ H _ I h => qY I hg hm ⟨v, H, I, r, h⟩ hd
variable {a b : Expr} {pos : Pos}
def tB (t : TE) : TT := fun σ H Q => t σ H fun x H1 => ∃ c, x = .bl c /\ Q c H1
theorem Wm {e : Expr} {t : TE} (h : PE X e t) (he : ∀ whole, isTrue e X.env whole = (do let v ← whole; standAt e.pos; holding [v] (truthy v)) := by intro _; rfl) : PT X e (tB t) := by
 intro pins s σ H Q I hw
 refine isTrue_plain (di (h pins s σ H _ I hw) fun v s1 zz => ?_) (he _)
 obtain ⟨x, H1, I1, r1, q1⟩ := zz
 obtain ⟨d, rfl, q⟩ := q1
 cases r1
 exact wpAny_truthy_bool ⟨H1, I1, q⟩
variable {tA tB' : TT} {rest : List Expr}
def ac2 (t u : TT) : TT := fun σ H Q => t σ H fun c H1 => if c = true then u σ H1 Q else Q false H1
def tOr (t u : TT) : TT := fun σ H Q => t σ H fun c H1 => if c = true then Q true H1 else u σ H1 Q
def ac3 (t : TT) : TT := fun σ H Q => t σ H fun c H1 => Q (!c) H1
theorem Ru (ha : PT X a tA) : PW X (.BoolOp .And [a] pos) tA := by
 intro wh pins s σ H Q I h
 refine isTrue_and (di (ha pins s σ H Q I h) fun c s1 e => ?_)
 cases c with
 | true => exact isTrue_and_nil e
 | false => exact e
theorem Wn (ha : PT X a tA) : PW X (.BoolOp .Or [a] pos) tA := by
 intro wh pins s σ H Q I h
 refine isTrue_or (di (ha pins s σ H Q I h) fun c s1 e => ?_)
 cases c with
 | false => exact isTrue_or_nil e
 | true => exact e
theorem Wo (ha : PT X a tA) (hb : PW X (.BoolOp .And (b :: rest) pos) tB') : PW X (.BoolOp .And (a :: b :: rest) pos) (ac2 tA tB') := by
 intro wh pins s σ H Q I h
 refine isTrue_and (di (ha pins s σ H _ I h) fun c s1 zz => ?_)
 obtain ⟨H1, I1, q1⟩ := zz
 cases c with
 | true => exact hb wh pins s1 σ H1 Q I1 q1
 | false => exact ⟨H1, I1, q1⟩
theorem ZW (ha : PT X a tA) (hb : PW X (.BoolOp .Or (b :: rest) pos) tB') : PW X (.BoolOp .Or (a :: b :: rest) pos) (tOr tA tB') := by
 intro wh pins s σ H Q I h
 refine isTrue_or (di (ha pins s σ H _ I h) fun c s1 zz => ?_)
 obtain ⟨H1, I1, q1⟩ := zz
 cases c with
 | true => exact ⟨H1, I1, q1⟩
 | false => exact hb wh pins s1 σ H1 Q I1 q1
theorem Wq (ha : PT X a tA) : PT X (.UnaryOp .Not a pos) (ac3 tA) := by
 intro pins s σ H Q I h
 exact isTrue_not (ha pins s σ H (fun c H1 => Q (!c) H1) I h)
end
def oB (K : Q.h) (H : Hp) (a : Addr) (xs : List V) : Prop :=
 Rd H a (.lst xs) ∨
   ∃ (o : Obj) (its : Array Value) (n : Nat), K.lookup a = some o /\ o.cls = .type "list" /\ o.dict = none /\ o.data = .seq its n /\ its.size <= sizeLine /\ Vals xs its.toList
def sO (K : Q.h) (H : Hp) (a : Addr) (xs : List V) : Prop :=
 Rd H a (.tup xs) ∨
   ∃ (o : Obj) (its : Array Value) (n : Nat), K.lookup a = some o /\ o.cls = .type "tuple" /\ o.data = .seq its n /\ its.size <= sizeLine /\ Vals xs its.toList
def ac4 : Value -> Option V
 | .none => some .non
 | .bool b => some (.bl b)
 | .int i _ => some (.int i)
 | .str x _ => some (.str x)
 | .bytes b _ => some (.Ir b)
 | .float b _ => some (.flt b)
 | .ref a => some (.ref a)
 | .type n => some (.ty n)
 | _ => none
theorem RelV.abs {x : V} (r : RelV x u) : ac4 u = some x := by
 cases x with
 | non => cases r; rfl
 | bl _ => cases r; rfl
 | int _ => obtain ⟨t, rfl⟩ := r; rfl
 | str _ => obtain ⟨t, rfl⟩ := r; rfl
 | Ir _ => obtain ⟨t, rfl⟩ := r; rfl
 | flt _ => obtain ⟨t, rfl⟩ := r; rfl
 | ref _ => cases r; rfl
 | ty _ => cases r; rfl
theorem RelV.inj {x y : V} (r : RelV x u) (q : RelV y u) : x = y := ahP (r.abs.symm.trans q.abs)
theorem Vals.inj {ys : List V} (h : Vals xs us) (q : Vals ys us) : xs = ys := by
 induction h generalizing ys with
 | nil => cases q; rfl
 | cons r _ i => cases q with
   | cons r' t' => rw [r.inj r', i t']
variable {σ : St} {ys : List V} {K : Q.h}
theorem oB.of (h : H a = some (.lst xs)) : oB K H a xs := .inl (.inl h)
theorem sO.of (h : H a = some (.tup xs)) : sO K H a xs := .inl (.inl h)
theorem Inv.list (I : Q.g) (h : oB X.K H a xs) : ∃ its : List Value, Vals xs its /\ PlainL s.heap a its.toArray /\ xs.length <= sizeLine := by
 rcases h with h | ⟨o, its, n, hk, hc, hd, hs, hz, r⟩
 . obtain ⟨z, its, n, r, e⟩ := h.ok I.bY
   exact ⟨its, r, ⟨_, n, e, rfl, rfl, rfl⟩, z⟩
 . refine ⟨its.toList, r, ⟨o, n, I.wR a o hk, hc, hd, by simpa using hs⟩, ?_⟩
   have e := r.length
   simp only [ajy] at e
   omega
theorem Inv.tuple (I : Q.g) (h : sO X.K H a xs) : ∃ its : List Value, Vals xs its /\ IsTup s.heap a its.toArray /\ xs.length <= sizeLine := by
 rcases h with h | ⟨o, its, n, hk, hc, hs, hz, r⟩
 . obtain ⟨z, its, r, p⟩ := h.ok I.bY
   exact ⟨its, r, p, z⟩
 . refine ⟨its.toList, r, ⟨o, I.wR a o hk, hc, n, by simpa using hs⟩, ?_⟩
   have e := r.length
   simp only [ajy] at e
   omega
theorem Inv.MC (I : Q.g) (h : oB X.K H a xs) (h' : oB X.K H a ys) : xs = ys := by
 obtain ⟨its, r, ⟨o, n, e, _, _, d⟩, _⟩ := I.list h
 obtain ⟨its', r', ⟨o', n', e', _, _, d'⟩, _⟩ := I.list h'
 rw [e] at e'; cases e'
 rw [d] at d'
 injection d' with d1 _
 have : its = its' := by simpa using congrArg Array.toList d1
 subst this
 exact r.inj r'
theorem Inv.J1 (I : Q.g) (h : sO X.K H a xs) (h' : sO X.K H a ys) : xs = ys := by
 obtain ⟨its, r, ⟨o, e, _, n, d⟩, _⟩ := I.tuple h
 obtain ⟨its', r', ⟨o', e', _, n', d'⟩, _⟩ := I.tuple h'
 rw [e] at e'; cases e'
 rw [d] at d'
 injection d' with d1 _
 have : its = its' := by simpa using congrArg Array.toList d1
 subst this
 exact r.inj r'
abbrev Cx.wish (X : Cx) (E : Q.l) : Cx := { X with xe := E }
abbrev Cx.Rw (X : Cx) : Cx := X.wish fun _ _ => False
theorem Cx.Ok.wish (ok : X.Ok) (E : Q.l) : (X.wish E).Ok :=
 ⟨ok.mod, ok.kind, ok.glob, ok.blt, ok.above, ok.inj, ok.has, ok.Wg, ok.hd, ok.frames, ok.Zk, ok.exf, ok.bs, ok.Iu, ok.Ek, ok.JY, ok.rV, ok.MB⟩
theorem Cx.Ok.j4 (ok : (X.wish E).Ok) : X.Ok :=
 ⟨ok.mod, ok.kind, ok.glob, ok.blt, ok.above, ok.inj, ok.has, ok.Wg, ok.hd, ok.frames, ok.Zk, ok.exf, ok.bs, ok.Iu, ok.Ek, ok.JY, ok.rV, ok.MB⟩
theorem Inv.wish (I : Q.g) (E : Q.l) : Inv (X.wish E) pins σ H s := ⟨I.ok.wish E, I.os, I.bare, I.base, I.loc, I.cell, I.free, I.jT, I.pin, I.bY, I.len⟩
theorem Inv.j4 (I : Inv (X.wish E) pins σ H s) : Inv X pins σ H s := ⟨I.ok.j4, I.os, I.bare, I.base, I.loc, I.cell, I.free, I.jT, I.pin, I.bY, I.len⟩
theorem SP.j4 {D : Ends} {f : Flow} {s' : Shared} (h : SP (X.wish E) pins D f s') : SP X pins D f s' := by
 cases f with
 | next => obtain ⟨σ', H', I, q⟩ := h; exact ⟨σ', H', I.j4, q⟩
 | brk => obtain ⟨σ', H', I, q⟩ := h; exact ⟨σ', H', I.j4, q⟩
 | cont => obtain ⟨σ', H', I, q⟩ := h; exact ⟨σ', H', I.j4, q⟩
 | ret u => obtain ⟨v, σ', H', I, r, q⟩ := h; exact ⟨v, σ', H', I.j4, r, q⟩
theorem Iv.Rw {st : List Stmt} {t : TS} (h : Iv X.Rw st t) : Iv X st t := fun pins s σ H D I hw =>
 aik (h pins s σ H D (I.wish _) hw) (fun _ _ q => q.j4) fun _ _ z => False.elim z
section
variable {st : Stmt} {rest : List Stmt} {t u : TS} {e : Expr} {te : TE} {pos : Pos}
def ZX : TS := fun D σ H => D.nx σ H
def ac5 (t u : TS) : TS := fun D σ H => t { D with nx := u D } σ H
theorem Rx : Iv X [] ZX := fun _ _ σ H _ I h => wpAny_execs_nil ⟨σ, H, I, h⟩
theorem En (h1 : PS X st t) (h2 : Iv X rest u) : Iv X (st :: rest) (ac5 t u) := by
 intro pins s σ H D I h
 refine wpAny_execs_cons (di (h1 pins s σ H { D with nx := u D } I h) fun f s1 q => ?_)
 cases f with
 | next =>
   obtain ⟨σ', H', I', q⟩ := q
   exact h2 pins s1 σ' H' D I' q
 | ret v => exact q
 | brk => exact q
 | cont => exact q
theorem Inv.quiet (I : Q.g) : interactive X.env = false := by simp [interactive, I.ok.kind]
def ZY (te : TE) : TS := fun D σ H => te σ H fun _ H1 => D.nx σ H1
theorem oE (he : PE X e te) (hs : swapsWith e none pos.line X.env = pure false := by rfl) : PS X (.Expr e pos) (ZY te) := by
 intro pins s σ H D I h
 exact wpAny_Expr_any (di (he pins s σ H _ I h) fun v s1 ⟨x, H1, I1, r1, q1⟩ => ⟨σ, H1, I1, q1⟩) I.quiet hs
def ac6 (te : TE) : TS := fun D σ H => te σ H D.rt
theorem MD (he : PE X e te) : PS X (.Return (some e) pos) (ac6 te) := by
 intro pins s σ H D I h
 exact wpAny_Return_some (di (he pins s σ H _ I h) fun v s1 ⟨x, H1, I1, r1, q1⟩ => ⟨x, σ, H1, I1, r1, q1⟩)
def ac7 (c : TT) (t u : TS) : TS := fun D σ H => c σ H fun b H1 => if b = true then t D σ H1 else u D σ H1
theorem Vs {c : Expr} {a b : List Stmt} {tc : TT} (hc : PT X c tc) (ha : Iv X a t) (hb : Iv X b u) : PS X (.If c a b pos) (ac7 tc t u) := by
 intro pins s σ H D I h
 refine wpAny_If (di (hc pins s σ H _ I h) fun d s1 zz => ?_)
 obtain ⟨H1, I1, q1⟩ := zz
 cases d with
 | true => exact ha pins s1 σ H1 D I1 q1
 | false => exact hb pins s1 σ H1 D I1 q1
end
abbrev TG := V -> St -> Hp -> (St -> Hp -> Prop) -> Prop
abbrev Wr := List V -> St -> Hp -> (St -> Hp -> Prop) -> Prop
def PG (X : Cx) (target : Expr) (t : TG) : Prop :=
 ∀ (pins : Q.i) (s : Shared) (σ : St) (H : Hp) (v : V) (u : Value) (Q : St -> Hp -> Prop), Inv X pins σ H s -> RelV v u -> t v σ H Q →
   wpAny Q.d X.A (assign target X.env u) (fun _ s' => ∃ σ' H', Inv X pins σ' H' s' /\ Q σ' H') X.xe s
def PGs (X : Cx) (ts : List Expr) (t : Wr) : Prop :=
 ∀ (pins : Q.i) (s : Shared) (σ : St) (H : Hp) (vs : List V) (us : List Value) (Q : St -> Hp -> Prop), Inv X pins σ H s -> Vals vs us -> t vs σ H Q →
   wpAny Q.d X.A (assignInOrder ((assignEach ts X.env).map (·.2)) us) (fun _ s' => ∃ σ' H', Inv X pins σ' H' s' /\ Q σ' H') X.xe s
abbrev Ws := V -> V -> V -> Hp -> (Hp -> Prop) -> Prop
def ZZ (X : Cx) (t : Ws) : Prop :=
 ∀ (pins : Q.i) (s : Shared) (σ : St) (H : Hp) (o i v : V) (ov iv u : Value) (Q : Hp -> Prop), Inv X pins σ H s -> RelV o ov -> RelV i iv -> RelV v u -> t o i v H Q →
   wpAny Q.d X.A (setItem ov iv u) (fun _ s' => ∃ H', Inv X pins σ H' s' /\ Q H') X.xe s
abbrev TIp := V -> V -> Hp -> VK -> Prop
def PIp (X : Cx) (op : Operator) (t : TIp) : Prop :=
 ∀ (pins : Q.i) (s : Shared) (σ : St) (H : Hp) (x y : V) (v u : Value) (Q : VK), Inv X pins σ H s -> RelV x v -> RelV y u -> t x y H Q →
   wpAny Q.d X.A (inplaceOp op v u) (EP X pins σ Q) X.xe s
variable {pos : Pos}
def sd (i : Nat) : TG := fun v σ H Q => Q (σ.set i (some v)) H
theorem kK {x : Str} (hN : X.N.Nodup) (hi : X.N[i]? = some x) (hx : Loc X.env.scope x) (hf : X.fn x = true \/ X.env.scope.names.lookup x = some .local := by first | exact .inl rfl | exact .inr rfl | assumption) : PG X (.Name x pos) (sd i) := by
 intro pins s σ H v u Q I r h
 exact wpAny_assign_Name (yd I hN hi hx r (fun s' I' => ⟨_, H, I', h⟩) hf)
def Wt : Wr := fun vs σ H Q => vs = [] /\ Q σ H
def Eo (t : TG) (u : Wr) : Wr := fun vs σ H Q => ∃ v r, vs = v :: r /\ t v σ H fun σ' H' => u r σ' H' Q
theorem Ry : PGs X [] Wt := by
 intro pins s σ H vs us Q I r h
 obtain ⟨e, h⟩ := h
 subst e
 cases r
 exact assignInOrder_nil ⟨σ, H, I, h⟩
variable {es : List Expr}
theorem Ep {e : Expr} {t : TG} {u : Wr} (h1 : PG X e t) (h2 : PGs X es u)
   (hs : (assignEach (e :: es) X.env).map (·.2) = assign e X.env :: (assignEach es X.env).map (·.2) := by rfl) : PGs X (e :: es) (Eo t u) := by
 intro pins s σ H vs us Q I r h
 obtain ⟨v, vr, e1, h⟩ := h
 subst e1
 cases r with
 | cons r rr =>
   rw [hs]
   refine assignInOrder_cons (di (h1 pins s σ H _ _ _ I r h) fun _ s1 zz => ?_)
   obtain ⟨σ1, H1, I1, q1⟩ := zz
   exact h2 pins s1 σ1 H1 _ _ Q I1 rr q1
def Wu (K : Q.h) (n : Nat) (t : Wr) : TG := fun v σ H Q => ∃ a xs, v = .ref a /\ sO K H a xs /\ xs.length = n /\ t xs σ H Q
variable {k : Nat}
theorem Wv {t : Wr} {n : Nat} (hc : X.calm = true) (h : PGs X es t)
   (hn : (assignEach es X.env).length = n := by rfl) (kG : (assignEach es X.env).findIdx? (·.1) = none := by rfl) : PG X (.Tuple es k pos) (Wu X.K n t) := by
 intro pins s σ H v u Q I r hw
 obtain ⟨a, xs, e1, hq, hl, hw⟩ := hw
 subst e1
 cases r
 obtain ⟨its, rv, ht, hz⟩ := I.tuple hq
 refine assign_Tuple_tuple (I.ok.hd hc) ht (by simp [hn, ← hl, rv.length]) kG fun h' hx => ?_
 have I1 : Inv X pins σ H { s with heap := h' } := I.kept (t' := s.toks) fun b o e => hx b o (aid (ahR e)) e
 exact h pins _ σ H xs _ Q I1 (by simpa using rv) hw
def ac8 (to ti : TE) (t : Ws) : TG := fun v σ H Q => to σ H fun o H1 => ti σ H1 fun i H2 => t o i v H2 fun H3 => Q σ H3
theorem MF {o i : Expr} {to ti : TE} {t : Ws} (ho : PE X o to) (hi : PE X i ti) (hs : ZZ X t)
   (ha : ∀ v, assign (.Subscript o i pos) X.env v = (do
     let ov ← holding [v] (eval o X.env)
     let iv ← holding [v, ov] (eval i X.env)
     standAt pos
     holding [v, ov, iv] (setItem ov iv v)
     release [v, ov, iv] []) := by intro _; rfl) : PG X (.Subscript o i pos) (ac8 to ti t) := by
 intro pins s σ H v u Q I r h
 rw [ha]
 refine aht (ajM (di (ho pins s σ H _ I h) fun ov s1 zz => ?_))
 obtain ⟨x, H1, I1, r1, q1⟩ := zz
 refine aht (ajM (di (hi pins s1 σ H1 _ I1 q1) fun iv s2 zz => ?_))
 obtain ⟨y, H2, I2, r2, q2⟩ := zz
 refine aht (wpAny_standAt (aht (ajM (di (hs pins s2 σ H2 x y v ov iv u _ I2 r1 r2 r q2) fun _ s3 zz => ?_))))
 obtain ⟨H3, I3, q3⟩ := zz
 exact wpAny_release ⟨σ, H3, I3, q3⟩
def Z6 (te : TE) (g : TG) : TS := fun D σ H => te σ H fun x H1 => g x σ H1 D.nx
variable {tg : Expr} {te : TE}
theorem MG {e : Expr} {g : TG} (he : PE X e te) (hg : PG X tg g) (hs : swapsWithSole [tg] e pos.line X.env = pure false := by rfl) (hw : swappedStores [tg] e X.env = pure none := by rfl)
   (h1 : (assignEach [tg] X.env).map (·.2) = [assign tg X.env] := by rfl) : PS X (.Assign [tg] e pos) (Z6 te g) := by
 intro pins s σ H D I h
 refine wpAny_Assign_stores (di (he pins s σ H _ I h) fun v s1 zz => ?_) hs hw
 obtain ⟨x, H1, I1, r1, q1⟩ := zz
 rw [h1]
 exact di (hg pins s1 σ H1 x v _ I1 r1 q1) fun _ s2 q => q
theorem MH {x : Str} {e : Expr} {pos' : Pos} (hN : X.N.Nodup) (hi : X.N[i]? = some x) (hx : Loc X.env.scope x) (he : PE X e te) (hs : swapsWith e (some (.Name x pos')) pos.line X.env = pure false := by rfl) (hf : X.fn x = true \/ X.env.scope.names.lookup x = some .local := by first | exact .inl rfl | exact .inr rfl | assumption) :
   PS X (.Assign [.Name x pos'] e pos) (Z6 te (sd i)) := by
 intro pins s σ H D I h
 refine wpAny_Assign_Name (di (he pins s σ H _ I h) fun v s1 zz => ?_) hs
 obtain ⟨y, H1, I1, r1, q1⟩ := zz
 exact yd I1 hN hi hx r1 (fun s2 I2 => ⟨_, H1, I2, q1⟩) hf
def ac9 (i : Nat) (te : TE) (ti : TIp) : TS := fun D σ H => ∃ x, σ[i]? = some (some x) /\ te σ H fun y H1 => ti x y H1 fun z H2 => D.nx (σ.set i (some z)) H2
theorem Ww {x : Str} {e : Expr} {op : Operator} {ti : TIp} {pos' : Pos} (hN : X.N.Nodup) (hi : X.N[i]? = some x) (hx : Loc X.env.scope x) (he : PE X e te) (ho : PIp X op ti) (hf : X.fn x = true \/ X.env.scope.names.lookup x = some .local := by first | exact .inl rfl | exact .inr rfl | assumption) :
   PS X (.AugAssign (.Name x pos') op e pos) (ac9 i te ti) := by
 intro pins s σ H D I h
 obtain ⟨v, e1, h⟩ := h
 obtain ⟨m, hn, hl⟩ := I.loc
 have vis : Vm X.env.scope x := by rcases hx with k | k; exact .inl k; exact .inr (.inl k)
 obtain ⟨u, r, l⟩ := hl i x v hi e1 vis
 refine wpAny_AugAssign_Name ?_
 have go : wpAny Q.d X.A (eval e X.env) (fun w s₂ => wpAny Q.d X.A (inplaceOp op u w) (fun r s₃ => wpAny Q.d X.A (storeName X.env x r) (fun _ => SP X pins D .next) X.xe s₃) X.xe s₂) X.xe s := by
   refine di (he pins s σ H _ I h) fun w s1 zz => ?_
   obtain ⟨y, H1, I1, r1, q1⟩ := zz
   refine di (ho pins s1 σ H1 v y u w _ I1 r r1 q1) fun z s2 zz => ?_
   obtain ⟨zv, H2, I2, r2, q2⟩ := zz
   exact yd I2 hN hi hx r2 (fun s3 I3 => ⟨_, H2, I3, q2⟩) hf
 rcases l with ⟨hk, hm⟩ | ⟨hk, c, hc, pR⟩
 . exact wpAny_loadName_local I.ok.kind hk hn hm go
 . rcases hk with hk | hk
   . exact wpAny_loadName_cell I.ok.kind hk hc pR go
   . rcases hx with k | k
     . have : X.env.scope.names.lookup x = some .free := hk
       rw [k] at this; cases this
     . have : X.env.scope.names.lookup x = some .free := hk
       rw [k] at this; cases this
def ipI (f : Int -> Int -> Int) : TIp := fun x y H Q => ∃ i j, x = .int i /\ y = .int j /\ Q (.int (f i j)) H
theorem Wx : PIp X .Add (ipI fun i j => i + j) := by
 intro pins s σ H x y v u Q I r1 r2 h
 obtain ⟨i, j, e1, e2, q⟩ := h
 subst e1; subst e2
 obtain ⟨t, rfl⟩ := r1
 obtain ⟨t', rfl⟩ := r2
 exact iadd_int ⟨.int _, H, I.tok _, ⟨_, rfl⟩, q⟩
def Wy (c : TT) (tb : TS) : TS := fun D σ H => ∃ W : Nat -> St -> Hp -> Prop, (∃ m, W m σ H) /\ ∀ m σ H, W m σ H →
 c σ H fun b H1 => if b = true then ∃ N : St -> Hp -> Prop, (∀ σ' H', N σ' H' -> ∃ m', m' < m /\ W m' σ' H') /\ tb { D with nx := N, ct := N, bk := D.nx } σ H1 else D.nx σ H1
theorem MJ {c : Expr} {body : List Stmt} {tc : TT} {tb : TS} (hp : PassesOwn Q.d X.A X.env X.xe) (hc : PT X c tc) (hb : Iv X body tb) : PS X (.While c body [] pos) (Wy tc tb) := by
 intro pins s σ H D I h
 obtain ⟨W, ⟨m0, w0⟩, turn⟩ := h
 refine wpAny_While (codeAny_whileLoop (fun n s' => ∃ σ' H', Inv X pins σ' H' s' /\ W n σ' H') ?_ m0 ⟨σ, H, I, w0⟩)
 rintro n s1 ⟨σ1, H1, I1, w1⟩
 refine ai1 hp (di (hc pins s1 σ1 H1 _ I1 (turn n σ1 H1 w1)) fun b s2 zz => ?_)
 obtain ⟨H2, I2, q2⟩ := zz
 cases b with
 | true =>
   obtain ⟨N, hN, q2⟩ := q2
   rw [ahN rfl]
   refine ai1 hp (di (hb pins s2 σ1 H2 _ I2 q2) fun f s3 q3 => ?_)
   cases f with
   | next =>
     obtain ⟨σ3, H3, I3, n3⟩ := q3
     obtain ⟨m', hm, w3⟩ := hN σ3 H3 n3
     exact ⟨m', hm, σ3, H3, I3, w3⟩
   | cont =>
     obtain ⟨σ3, H3, I3, n3⟩ := q3
     obtain ⟨m', hm, w3⟩ := hN σ3 H3 n3
     exact ⟨m', hm, σ3, H3, I3, w3⟩
   | brk => exact q3
   | ret v => exact q3
 | false =>
   rw [ahC ahI]
   exact wpAny_execs_nil ⟨σ1, H2, I2, q2⟩
structure It where
 go : Nat -> Hp -> Prop
 Rc : Nat -> Hp -> V -> Hp -> Prop
 stop : Nat -> Hp -> Prop
def rW (X : Cx) (pins : Q.i) (H : Hp) (b : Addr) : Prop :=
 H b = none /\ b ≠ X.env.locals /\ b ∉ X.fs /\ (b ∈ X.ex \/ X.s₀.heap.objs.size <= b) /\ (∀ x c, X.env.cells.lookup x = some c -> c ≠ b) /\ ∀ p ∈ X.pn ++ pins, p.1 ≠ b
theorem Inv.Er (I : Q.g) (hb : s.heap.objs.size <= b) (hn : H' b = none) : rW X pins H' b := by
 refine ⟨hn, Nat.ne_of_gt (ah4 I.lt hb), I.acX hb, .inr (ain I.sz hb), fun x c e z => ?_, fun p hp z => ?_⟩
 . obtain ⟨v, q⟩ := I.cell x c e
   exact absurd (ah4 q.lt (by rw [z]; exact hb)) (ajb _)
 . exact absurd (ah4 (ahR (I.pin p hp).1) (by rw [z]; exact hb)) (ajb _)
structure Turn (P : Program) (w : World) (K : Q.h) (tg : Expr) (J : It) (fp : List Addr) (it : Addr) (tn : Nat -> Heap -> Prop) : Prop where
 mem : it ∈ fp
 obj : ∀ i h, tn i h -> ∀ b ∈ fp, ∃ o, h.get? b = some o /\ ∀ v, o.data ≠ .cell v
 keep : ∀ i h h', tn i h -> (∀ b ∈ fp, ∀ o, h.get? b = some o -> h'.get? b = some o) -> tn i h'
 item : ∀ (X : Cx), X.prog = P -> X.w = w -> X.K = K -> X.calm = true -> ∀ (i : Nat) (pins : Q.i) (s : Shared) (σ : St) (H : Hp) (E : Q.l), Inv X pins σ H s -> (∀ b ∈ fp, rW X pins H b) -> tn i s.heap -> J.go i H →
   wpAny (model P w) X.A (pyNext (.ref it)) (fun r s1 => ∃ u, r = some u ∧
     wpAny (model P w) X.A (letOwnedTupleGo tg (.ref it) u) (fun _ s2 => ∃ x H', Inv X pins σ H' s2 /\ RelV x u /\ J.Rc i H x H' /\ tn (i + 1) s2.heap /\ ∀ b ∈ fp, H' b = none) E s1) E s
 done : ∀ (X : Cx), X.prog = P -> X.w = w -> X.K = K -> X.calm = true -> ∀ (i : Nat) (pins : Q.i) (s : Shared) (σ : St) (H : Hp) (E : Q.l), Inv X pins σ H s -> (∀ b ∈ fp, rW X pins H b) -> tn i s.heap -> J.stop i H →
   wpAny (model P w) X.A (pyNext (.ref it)) (fun r s1 => r = none /\ Inv X pins σ H s1) E s
 self : ∀ (A : Around) (i : Nat) (s : Shared) (Q : Q.l) (E : Q.l), tn i s.heap -> Q (.ref it) s -> wpAny (model P w) A (pyIter (.ref it)) Q E s
abbrev TI := St -> Hp -> (It -> Hp -> Prop) -> Prop
def Z7 (X : Cx) (pins : Q.i) (σ : St) (tg : Expr) (R : It -> Hp -> Prop) (Wz : Value) (s2 : Shared) : Prop :=
 ∃ (it : Addr) (fp : List Addr) (tn : Nat -> Heap -> Prop) (J : It) (H' : Hp), Wz = .ref it /\ Inv X pins σ H' s2 /\ Turn X.prog X.w X.K tg J fp it tn /\ tn 0 s2.heap /\ (∀ b ∈ fp, rW X pins H' b) /\ R J H'
def PI (X : Cx) (tg iter : Expr) (wi : TI) : Prop :=
 ∀ (pins : Q.i) (s : Shared) (σ : St) (H : Hp) (R : It -> Hp -> Prop), Inv X pins σ H s -> wi σ H R →
   wpAny Q.d X.A (eval iter X.env) (fun v s1 => wpAny Q.d X.A (pyIter v) (Z7 X pins σ tg R) X.xe s1) X.xe s
theorem Iw {it : Addr} {o : Obj} {n : String} {vs : Array Value} (ho : s.heap.get? it = some o) (hc : o.cls = .type n) (hd : o.data = .fields vs)
   (hn : ["enumerate", "zip", "dict_itemiterator", "dict_reverseitemiterator", "odict_iterator", "itertools.zip_longest", "itertools.pairwise"].contains n = false) (hQ : Q () s) : wpAny M A (letOwnedTupleGo tg (.ref it) u) Q E s := by
 unfold letOwnedTupleGo
 cases tg <;> first
   | exact ahF hQ
   | (cases u <;> first
       | exact ahF hQ
       | (refine aht (wpAny_load ho ?_)
          rw [hc, hd]
          show wpAny M A (if (["enumerate", "zip", "dict_itemiterator", "dict_reverseitemiterator", "odict_iterator", "itertools.zip_longest", "itertools.pairwise"].contains n && vs[0]? == some (rawInt _)) = true then _ else _) Q E s
          rw [ahC (by intro h; rw [hn, Bool.false_and] at h; cases h)]
          exact ahF hQ))
def Itl (K : Q.h) (a : Addr) : It :=
 ⟨fun i H => ∃ xs x, oB K H a xs /\ xs[i]? = some x, fun i H x H' => H' = H /\ ∀ xs, oB K H a xs -> xs[i]? = some x, fun i H => ∃ xs, oB K H a xs /\ xs.length <= i⟩
def Itt (K : Q.h) (a : Addr) : It :=
 ⟨fun i H => ∃ xs x, sO K H a xs /\ xs[i]? = some x, fun i H x H' => H' = H /\ ∀ xs, sO K H a xs -> xs[i]? = some x, fun i H => ∃ xs, sO K H a xs /\ xs.length <= i⟩
def WB (lo : Int) (n : Nat) : It := ⟨fun i _ => i < n, fun i H x H' => H' = H /\ x = .int (lo + i), fun i _ => n <= i⟩
theorem J2 (a it : Addr) : Turn P w K tg (Itl K a) [it] it (fun i h => h.IsListIter it a i) where
 mem := by simp
 obj := fun i h st b hb => by
   have e : b = it := by simpa using hb
   subst e
   obtain ⟨o, e, c, d⟩ := st
   exact ⟨o, e, fun v z => by rw [d] at z; cases z⟩
 keep := fun i h h' st k => st.at fun o e => k it (by simp) o e
 item := by
   intro X hP hw hK hc i pins s σ H E I hf st hg
   subst hP hw hK
   obtain ⟨xs, x, hq, hx⟩ := hg
   obtain ⟨its, rv, p, hz⟩ := I.list hq
   obtain ⟨u, hu, ru⟩ := rv.get hx
   obtain ⟨f0, f1, f2, f3, f4, f5⟩ := hf it (by simp)
   refine wpAny_pyNext_list_item st p.isList (x := u) (by simpa using hu) fun h' MK sb => ?_
   have I1 : Inv X pins σ H { s with heap := h' } := I.turned (t' := s.toks) (fun b o hb e => (sb.2 b hb).trans e) f0 f1 f3 f4 f5
   obtain ⟨o, e, c, d⟩ := id MK
   exact ⟨u, rfl, Iw (s := { s with heap := h' }) e c d Q.b ⟨x, H, I1, ru, ⟨rfl, fun ys hy => by rw [I.MC hy hq]; exact hx⟩, MK, fun b hb => (hf b hb).1⟩⟩
 done := by
   intro X hP hw hK hc i pins s σ H E I hf st hg
   subst hP hw hK
   obtain ⟨xs, hq, hx⟩ := hg
   obtain ⟨its, rv, p, hz⟩ := I.list hq
   obtain ⟨f0, f1, f2, f3, f4, f5⟩ := hf it (by simp)
   have hl := rv.length
   exact wpAny_pyNext_list_end (I.ok.hd hc) st p.isList (by simp; omega) fun h' eb => ⟨rfl, I.turned (t' := s.toks) (fun b o hb e => eb b o hb e) f0 f1 f3 f4 f5⟩
 self := fun _ _ _ _ _ st h => wpAny_pyIter_listiter st h
theorem F9 (a it : Addr) : Turn P w K tg (Itt K a) [it] it (fun i h => h.IsTupleIter it a i) where
 mem := by simp
 obj := fun i h st b hb => by
   have e : b = it := by simpa using hb
   subst e
   obtain ⟨o, e, c, d⟩ := st
   exact ⟨o, e, fun v z => by rw [d] at z; cases z⟩
 keep := fun i h h' st k => st.at fun o e => k it (by simp) o e
 item := by
   intro X hP hw hK hc i pins s σ H E I hf st hg
   subst hP hw hK
   obtain ⟨xs, x, hq, hx⟩ := hg
   obtain ⟨its, rv, p, hz⟩ := I.tuple hq
   obtain ⟨u, hu, ru⟩ := rv.get hx
   obtain ⟨f0, f1, f2, f3, f4, f5⟩ := hf it (by simp)
   refine wpAny_pyNext_tuple_item st (show s.heap.IsTuple a its.toArray from p) (x := u) (by simpa using hu) fun h' MK sb => ?_
   have I1 : Inv X pins σ H { s with heap := h' } := I.turned (t' := s.toks) (fun b o hb e => (sb.2 b hb).trans e) f0 f1 f3 f4 f5
   obtain ⟨o, e, c, d⟩ := id MK
   exact ⟨u, rfl, Iw (s := { s with heap := h' }) e c d Q.b ⟨x, H, I1, ru, ⟨rfl, fun ys hy => by rw [I.J1 hy hq]; exact hx⟩, MK, fun b hb => (hf b hb).1⟩⟩
 done := by
   intro X hP hw hK hc i pins s σ H E I hf st hg
   subst hP hw hK
   obtain ⟨xs, hq, hx⟩ := hg
   obtain ⟨its, rv, p, hz⟩ := I.tuple hq
   obtain ⟨f0, f1, f2, f3, f4, f5⟩ := hf it (by simp)
   have hl := rv.length
   exact wpAny_pyNext_tuple_end (I.ok.hd hc) st (show s.heap.IsTuple a its.toArray from p) (by simp; omega) fun h' eb => ⟨rfl, I.turned (t' := s.toks) (fun b o hb e => eb b o hb e) f0 f1 f3 f4 f5⟩
 self := fun _ _ _ _ _ st h => wpAny_pyIter_tupleiter st h
theorem Ga (it : Addr) (lo : Int) (n : Nat) : Turn P w K tg (WB lo n) [it] it (fun i h => IsRangeIter h it (lo + (i : Nat) * 1) ((n : Int) - (i : Nat)) 1) where
 mem := by simp
 obj := fun i h st b hb => by
   have e : b = it := by simpa using hb
   subst e
   exact ⟨_, st, fun v z => by
     have z' : Data.fields _ = Data.cell v := z
     cases z'⟩
 keep := fun i h h' st k => k it (by simp) _ st
 item := by
   intro X hP hw hK hc i pins s σ H E I hf st hg
   subst hP hw hK
   obtain ⟨f0, f1, f2, f3, f4, f5⟩ := hf it (by simp)
   have W := Walks.range (prog := X.prog) (w := X.w) (I.ok.hd hc) it lo 1 n
   refine W.item i s _ _ hg st fun v h' tk hv MK kk => ?_
   obtain ⟨t, rfl⟩ := hv
   have I1 : Inv X pins σ H { s with heap := h', toks := tk } := I.turned (fun b o hb e => kk b o (by simpa using hb) e) f0 f1 f3 f4 f5
   refine ⟨_, rfl, Iw (s := { s with heap := h', toks := tk }) (n := "range_iterator") MK rfl rfl Q.b ⟨.int (lo + i), H, I1, ⟨t, ?_⟩, ⟨rfl, rfl⟩, MK, fun b hb => (hf b hb).1⟩⟩
   rw [Int.mul_one]
 done := by
   intro X hP hw hK hc i pins s σ H E I hf st hg
   subst hP hw hK
   obtain ⟨f0, f1, f2, f3, f4, f5⟩ := hf it (by simp)
   exact wpAny_pyNext_range_end (I.ok.hd hc) st (by have : n <= i := hg; omega) fun h' eb => ⟨rfl, I.turned (t' := s.toks) (fun b o hb e => eb b o hb e) f0 f1 f3 f4 f5⟩
 self := fun _ _ _ _ _ st h => wpAny_pyIter_rangeiter st h
def Z8 (K : Q.h) (tl : TE) : TI := fun σ H R => tl σ H fun x H1 => ∃ a, x = .ref a /\ (∃ xs, oB K H1 a xs) /\ R (Itl K a) H1
def ada (K : Q.h) (tl : TE) : TI := fun σ H R => tl σ H fun x H1 => ∃ a, x = .ref a /\ (∃ xs, sO K H1 a xs) /\ R (Itt K a) H1
theorem Rz {l : Expr} {tl : TE} (hl : PE X l tl) : PI X tg l (Z8 X.K tl) := by
 intro pins s σ H R I h
 refine di (hl pins s σ H _ I h) fun v s1 zz => ?_
 obtain ⟨x, H1, I1, r1, q1⟩ := zz
 obtain ⟨a, e, ⟨xs, hq⟩, q⟩ := q1
 subst e
 cases r1
 obtain ⟨its, rv, p, hz⟩ := I1.list hq
 refine wpAny_pyIter_list p.isList ?_
 refine ⟨s1.heap.objs.size, [s1.heap.objs.size], _, _, H1, rfl, I1.kept (t' := s1.toks) fun b o e => ahE _ e, J2 a _, ⟨_, ahU _ rfl, rfl, rfl⟩, fun b hb => ?_, q⟩
 have e : b = s1.heap.objs.size := by simpa using hb
 subst e
 exact I1.Er (ahG _) (I1.bY.fresh (ahG _))
theorem WC {l : Expr} {tl : TE} (hl : PE X l tl) : PI X tg l (ada X.K tl) := by
 intro pins s σ H R I h
 refine di (hl pins s σ H _ I h) fun v s1 zz => ?_
 obtain ⟨x, H1, I1, r1, q1⟩ := zz
 obtain ⟨a, e, ⟨xs, hq⟩, q⟩ := q1
 subst e
 cases r1
 obtain ⟨its, rv, p, hz⟩ := I1.tuple hq
 refine wpAny_pyIter_tuple (show s1.heap.IsTuple a its.toArray from p) ?_
 refine ⟨s1.heap.objs.size, [s1.heap.objs.size], _, _, H1, rfl, I1.kept (t' := s1.toks) fun b o e => ahE _ e, F9 a _, ⟨_, ahU _ rfl, rfl, rfl⟩, fun b hb => ?_, q⟩
 have e : b = s1.heap.objs.size := by simpa using hb
 subst e
 exact I1.Er (ahG _) (I1.bY.fresh (ahG _))
theorem ML {R : It -> Hp -> Prop} {lo hi : Int} {t u v : Tok} {tk : Nat} (I : Q.g) (h1 : -(2 ^ 62) <= lo) (h2 : lo < 2 ^ 62) (h3 : -(2 ^ 62) <= hi) (h4 : hi < 2 ^ 62)
   (q : R (WB lo (hi - lo).toNat) H) : wpAny Q.d X.A (pyIter (.ref s.heap.objs.size)) (Z7 X pins σ tg R) E { s with heap := s.heap.push { cls := .type "range", data := .fields #[.int lo t, .int hi u, .int 1 v] }, toks := tk } := by
 refine wpAny_pyIter_range (IsRange.new ..) (small_one h1 h2 h3 h4) ?_
 have I1 : Inv X pins σ H { s with heap := s.heap.push { cls := .type "range", data := .fields #[.int lo t, .int hi u, .int 1 v] }, toks := tk } := I.kept fun b o e => ahE _ e
 refine ⟨(s.heap.push { cls := .type "range", data := .fields #[.int lo t, .int hi u, .int 1 v] }).objs.size, [(s.heap.push { cls := .type "range", data := .fields #[.int lo t, .int hi u, .int 1 v] }).objs.size], _, _, H, rfl,
   I1.kept (t' := tk) fun b o e => ahE _ e, Ga _ lo (hi - lo).toNat, ?_, fun b hb => ?_, q⟩
 . have e1 : lo + ((0 : Nat) : Int) * 1 = lo := by simp
   have e2 : (((hi - lo).toNat : Nat) : Int) - ((0 : Nat) : Int) = Builtin.Range.rangeSize lo hi 1 := by rw [rangeSize_one]; split <;> omega
   show IsRangeIter _ _ (lo + ((0 : Nat) : Int) * 1) ((((hi - lo).toNat : Nat) : Int) - ((0 : Nat) : Int)) 1
   rw [e1, e2]
   exact ahU _ rfl
 . have e : b = (s.heap.push { cls := .type "range", data := .fields #[.int lo t, .int hi u, .int 1 v] }).objs.size := by simpa using hb
   subst e
   exact I1.Er (ahG _) (I1.bY.fresh (ahG _))
def Z9 (ta : TA) : TI := fun σ H R => ta σ H fun vs H1 => ∃ j : Int, vs = [.int j] /\ -(2 ^ 62) <= j /\ j < 2 ^ 62 /\ R (WB 0 j.toNat) H1
theorem uY {a : Expr} {ta : TA} {p : Pos} (hg : Gl X "range") (hm : X.mg "range" = none) (ha : PA X [a] ta) (hs : starEach [a] X.env = [(false, eval a X.env)] := by rfl) : PI X tg (.Call (.Name "range" p) [a] [] pos) (Z9 ta) := by
 intro pins s σ H R I h
 refine Call_ (F8 I hg hm boot_range (PyProof.Rows.callWith_type1 (di (ha pos pins s σ H _ I h) fun us s1 zz => ?_) hs rfl))
 obtain ⟨vs, H1, I1, r1, q1⟩ := zz
 obtain ⟨j, e, q1, q2, q⟩ := q1
 subst e
 cases r1 with
 | cons r rr =>
   cases rr
   obtain ⟨t, rfl⟩ := r
   exact call_range_1 (ML I1 Q.c Q.c q1 q2 (by simpa using q))
def adb (wi : TI) (g : TG) (tb : TS) : TS := fun D σ H => wi σ H fun J H1 => ∃ W : Nat -> Nat -> St -> Hp -> Prop, (∃ m, W 0 m σ H1) /\ ∀ i m σ H, W i m σ H →
 (J.stop i H /\ D.nx σ H) \/ (J.go i H /\ ∃ N : St -> Hp -> Prop, (∀ σ' H', N σ' H' -> ∃ m', m' < m /\ W (i + 1) m' σ' H') /\ ∀ x H', J.Rc i H x H' -> g x σ H' fun σ2 H2 => tb { D with nx := N, ct := N, bk := D.nx } σ2 H2)
def uZ (fp : List Addr) (h : Heap) : List (Addr × Obj) := fp.filterMap fun b => (h.get? b).map fun o => (b, o)
theorem jk {fp : List Addr} {o : Obj} (hb : b ∈ fp) (e : h.get? b = some o) : (b, o) ∈ uZ fp h := ajD.mpr ⟨b, hb, by rw [e]; rfl⟩
theorem J3 {fp : List Addr} {p : Addr × Obj} (hp : p ∈ uZ fp h) : p.1 ∈ fp /\ h.get? p.1 = some p.2 := by
 obtain ⟨b, hb, e⟩ := ajD.mp hp
 cases q : h.get? b with
 | none => rw [q] at e; cases e
 | some o =>
   rw [q] at e
   have e' : (b, o) = p := ahP e
   subst e'
   exact ⟨hb, q⟩
theorem Inv.pinned {fp : List Addr} (I : Q.g) (hf : ∀ b ∈ fp, rW X pins H b) (ho : ∀ b ∈ fp, ∃ o, s.heap.get? b = some o /\ ∀ v, o.data ≠ .cell v) : Inv X (pins ++ uZ fp s.heap) σ H s :=
 I.qX fun p hp => (ahB.mp hp).elim (fun z => I.pin p (ahu _ z)) fun z => by
   obtain ⟨hb, e⟩ := J3 z
   obtain ⟨f0, f1, f2, _⟩ := hf p.1 hb
   obtain ⟨o, e', d⟩ := ho p.1 hb
   rw [e] at e'; cases e'
   exact ⟨e, f0, f1, f2, d⟩
theorem Inv.qf {pl : Q.i} (I : Inv X (pins ++ pl) σ H s) : Inv X pins σ H s := I.qX fun p hp => I.pin p (ahu _ (ahy _ hp))
theorem Gb {iter : Expr} {body : List Stmt} {wi : TI} {g : TG} {tb : TS} (hp : PassesOwn Q.d X.A X.env X.xe) (hc : X.calm = true) (hi : PI X tg iter wi) (hg : PG X tg g) (hb : Iv X body tb)
   (hs : ∀ x, foldedSetIterable iter X.env x = pure x := by intro _; rfl) : PS X (.For tg iter body [] pos) (adb wi g tb) := by
 intro pins s σ H D I h
 refine wpAny_For (di (hi pins s σ H _ I h) fun v s1 h1 => di h1 fun Wz s2 h2 => ?_) hs
 obtain ⟨it, fp, tn, J, H2, e, I2, T, WD, f2, W, ⟨m0, w0⟩, turn⟩ := h2
 subst e
 have stat : ∀ {H' : Hp}, (∀ b ∈ fp, H' b = none) -> ∀ b ∈ fp, rW X pins H' b := fun hn b hb => ⟨hn b hb, (f2 b hb).2⟩
 refine codeAny_forLoop_any (fun n s' => ∃ i σ' H', Inv X pins σ' H' s' /\ tn i s'.heap /\ (∀ b ∈ fp, H' b = none) /\ W i n σ' H') ?_ m0 ⟨0, σ, H2, I2, WD, fun b hb => (f2 b hb).1, w0⟩
 rintro n s3 ⟨i, σ3, H3, I3, Vt, fr3, w3⟩
 rcases turn i n σ3 H3 w3 with ⟨stop, qn⟩ | ⟨go, N, hN, step⟩
 . refine ai1 hp (di (T.done X rfl rfl rfl hc i pins s3 σ3 H3 X.xe I3 (stat fr3) Vt stop) fun r s4 zz => ?_)
   obtain ⟨hr, I4⟩ := zz
   subst hr
   exact wpAny_execs_nil ⟨σ3, H3, I4, qn⟩
 . refine ai1 hp (di (T.item X rfl rfl rfl hc i pins s3 σ3 H3 X.xe I3 (stat fr3) Vt go) fun r s4 zz => ?_)
   obtain ⟨u, hr, h4⟩ := zz
   subst hr
   refine ai1 hp (di h4 fun _ s5 zz => ?_)
   obtain ⟨x, H5, I5, r5, y5, RA, WG⟩ := zz
   have I5' := I5.pinned (stat WG) (T.obj _ _ RA)
   refine ai1 hp (di (hg _ s5 σ3 H5 x u _ I5' r5 (step x H5 y5)) fun _ s6 zz => ?_)
   obtain ⟨σ6, H6, I6, q6⟩ := zz
   refine ai1 hp (di (hb _ s6 σ6 H6 _ I6 q6) fun f s7 q7 => ?_)
   have again : ∀ {σ7 : St} {H7 : Hp}, Inv X (pins ++ uZ fp s5.heap) σ7 H7 s7 -> N σ7 H7 -> ∃ m, m < n /\ ∃ i σ' H', Inv X pins σ' H' s7 /\ tn i s7.heap /\ (∀ b ∈ fp, H' b = none) /\ W i m σ' H' := fun {σ7 H7} I7 n7 => by
     obtain ⟨m', hm, w7⟩ := hN σ7 H7 n7
     refine ⟨m', hm, i + 1, σ7, H7, I7.qf, T.keep _ _ _ RA fun b hb o e => (I7.pin (b, o) (ahu _ (ahu _ (jk hb e)))).1, fun b hb => ?_, w7⟩
     obtain ⟨o, e, d⟩ := T.obj _ _ RA b hb
     exact (I7.pin (b, o) (ahu _ (ahu _ (jk hb e)))).2.1
   cases f with
   | next => obtain ⟨σ7, H7, I7, n7⟩ := q7; exact again I7 n7
   | cont => obtain ⟨σ7, H7, I7, n7⟩ := q7; exact again I7 n7
   | brk => obtain ⟨σ7, H7, I7, q7⟩ := q7; exact ⟨σ7, H7, I7.qf, q7⟩
   | ret v => obtain ⟨x7, σ7, H7, I7, r7, q7⟩ := q7; exact ⟨x7, σ7, H7, I7.qf, r7, q7⟩
theorem J4 {lo : Int} {n : Nat} {g : TG} {tb : TS} {D : Ends} (Pv : Nat -> St -> Hp -> Prop) (h0 : Pv 0 σ H)
   (hs : ∀ i σ H, i < n -> Pv i σ H -> g (.int (lo + i)) σ H fun σ2 H2 => tb { D with nx := Pv (i + 1), ct := Pv (i + 1), bk := D.nx } σ2 H2) (hd : ∀ σ H, Pv n σ H -> D.nx σ H) :
   ∃ W : Nat -> Nat -> St -> Hp -> Prop, (∃ m, W 0 m σ H) /\ ∀ i m σ H, W i m σ H →
     ((WB lo n).stop i H /\ D.nx σ H) \/ ((WB lo n).go i H /\ ∃ N : St -> Hp -> Prop, (∀ σ' H', N σ' H' -> ∃ m', m' < m /\ W (i + 1) m' σ' H') /\ ∀ x H', (WB lo n).Rc i H x H' -> g x σ H' fun σ2 H2 => tb { D with nx := N, ct := N, bk := D.nx } σ2 H2) := by
 refine ⟨fun i m σ H => m = n - i /\ i <= n /\ Pv i σ H, ⟨n, by simp, ah8 _, h0⟩, ?_⟩
 rintro i m σ H ⟨rfl, hi, p⟩
 by_cases nJ : i < n
 . refine .inr ⟨nJ, Pv (i + 1), fun σ' H' p' => ⟨n - (i + 1), by omega, rfl, nJ, p'⟩, fun x H' y => ?_⟩
   obtain ⟨e, y⟩ := y
   subst e y
   exact hs i σ _ nJ p
 . have e : i = n := by omega
   subst e
   exact .inl ⟨ahG _, hd σ H p⟩
abbrev R2 := V -> V -> Hp -> VK -> Prop
def u9 (X : Cx) (f : Value -> Value -> Sem Value) (r : R2) : Prop :=
 ∀ (pins : Q.i) (s : Shared) (σ : St) (H : Hp) (x y : V) (v u : Value) (Q : VK), Inv X pins σ H s -> RelV x v -> RelV y u -> r x y H Q →
   wpAny Q.d X.A (f v u) (EP X pins σ Q) X.xe s
def UnR (X : Cx) (f : Value -> Sem Value) (r : V -> Hp -> VK -> Prop) : Prop :=
 ∀ (pins : Q.i) (s : Shared) (σ : St) (H : Hp) (x : V) (v : Value) (Q : VK), Inv X pins σ H s -> RelV x v -> r x H Q →
   wpAny Q.d X.A (f v) (EP X pins σ Q) X.xe s
def tR (X : Cx) (f : Value) (r : List V -> Hp -> VK -> Prop) : Prop :=
 ∀ (pins : Q.i) (s : Shared) (σ : St) (H : Hp) (xs : List V) (us : List Value) (Q : VK), Inv X pins σ H s -> Vals xs us -> r xs H Q →
   wpAny Q.d X.A (call f us) (EP X pins σ Q) X.xe s
def adf (X : Cx) (r : V -> Hp -> (Bool -> Hp -> Prop) -> Prop) : Prop :=
 ∀ (pins : Q.i) (s : Shared) (σ : St) (H : Hp) (x : V) (v : Value) (Q : Bool -> Hp -> Prop), Inv X pins σ H s -> RelV x v -> r x H Q →
   wpAny Q.d X.A (truthy v) (TP X pins σ Q) X.xe s
def tOp (r : R2) (ta tb : TE) : TE := fun σ H Q => ta σ H fun x H1 => tb σ H1 fun y H2 => r x y H2 Q
def tUn (r : V -> Hp -> VK -> Prop) (ta : TE) : TE := fun σ H Q => ta σ H fun x H1 => r x H1 Q
def rI (C : Int -> Int -> Prop) (g : Int -> Int -> V) : R2 := fun x y H Q => ∃ i j, x = .int i /\ y = .int j /\ C i j /\ Q (g i j) H
def WH (g : Int -> Int -> V) : R2 := fun x y H Q => ∃ i j, x = .int i /\ y = .int j /\ Q (g i j) H
def rU (g : Int -> V) : V -> Hp -> VK -> Prop := fun x H Q => ∃ i, x = .int i /\ Q (g i) H
variable {a b : Expr} {ta tb : TE} {f : Value -> Value -> Sem Value}
theorem WK (ha : PE X a ta) (hb : PE X b tb) {R : V -> V -> Hp -> Prop} (I : Q.g)
   (h : ta σ H fun x H1 => tb σ H1 fun y H2 => R x y H2) {Q : Q.l}
   (hf : ∀ v u s2 x y H2, Inv X pins σ H2 s2 -> RelV x v -> RelV y u -> R x y H2 -> wpAny Q.d X.A (f v u) Q X.xe s2) :
   wpAny Q.d X.A (eval a X.env) (fun v s₁ => wpAny Q.d X.A (eval b X.env) (fun u s₂ => wpAny Q.d X.A (f v u) Q X.xe s₂) X.xe s₁) X.xe s := by
 refine di (ha pins s σ H _ I h) fun v s1 zz => ?_
 obtain ⟨x, H1, I1, r1, q1⟩ := zz
 refine di (hb pins s1 σ H1 _ I1 q1) fun u s2 zz => ?_
 obtain ⟨y, H2, I2, r2, q2⟩ := zz
 exact hf v u s2 x y H2 I2 r1 r2 q2
theorem MN {op : Operator} {r : R2} (ho : u9 X (binaryOp op) r) (ha : PE X a ta) (hb : PE X b tb) : PE X (.BinOp a op b pos) (tOp r ta tb) := by
 intro pins s σ H Q I h
 exact wpAny_BinOp (WK ha hb I h fun v u s2 x y H2 I2 rx ry q => ho pins s2 σ H2 x y v u Q I2 rx ry q)
theorem aac {op : UnaryOp} {r : V -> Hp -> VK -> Prop} (ho : UnR X (unaryOp op) r) (ha : PE X a ta) : PE X (.UnaryOp op a pos) (tUn r ta) := by
 intro pins s σ H Q I h
 exact UnaryOp_ (di (ha pins s σ H _ I h) fun v s1 ⟨x, H1, I1, r1, q1⟩ => ho pins s1 σ H1 x v Q I1 r1 q1)
theorem opI {C : Int -> Int -> Prop} {g : Int -> Int -> Int}
   (rule : ∀ (i j : Int) (t u : Tok) (s : Shared) (Q : Q.l) (E : Q.l), C i j -> Q (.int (g i j) s.toks) { s with toks := s.toks + 1 } -> wpAny Q.d X.A (f (.int i t) (.int j u)) Q E s) :
   u9 X f (rI C fun i j => .int (g i j)) := by
 intro pins s σ H x y v u Q I rx ry h
 obtain ⟨i, j, rfl, rfl, hc, q⟩ := h
 obtain ⟨t, rfl⟩ := rx
 obtain ⟨t', rfl⟩ := ry
 exact rule i j t t' s _ _ hc ⟨.int (g i j), H, I.tok _, ⟨_, rfl⟩, q⟩
theorem aae {g : Int -> Int -> Int}
   (rule : ∀ (i j : Int) (t u : Tok) (s : Shared) (Q : Q.l) (E : Q.l), Q (.int (g i j) s.toks) { s with toks := s.toks + 1 } -> wpAny Q.d X.A (f (.int i t) (.int j u)) Q E s) :
   u9 X f (WH fun i j => .int (g i j)) := by
 intro pins s σ H x y v u Q I rx ry h
 obtain ⟨i, j, rfl, rfl, q⟩ := h
 obtain ⟨t, rfl⟩ := rx
 obtain ⟨t', rfl⟩ := ry
 exact rule i j t t' s _ _ ⟨.int (g i j), H, I.tok _, ⟨_, rfl⟩, q⟩
theorem WL {g : Int -> Int -> Bool}
   (rule : ∀ (i j : Int) (t u : Tok) (s : Shared) (Q : Q.l) (E : Q.l), Q (.bool (g i j)) s -> wpAny Q.d X.A (f (.int i t) (.int j u)) Q E s) :
   u9 X f (WH fun i j => .bl (g i j)) := by
 intro pins s σ H x y v u Q I rx ry h
 obtain ⟨i, j, rfl, rfl, q⟩ := h
 obtain ⟨t, rfl⟩ := rx
 obtain ⟨t', rfl⟩ := ry
 exact rule i j t t' s _ _ ⟨.bl (g i j), H, I, rfl, q⟩
def aaf (i j : Int) : Prop := 0 < j /\ j < 1073741824
def aag (i j : Int) : Prop := 0 <= j /\ j <= 1000000 /\ i.natAbs < 2 ^ 64
def RB (i j : Int) : Prop := (-(2 ^ 64) < i /\ i < 2 ^ 64) \/ (-(2 ^ 64) < j /\ j < 2 ^ 64)
theorem RB.ok {i j : Int} (h : RB i j) : IntMulOk i j := by
 rcases h with ⟨h1, h2⟩ | ⟨h1, h2⟩
 . exact .of_left (intBits_le_64 h1 h2)
 . exact .of_right (intBits_le_64 h1 h2)
theorem MP : u9 X (binaryOp .Add) (WH fun i j => .int (i + j)) := aae fun _ _ _ _ _ _ _ q => add_int q
theorem MQ : u9 X (binaryOp .Sub) (WH fun i j => .int (i - j)) := aae fun _ _ _ _ _ _ _ q => sub_int q
theorem WM : u9 X (binaryOp .Mult) (rI RB fun i j => .int (i * j)) := opI fun _ _ _ _ _ _ _ hc q => mul_int q hc.ok
theorem RC : u9 X (binaryOp .FloorDiv) (rI aaf fun i j => .int (i / j)) := opI fun i j _ _ _ _ _ hc q => by
 have h1 : (0 : Int) < j := hc.1
 have h2 : j < 1073741824 := hc.2
 exact floordiv_int Q.c (by rw [Int.fdiv_eq_ediv_of_nonneg i Q.c]; exact q) (.inl (PyProof.noPylong_small Q.c))
theorem WN : u9 X (binaryOp .Mod) (rI (fun _ j => 0 < j) fun i j => .int (i % j)) := opI fun i j _ _ _ _ _ hc q => by
 have h1 : (0 : Int) < j := hc
 exact mod_int' Q.c (by rw [Int.fmod_eq_emod_of_nonneg i Q.c]; exact q)
theorem WO : u9 X (binaryOp .Pow) (rI aag fun i j => .int (i ^ j.toNat)) := opI fun _ _ _ _ _ _ _ hc q => pow_int_small hc.1 hc.2.1 hc.2.2 q
theorem unI {f : Value -> Sem Value} {g : Int -> Int}
   (rule : ∀ (i : Int) (t : Tok) (s : Shared) (Q : Q.l) (E : Q.l), Q (.int (g i) s.toks) { s with toks := s.toks + 1 } -> wpAny Q.d X.A (f (.int i t)) Q E s) :
   UnR X f (rU fun i => .int (g i)) := by
 intro pins s σ H x v Q I rx h
 obtain ⟨i, rfl, q⟩ := h
 obtain ⟨t, rfl⟩ := rx
 exact rule i t s _ _ ⟨.int (g i), H, I.tok _, ⟨_, rfl⟩, q⟩
theorem WQ : UnR X (unaryOp .USub) (rU fun i => .int (-i)) := unI fun _ _ _ _ _ q => neg_int q
def aah : V -> V -> Bool
 | .non, .non => true | .non, .int _ => true | .int _, .non => true | .non, .bl _ => true | .bl _, .non => true | .non, .str _ => true | .str _, .non => true
 | .int _, .int _ => true | .bl _, .bl _ => true | .str _, .str _ => true | .Ir _, .Ir _ => true
 | .int _, .str _ => true | .str _, .int _ => true | .bl _, .str _ => true | .str _, .bl _ => true
 | _, _ => false
def rEq : R2 := fun x y H Q => aah x y = true /\ Q (.bl (decide (x = y))) H
def rNe : R2 := fun x y H Q => aah x y = true /\ Q (.bl (!decide (x = y))) H
theorem Iz {i j : Int} : decide (V.int i = V.int j) = (i == j) := by
 rw [Bool.eq_iff_iff]
 simp
theorem MR {i j : Bool} : decide (V.bl i = V.bl j) = (i == j) := by
 rw [Bool.eq_iff_iff]
 simp
theorem IA {i j : Str} : decide (V.str i = V.str j) = (i == j) := by
 rw [Bool.eq_iff_iff]
 simp
theorem IB {i j : Array UInt8} : decide (V.Ir i = V.Ir j) = (i.toList == j.toList) := by
 rw [Bool.eq_iff_iff]
 cases i
 cases j
 simp
variable {c : Expr}
theorem cg {Q : VK} {k k' : Bool} (I : Q.g) (q : Q (.bl k) H) (e : k = k') : EP X pins σ Q (.bool k') s := by
 subst e
 exact ⟨.bl k, H, I, rfl, q⟩
theorem MS : u9 X (compareOp .Eq) rEq := by
 intro pins s σ H x y v u Q I rx ry h
 obtain ⟨hs, q⟩ := h
 cases x with
 | non =>
   cases rx
   cases y with
   | non => cases ry; exact PySem.EqNone.eq_none_none (cg I q (by simp))
   | bl j => cases ry; exact PySem.EqNone.eq_none_bool (cg I q (by simp))
   | int j => obtain ⟨t', rfl⟩ := ry; exact PySem.EqNone.eq_none_int (cg I q (by simp))
   | str j => obtain ⟨t', rfl⟩ := ry; exact PySem.EqNone.eq_none_str (cg I q (by simp))
   | _ => exact absurd (show false = true from hs) ahI
 | bl i =>
   cases rx
   cases y with
   | non => cases ry; exact PySem.EqNone.eq_bool_none (cg I q (by simp))
   | bl j => cases ry; exact eq_bool (cg I q MR)
   | str j => obtain ⟨t', rfl⟩ := ry; exact PySem.EqMixed.eq_bool_str (cg I q (by simp))
   | _ => exact absurd (show false = true from hs) ahI
 | int i =>
   obtain ⟨t, rfl⟩ := rx
   cases y with
   | non => cases ry; exact PySem.EqNone.eq_int_none (cg I q (by simp))
   | int j => obtain ⟨t', rfl⟩ := ry; exact eq_int (cg I q Iz)
   | str j => obtain ⟨t', rfl⟩ := ry; exact PySem.EqMixed.eq_int_str (cg I q (by simp))
   | _ => exact absurd (show false = true from hs) ahI
 | str i =>
   obtain ⟨t, rfl⟩ := rx
   cases y with
   | non => cases ry; exact PySem.EqNone.eq_str_none (cg I q (by simp))
   | bl j => cases ry; exact PySem.EqMixed.eq_str_bool (cg I q (by simp))
   | int j => obtain ⟨t', rfl⟩ := ry; exact PySem.EqMixed.eq_str_int (cg I q (by simp))
   | str j => obtain ⟨t', rfl⟩ := ry; exact eq_str (cg I q IA)
   | _ => exact absurd (show false = true from hs) ahI
 | Ir i =>
   obtain ⟨t, rfl⟩ := rx
   cases y with
   | Ir j => obtain ⟨t', rfl⟩ := ry; exact PySem.W.eq_bytes (cg I q IB)
   | _ => exact absurd (show false = true from hs) ahI
 | _ => cases y <;> exact absurd (show false = true from hs) ahI
theorem aai : u9 X (compareOp .NotEq) rNe := by
 intro pins s σ H x y v u Q I rx ry h
 obtain ⟨hs, q⟩ := h
 cases x with
 | non =>
   cases rx
   cases y with
   | non => cases ry; exact PySem.EqNone.ne_none_none (cg I q (by simp))
   | bl j => cases ry; exact PySem.EqNone.ne_none_bool (cg I q (by simp))
   | int j => obtain ⟨t', rfl⟩ := ry; exact PySem.EqNone.ne_none_int (cg I q (by simp))
   | str j => obtain ⟨t', rfl⟩ := ry; exact PySem.EqNone.ne_none_str (cg I q (by simp))
   | _ => exact absurd (show false = true from hs) ahI
 | bl i =>
   cases rx
   cases y with
   | non => cases ry; exact PySem.EqNone.ne_bool_none (cg I q (by simp))
   | bl j => cases ry; exact ne_bool (cg I q (congrArg not MR))
   | str j => obtain ⟨t', rfl⟩ := ry; exact PySem.EqMixed.ne_bool_str (cg I q (by simp))
   | _ => exact absurd (show false = true from hs) ahI
 | int i =>
   obtain ⟨t, rfl⟩ := rx
   cases y with
   | non => cases ry; exact PySem.EqNone.ne_int_none (cg I q (by simp))
   | int j => obtain ⟨t', rfl⟩ := ry; exact ne_int (cg I q (congrArg not Iz))
   | str j => obtain ⟨t', rfl⟩ := ry; exact PySem.EqMixed.ne_int_str (cg I q (by simp))
   | _ => exact absurd (show false = true from hs) ahI
 | str i =>
   obtain ⟨t, rfl⟩ := rx
   cases y with
   | non => cases ry; exact PySem.EqNone.ne_str_none (cg I q (by simp))
   | bl j => cases ry; exact PySem.EqMixed.ne_str_bool (cg I q (by simp))
   | int j => obtain ⟨t', rfl⟩ := ry; exact PySem.EqMixed.ne_str_int (cg I q (by simp))
   | str j => obtain ⟨t', rfl⟩ := ry; exact ne_str (cg I q (congrArg not IA))
   | _ => exact absurd (show false = true from hs) ahI
 | Ir i =>
   obtain ⟨t, rfl⟩ := rx
   cases y with
   | Ir j => obtain ⟨t', rfl⟩ := ry; exact PySem.W.ne_bytes (cg I q (congrArg not IB))
   | _ => exact absurd (show false = true from hs) ahI
 | _ => cases y <;> exact absurd (show false = true from hs) ahI
theorem aaj : u9 X (compareOp .Lt) (WH fun i j => .bl (decide (i < j))) := WL fun _ _ _ _ _ _ _ q => lt_int q
theorem aak : u9 X (compareOp .LtE) (WH fun i j => .bl (decide (i <= j))) := WL fun _ _ _ _ _ _ _ q => le_int q
theorem aal : u9 X (compareOp .Gt) (WH fun i j => .bl (decide (j < i))) := WL fun _ _ _ _ _ _ _ q => gt_int q
theorem mU (b : Expr) {op : CmpOp} (h : op ≠ .In := by decide) (h2 : op ≠ .NotIn := by decide) : behindInMarks op b = false := by
 have e1 : (op == CmpOp.In) = false := by cases op <;> first | rfl | exact absurd rfl h
 have e2 : (op == CmpOp.NotIn) = false := by cases op <;> first | rfl | exact absurd rfl h2
 cases b <;> simp [behindInMarks, e1, e2]
theorem Cb {op : CmpOp} {r : R2} (ho : u9 X (compareOp op) r) (ha : PE X a ta) (hb : PE X b tb) (hm : behindInMarks op b = false) : PE X (.Compare a [op] [b] pos) (tOp r ta tb) := by
 intro pins s σ H Q I h
 exact wpAny_Compare1 (WK ha hb I h fun v u s2 x y H2 I2 rx ry q => ho pins s2 σ H2 x y v u Q I2 rx ry q) hm
def aam (t : TE) : TT := fun σ H Q => t σ H fun x H' => ∃ k, x = .bl k /\ Q k H'
theorem tS {op : CmpOp} {r : R2} (ho : u9 X (compareOp op) r) (ha : PE X a ta) (hb : PE X b tb) (hm : behindInMarks op b = false) : PT X (.Compare a [op] [b] pos) (aam (tOp r ta tb)) := by
 intro pins s σ H Q I h
 refine wpAny_isTrue_Compare1 (di (ha pins s σ H _ I h) fun v s1 ⟨x, H1, I1, r1, q1⟩ => di (hb pins s1 σ H1 _ I1 q1) fun u s2 ⟨y, H2, I2, r2, q2⟩ =>
   di (ho pins s2 σ H2 x y v u _ I2 r1 r2 q2) fun c s3 ⟨z, H3, I3, r3, k, e, q3⟩ => ?_) hm
 subst e
 cases r3
 exact wpAny_truthy_bool ⟨H3, I3, q3⟩
def aan (K : Q.h) (x : V) (H : Hp) (k : Bool) : Prop :=
 match x with
 | .non => k = false
 | .bl b => k = b
 | .int i => k = (i != 0)
 | .str y => y.length <= sizeLine /\ k = ((y.length : Int) != 0)
 | .Ir y => y.size <= sizeLine /\ k = ((y.size : Int) != 0)
 | .ref p => (∃ xs, oB K H p xs /\ k = !xs.isEmpty) \/ (∃ xs, sO K H p xs /\ k = !xs.isEmpty) \/ ∃ kvs, H p = some (.dK kvs) /\ k = !kvs.isEmpty
 | _ => False
theorem Gd {κ : Type} {kvs : List (κ × V)} {vs : List (κ × Value)} (r : KV kvs vs) : (!vs.isEmpty) = !kvs.isEmpty := by
 cases r <;> rfl
theorem ye {its : List Value} (r : Vals xs its) : (!its.toArray.isEmpty) = !xs.isEmpty := by
 cases r <;> simp
theorem yf : (sizeLine : Nat) < 2 ^ 63 := by rw [aix]; decide
theorem WR : adf X (fun x H Q => ∃ k, aan X.K x H k /\ Q k H) := by
 intro pins s σ H x v Q I rx h
 obtain ⟨k, e, q⟩ := h
 have hl := yf
 have hs : sizeLine = 16777216 := aix
 cases x with
 | non =>
   cases rx
   have e' : k = false := e
   subst e'
   exact truthy_none ⟨H, I, q⟩
 | bl b =>
   cases rx
   have e' : k = b := e
   subst e'
   exact wpAny_truthy_bool ⟨H, I, q⟩
 | int i =>
   obtain ⟨t, rfl⟩ := rx
   have e' : k = (i != 0) := e
   subst e'
   exact PySem.P.truthy_int ⟨H, I, q⟩
 | str y =>
   obtain ⟨t, rfl⟩ := rx
   obtain ⟨hy, e'⟩ : y.length <= sizeLine /\ k = ((y.length : Int) != 0) := e
   subst e'
   exact PySem.P.truthy_str Q.c ⟨H, I.tok _, q⟩
 | Ir y =>
   obtain ⟨t, rfl⟩ := rx
   obtain ⟨hy, e'⟩ : y.size <= sizeLine /\ k = ((y.size : Int) != 0) := e
   subst e'
   exact PySem.W.truthy_bytes Q.c ⟨H, I.tok _, q⟩
 | ref p =>
   cases rx
   have e' : (∃ xs, oB X.K H p xs /\ k = !xs.isEmpty) \/ (∃ xs, sO X.K H p xs /\ k = !xs.isEmpty) \/ ∃ kvs, H p = some (.dK kvs) /\ k = !kvs.isEmpty := e
   rcases e' with ⟨xs, hx, e'⟩ | ⟨xs, hx, e'⟩ | ⟨kvs, hx, e'⟩
   . subst e'
     obtain ⟨its, r, pl, hz⟩ := I.list hx
     have hlen := r.length
     exact wpAny_truthy_list pl.isList (by simp only [ahM]; omega) ⟨H, I.tok _, by rw [ye r]; exact q⟩
   . subst e'
     obtain ⟨its, r, pl, hz⟩ := I.tuple hx
     have hlen := r.length
     exact truthy_tuple pl (by simp only [ahM]; omega) ⟨H, I.tok _, by rw [ye r]; exact q⟩
   . subst e'
     obtain ⟨hz, hS, vs, r, m⟩ : kvs.length <= sizeLine /\ (p == sysModules) = false /\ ∃ vs, KV kvs vs /\ s.heap.DictOf (eW X.prog X.w) p vs := I.bY p _ hx
     have hlen : kvs.length = vs.length := ajt r
     exact wpAny_truthy_dict hS m Q.c ⟨H, I.tok _, by rw [Gd r]; exact q⟩
 | _ => exact (show False from e).elim
theorem MT (ha : PE X a ta) (he : ∀ whole, isTrue a X.env whole = (do let v ← whole; standAt a.pos; holding [v] (truthy v))) :
   PT X a (fun σ H Q => ta σ H fun x H' => ∃ k, aan X.K x H' k /\ Q k H') := by
 intro pins s σ H Q I h
 exact isTrue_plain (di (ha pins s σ H _ I h) fun v s1 ⟨x, H1, I1, r1, q1⟩ => WR pins s1 σ H1 x v Q I1 r1 q1) (he _)
theorem yg : u9 X (binaryOp .Add) (fun x y H Q => ∃ i j, x = .str i /\ y = .str j /\ i.length + j.length <= sizeLine /\ Q (.str (i ++ j)) H) := by
 intro pins s σ H x y v u Q I rx ry h
 obtain ⟨i, j, rfl, rfl, hz, q⟩ := h
 obtain ⟨t, rfl⟩ := rx
 obtain ⟨t', rfl⟩ := ry
 exact add_str (fun t' tk => ⟨.str (i ++ j), H, I.tok _, ⟨_, rfl⟩, q⟩) hz
theorem vals1 {x : V} (r : Vals [x] us) : ∃ u, us = [u] /\ RelV x u := by
 cases r with
 | cons r1 r2 => cases r2; exact ⟨_, rfl, r1⟩
theorem vals2 {x y : V} (r : Vals [x, y] us) : ∃ u w', us = [u, w'] /\ RelV x u /\ RelV y w' := by
 cases r with
 | cons r1 r2 =>
   cases r2 with
   | cons r3 r4 => cases r4; exact ⟨_, _, rfl, r1, r3⟩
theorem J5 (hc : X.calm = true) : tR X (.builtin "max") (fun xs H Q => ∃ i j, xs = [.int i, .int j] /\ Q (.int (if j > i then j else i)) H) := by
 intro pins s σ H xs us Q I r h
 obtain ⟨i, j, rfl, q⟩ := h
 obtain ⟨u, w', rfl, ⟨t, rfl⟩, ⟨t', rfl⟩⟩ := vals2 r
 refine max_two_ints (I.ok.hd hc) fun h' tk k => ⟨_, H, I.kept k, ?_, q⟩
 by_cases hj : j > i
 . rw [ahN hj, ahN hj]; exact ⟨_, rfl⟩
 . rw [ahC hj, ahC hj]; exact ⟨_, rfl⟩
theorem J6 (hc : X.calm = true) : tR X (.builtin "min") (fun xs H Q => ∃ i j, xs = [.int i, .int j] /\ Q (.int (if j < i then j else i)) H) := by
 intro pins s σ H xs us Q I r h
 obtain ⟨i, j, rfl, q⟩ := h
 obtain ⟨u, w', rfl, ⟨t, rfl⟩, ⟨t', rfl⟩⟩ := vals2 r
 refine min_two_ints (I.ok.hd hc) fun h' tk k => ⟨_, H, I.kept k, ?_, q⟩
 by_cases hj : j < i
 . rw [ahN hj, ahN hj]; exact ⟨_, rfl⟩
 . rw [ahC hj, ahC hj]; exact ⟨_, rfl⟩
theorem tT : tR X (.type "str") (fun xs H Q => ∃ i, xs = [.int i] /\ i.natAbs.log2 < 1920 /\ Q (.str (toString i)) H) := by
 intro pins s σ H xs us Q I r h
 obtain ⟨i, rfl, hz, q⟩ := h
 obtain ⟨u, rfl, t, rfl⟩ := vals1 r
 exact PySem.P.str_of_int hz ⟨.str _, H, I.tok _, ⟨_, rfl⟩, q⟩
structure Ge (h : Heap) (x dx C : Addr) (mA : Q.p) : Prop where
 obj : h.get? x = some (PySem.W.instObj C dx)
 ns : h.Ns1 dx mA
 ne : dx ≠ x
variable {dx : Addr}
theorem J7 {mA : Q.p} (n : h.Ns1 dx mA) : ∃ od, h.get? dx = some od /\ ∀ name, PySem.W.lookIn name od = some (mA name) := by
 obtain ⟨o, es, ep, ho, hd, hk, _, hm⟩ := n
 refine ⟨o, ho, fun name => ?_⟩
 have e := hm name
 unfold nsFind findBy at e
 rw [← Array.find?_toList] at e
 unfold PySem.W.lookIn
 rw [hd]
 dsimp only
 split
 . rename_i y q
   rw [q] at e
   exact congrArg some e
 . rename_i q
   rw [q] at e
   have a : es.toList.any (·.refKey) = false := by
     rw [List.any_eq_false]
     intro y hy
     obtain ⟨z, t, RD⟩ := hk y (Array.mem_toList_iff.mp hy)
     simp [DictEntry.refKey, RD]
   have a' : ¬ es.toList.any (·.refKey) = true := by rw [a]; exact ahI
   rw [ahC a']
   exact congrArg some e
variable {C : Addr}
theorem Ge.look {mA : Q.p} (I : Ge h x dx C mA) : ∃ od, PySem.W.InstAt h x (PySem.W.instObj C dx) C (some od) /\ ∀ name, PySem.W.lookIn name od = some (mA name) :=
 let ⟨od, ho, hl⟩ := J7 I.ns
 ⟨od, ⟨I.obj, rfl, rfl, ho⟩, hl⟩
variable {prog : Program} {f : Addr} {mA : Q.p} {name : Str} {v : Value}
theorem get_map {expr : Bool} {Q : Q.l} (X : K.In s.heap) (I : Ge s.heap x dx C mA) (hg : PySem.W.plainGet K C name = true) (hh : PySem.W.hasDictIn K C = true)
   (ha : PySem.W.findIn K (.ref C) name = some none) (hv : mA name = some v) (hv' : PySem.W.handedIn v = true) (h : Q v { s with toks := s.toks + 1 }) :
   wpAny (model prog w) A (getAttr (.ref x) name expr) Q E s := by
 obtain ⟨od, J, hl⟩ := I.look
 exact PySem.W.get_value X J (PySem.W.plainGet_of hg).1 (PySem.W.findObj_own hh ha rfl (by rw [hl, hv])) hv' h
variable {pl : Sem Bool}
theorem MV {Q : Value × List Value -> Shared -> Prop} (X : K.In s.heap) (I : Ge s.heap x dx C mA) (hg : PySem.W.plainGet K C name = true)
   (hf : PySem.W.findIn K (.ref C) name = some (some (.ref f))) (ht : PySem.W.isFn K (.ref f) = true) (hv : mA name = none) (h : Q (.ref f, [.ref x]) s) :
   wpAny (model prog w) A (getMethod (.ref x) name pl) Q E s := by
 obtain ⟨od, J, hl⟩ := I.look
 exact PySem.W.method_fn X J (PySem.W.plainGet_of hg).1 (PySem.W.plainGet_of hg).2 hf (ajd.mp ht) (by show (PySem.W.lookIn name od).map (·.isSome) = some false; rw [hl, hv]; rfl) h
theorem RG {ns : List Str} (X : K.In s.heap) (I : Ge s.heap x dx C mA)
   (hs : PySem.W.findIn K (.ref C) "__setattr__" = some (some (.builtin "object.__setattr__"))) (hp : PySem.W.plainOver K C = true) (ht : PySem.W.takerIn K C name = some none) (hh : PySem.W.hasDictIn K C = true)
   (hw : PySem.Within mA ns) (hsz : ns.length <= sizeLine)
   (h : ∀ h', Ge h' x dx C (fun y => if y = name then some v else mA y) -> Heap.SameBut dx s.heap h' -> Q () { s with heap := h', toks := s.toks + 2 }) :
   wpAny (model prog w) A (setAttr (.ref x) name v) Q E s := by
 obtain ⟨od, J, hl⟩ := I.look
 refine PySem.W.set_plain X J hs (PySem.W.osa_open (s := { s with toks := s.toks + 1 }) (r := none) X J hp ht fun b => ?_)
 obtain ⟨cd, hc, Rt⟩ := PySem.W.any_some hh
 have hx : s.heap.get? x = some ⟨.ref C, some dx, .plain, #[]⟩ := I.obj
 refine aht (ahF (aht (aht (wpAny_loadPart hx (aht (PySem.W.Looks.here (s := { s with toks := s.toks + 1 }) (PySem.W.looks_clsIn X hc) ?_))))))
 rw [Rt]
 refine ahF (a := some dx) (aht (ahF (aht ?_)))
 refine wpAny_nsSet1 (s := { s with toks := s.toks + 1 }) I.ns fun h' Zm RH => ?_
 obtain ⟨oD, esD, epD, hoD, hdD, hcD⟩ := Zm.count (PySem.Within.cons name v hw)
 refine aht (wpAny_lookBehind hoD (by rw [hdD]; exact pastItsLine_dict (ain hcD (by rw [ahY]; omega))) ?_)
 exact ahF (h _ ⟨(RH.2 _ (ajv I.ne)).trans I.obj, Zm, I.ne⟩ RH)
theorem MX {R : Result -> Shared -> Prop} {vs : List Value} {kw : List (Str × Value)} (X : K.In s.heap) (hm : PySem.W.makesIn K C = true)
   (hi : PySem.W.findIn K (.ref C) "__init__" = some (some (.ref f))) (hf : PySem.W.typeIn K (.ref f) = some (.type "function"))
   (h : codeAny (model prog w) (A.under (.builtin "type.__call__" ⟨.ref C :: vs, kw⟩)) (.call (.ref f) ⟨.ref (s.heap.objs.size + 1) :: vs, kw⟩) (PySem.W.InitBack (s.heap.objs.size + 1) R)
     { s with heap := (s.heap.push PySem.W.emptyDict).push (PySem.W.instObj C s.heap.objs.size) }) :
   codeAny (model prog w) A (.call (.ref C) ⟨vs, kw⟩) R s := by
 obtain ⟨hh, g, d, t, os⟩ := s
 exact PySem.W.make_core (PySem.W.makes_of X hm) (PySem.W.looks_findIn X hi) (fun self => PySem.W.bind_fn X self hf) (.inl rfl) h
def lq (f : Str) (v : V) : List (Str × V) -> List (Str × V)
 | [] => [(f, v)]
 | (g, x) :: r => if g = f then (g, v) :: r else (g, x) :: lq f v r
theorem wA (f g : Str) (v : V) : ∀ fs : List (Str × V), (lq f v fs).lookup g = if g = f then some v else fs.lookup g
 | [] => by
   show List.lookup g [(f, v)] = _
   by_cases h : g = f
   . have hb : (g == f) = true := ajd.mpr h
     simp only [List.lookup, hb, ahN h]
   . have hb : (g == f) = false := ai9.mpr h
     simp only [List.lookup, hb, ahC h]
 | (k, x) :: r => by
   have ih := wA f g v r
   rw [show lq f v ((k, x) :: r) = (if k = f then (k, v) :: r else (k, x) :: lq f v r) from rfl]
   by_cases hk : k = f
   . rw [ahN hk]
     by_cases h : g = k
     . have hb : (g == k) = true := ajd.mpr h
       simp only [List.lookup, hb, ahN (h.trans hk)]
     . have hb : (g == k) = false := ai9.mpr h
       simp only [List.lookup, hb, ahC (fun e : g = f => h (e.trans hk.symm))]
   . rw [ahC hk]
     by_cases h : g = k
     . have hb : (g == k) = true := ajd.mpr h
       simp only [List.lookup, hb, ahC (fun e : g = f => hk (h.symm.trans e))]
     . have hb : (g == k) = false := ai9.mpr h
       simp only [List.lookup, hb]
       exact ih
theorem vd (f : Str) (v : V) : ∀ fs : List (Str × V), f ∈ (lq f v fs).map (·.1) /\ ∀ g, g ∈ fs.map (·.1) -> g ∈ (lq f v fs).map (·.1)
 | [] => ⟨by simp [lq], fun g h => by simp at h⟩
 | (k, x) :: r => by
   obtain ⟨i1, i2⟩ := vd f v r
   rw [show lq f v ((k, x) :: r) = (if k = f then (k, v) :: r else (k, x) :: lq f v r) from rfl]
   by_cases hk : k = f
   . rw [ahN hk]
     subst hk
     exact ⟨by simp, fun g h => by simpa using h⟩
   . rw [ahC hk]
     refine ⟨?_, fun g h => ?_⟩
     . rw [ahO]
       exact ahz _ i1
     . rw [ahO] at h ⊢
       rcases ahH.mp h with e | e
       . exact ahH.mpr (.inl e)
       . exact ahz _ (i2 g e)
theorem wB (f : Str) (v : V) : ∀ fs : List (Str × V), (lq f v fs).length <= fs.length + 1
 | [] => by simp [lq]
 | (k, x) :: r => by
   have ih := wB f v r
   rw [show lq f v ((k, x) :: r) = (if k = f then (k, v) :: r else (k, x) :: lq f v r) from rfl]
   by_cases hk : k = f
   . rw [ahN hk, ahY, ahY]; omega
   . rw [ahC hk, ahY, ahY]; omega
theorem pY.some_of {v : V} {o : Option Value} (r : pY (some v) o) : ∃ u, o = some u /\ RelV v u := by
 cases o with
 | none => exact (show False from r).elim
 | some u => exact ⟨u, rfl, r⟩
theorem pY.none_of {o : Option Value} (r : pY none o) : o = none := by
 cases o with
 | none => rfl
 | some u => exact (show False from r).elim
theorem J8 {v : V} (r : RelV v u) : PySem.W.handedIn u = true := by
 cases v with
 | non => cases (show u = Value.none from r); rfl
 | bl b => cases (show u = Value.bool b from r); rfl
 | int i => obtain ⟨t, e⟩ := (show ∃ t, u = Value.int i t from r); cases e; rfl
 | str x => obtain ⟨t, e⟩ := (show ∃ t, u = Value.str x t from r); cases e; rfl
 | Ir b => obtain ⟨t, e⟩ := (show ∃ t, u = Value.bytes b t from r); cases e; rfl
 | flt b => obtain ⟨t, e⟩ := (show ∃ t, u = Value.float b t from r); cases e; rfl
 | ref a => cases (show u = Value.ref a from r); rfl
 | ty n => cases (show u = Value.type n from r); rfl
variable {a : Addr} {fs : List (Str × V)}
theorem Cd (bY : qV P w H h) (e : H a = some (.ins C dx fs)) : ∃ mA, Ge h a dx C mA /\ (∀ f, pY (fs.lookup f) (mA f)) /\ PySem.Within mA (fs.map (·.1)) /\ fs.length <= 1000 /\ H dx = some (.own a) := by
 obtain ⟨d, z, ne, ob, mA, n, r, q⟩ := (show dD P w H h a (.ins C dx fs) from bY a _ e)
 exact ⟨mA, ⟨ob, n, ne⟩, r, q, z, d⟩
structure j5 (K : Q.h) (C : Addr) : Prop where
 pg : PySem.W.plainGet K C Str.empty = true
 hd : PySem.W.hasDictIn K C = true
 po : PySem.W.plainOver K C = true
 sa : PySem.W.findIn K (.ref C) "__setattr__" = some (some (.builtin "object.__setattr__"))
theorem j5.get (c : j5 K C) (f : Str) : PySem.W.plainGet K C f = true := c.pg
def aG (K : Q.h) (C : Addr) (f : Str) : Prop := PySem.W.findIn K (.ref C) f = some none
theorem aG.aao {f : Str} (n : aG K C f) : PySem.W.takerIn K C f = some none := by
 unfold PySem.W.takerIn
 rw [show PySem.W.findIn K (.ref C) f = some none from n]
 rfl
structure Meth (K : Q.h) (C : Addr) (m : Str) (f : Addr) : Prop where
 at_ : PySem.W.findIn K (.ref C) m = some (some (.ref f))
 fn : PySem.W.isFn K (.ref f) = true
 kp : PySem.W.keepIn K (.ref f) = true
variable {f : Str} {v : V}
theorem Gf {b : Bool} {Q : Q.l} (I : Q.g) (e : H a = some (.ins C dx fs)) (c : j5 X.K C) (n : aG X.K C f) (l : fs.lookup f = some v)
   (h : ∀ u s', Inv X pins σ H s' -> RelV v u -> Q u s') : wpAny Q.d A (getAttr (.ref a) f b) Q E s := by
 obtain ⟨mA, O, r, _, _, _⟩ := Cd I.bY e
 obtain ⟨u, hu, ru⟩ := pY.some_of (v := v) (o := mA f) (by rw [← l]; exact r f)
 exact get_map I.wR O (c.get f) c.hd n hu (J8 ru) (h u _ (I.tok _) ru)
theorem oF {m : Str} {g : Addr} {Q : Value × List Value -> Shared -> Prop} (I : Q.g) (e : H a = some (.ins C dx fs)) (c : j5 X.K C) (k : Meth X.K C m g) (l : fs.lookup m = none)
   (h : Q (.ref g, [.ref a]) s) : wpAny Q.d A (getMethod (.ref a) m pl) Q E s := by
 obtain ⟨mA, O, r, _, _, _⟩ := Cd I.bY e
 have hn : mA m = none := pY.none_of (by rw [← l]; exact r m)
 exact MV I.wR O (c.get m) k.at_ k.fn hn h
theorem Gg {y : V} (I : Q.g) (e : H a = some (.ins C dx fs)) (c : j5 X.K C) (n : aG X.K C f) (hl : fs.length < 1000) (ry : RelV y u)
   (h : ∀ s', Inv X pins σ (upd H a (.ins C dx (lq f y fs))) s' -> Q () s') : wpAny Q.d A (setAttr (.ref a) f u) Q E s := by
 obtain ⟨mA, O, r, wi, _, ho⟩ := Cd I.bY e
 have hz : (fs.map (·.1)).length <= sizeLine := by rw [ahx, aix]; omega
 refine RG I.wR O c.sa c.po n.aao c.hd wi hz fun h' O' sb => h _ ?_
 have hd : ∃ o, h'.get? dx = some o := let ⟨o, _, _, e', _⟩ := O'.ns; ⟨o, e'⟩
 refine I.write (x := a) (e := dx) (by rw [e]; exact True.intro) (.inr ho) (fun b q hb z => (sb.2 b hb).trans z) hd ?_
 refine ⟨by rw [aj O.ne]; exact ho, ?_, O.ne, O'.obj, _, O'.ns, fun g => ?_, fun g hg => ?_⟩
 . have := wB f y fs; omega
 . show pY ((lq f y fs).lookup g) (if g = f then some u else mA g)
   rw [wA]
   by_cases q : g = f
   . rw [ahN q, ahN q]; exact ry
   . rw [ahC q, ahC q]; exact r g
 . by_cases q : g = f
   . rw [q]; exact (vd f y fs).1
   . refine (vd f y fs).2 g (wi g fun z => hg ?_)
     show (if g = f then some u else mA g) = none
     rw [ahC q]; exact z
theorem Inv.made (I : Q.g) : Inv X pins σ (upd (upd H s.heap.objs.size (.own (s.heap.objs.size + 1))) (s.heap.objs.size + 1) (.ins C s.heap.objs.size []))
   { s with heap := (s.heap.push PySem.W.emptyDict).push (PySem.W.instObj C s.heap.objs.size) } := by
 have e1 : (s.heap.push PySem.W.emptyDict).get? s.heap.objs.size = some PySem.W.emptyDict := ahU s.heap rfl
 have e2 : ((s.heap.push PySem.W.emptyDict).push (PySem.W.instObj C s.heap.objs.size)).get? (s.heap.objs.size + 1) = some (PySem.W.instObj C s.heap.objs.size) := by
   have := ahU (s.heap.push PySem.W.emptyDict) (o := PySem.W.instObj C s.heap.objs.size) rfl
   rwa [ajI] at this
 have e3 : (s.heap.push PySem.W.emptyDict).Ns s.heap.objs.size (fun _ => none) := ⟨PySem.W.emptyDict, #[], _, e1, rfl, (fun e he => absurd he (by simp)), fun _ => rfl⟩
 have I1 := I.laid (a := s.heap.objs.size) (o := .own (s.heap.objs.size + 1)) (h' := s.heap.push PySem.W.emptyDict) (t' := s.toks) (fun b u q => ahE _ q) (ahG _) ⟨_, e1⟩
 refine I1.laid (a := s.heap.objs.size + 1) (o := .ins C s.heap.objs.size []) (t' := s.toks) (fun b u q => ahE _ q) (Nat.le_of_eq (ajI _ _)) ?_
 have ne : s.heap.objs.size ≠ s.heap.objs.size + 1 := aid (Nat.lt_succ_self _)
 refine ⟨by rw [aj ne, aC], ah8 _, ne, e2, fun _ => none, (Heap.Ns1.of_empty e3).at fun o q => ahE _ q, fun _ => True.intro, fun y hy => absurd rfl hy⟩
theorem RJ {env : Env} {e : Expr} {Q : Q.l} (hb : attributeBase e f env (eval e env) = eval e env)
   (h : wpAny (model prog w) A (eval e env) (fun o s₁ => wpAny (model prog w) A (getAttr o f true) Q E s₁) E s) : wpAny (model prog w) A (eval (.Attribute e f pos) env) Q E s :=
 Attribute_any_ h (by rw [arm_eval_Attribute, hb])
def adg (K : Q.h) (ta : TE) (f : Str) : TE := fun σ H Q => ta σ H fun x H1 => ∃ a C dx fs v, x = .ref a /\ H1 a = some (.ins C dx fs) /\ j5 K C /\ aG K C f /\ fs.lookup f = some v /\ Q v H1
def adh (K : Q.h) (ta tv : TE) (f : Str) : TS := fun D σ H => tv σ H fun y H1 => ta σ H1 fun x H2 => ∃ a C dx fs, x = .ref a /\ H2 a = some (.ins C dx fs) /\ j5 K C /\ aG K C f /\ fs.length < 1000 ∧
 D.nx σ (upd H2 a (.ins C dx (lq f y fs)))
variable {o e value : Expr} {pos' : Pos} {tv : TE}
theorem Gh (he : PE X e ta) (hb : attributeBase e f X.env (eval e X.env) = eval e X.env) : PE X (.Attribute e f pos) (adg X.K ta f) := by
 intro pins s σ H Q I h
 refine RJ hb (di (he pins s σ H _ I h) fun u s1 zz => ?_)
 obtain ⟨x, H1, I1, rx, a, C, dx, fs, v, ex, ea, c, n, l, q⟩ := zz
 subst ex
 obtain rfl : u = Value.ref a := rx
 exact Gf I1 ea c n l fun u' s2 I2 ru => ⟨v, H1, I2, ru, q⟩
theorem MY (ha : PE X o ta) (hv : PE X value tv) (hs : swapsWith value (some (.Attribute o f pos')) pos.line X.env = pure false) : PS X (.Assign [.Attribute o f pos'] value pos) (adh X.K ta tv f) := by
 intro pins s σ H D I h
 refine plainObj_wpAny_Assign_Attribute (di (hv pins s σ H _ I h) fun u s1 ⟨y, H1, I1, ry, q⟩ => di (ha pins s1 σ H1 _ I1 q) fun ov s2 zz => ?_) hs
 obtain ⟨x, H2, I2, rx, a, C, dx, fs, ex, ea, c, n, l, q2⟩ := zz
 subst ex
 obtain rfl : ov = Value.ref a := rx
 exact Gg I2 ea c n l ry fun s3 I3 => ⟨σ, _, I3, q2⟩
theorem Vu {m : Str} {apos : Pos} {args : List Expr} {Q : Q.l} (he : PE X e te) (I : Q.g)
   (h : te σ H fun x H1 => ∃ a C dx fs g, x = .ref a /\ H1 a = some (.ins C dx fs) /\ j5 X.K C /\ Meth X.K C m g /\ fs.lookup m = none ∧
     ∀ s1, Inv X pins σ H1 s1 -> wpAny Q.d X.A (callWith pos (.ref g) [.ref a] (backTo pos (starEach args X.env)) Q.A) Q X.xe s1)
   (ht : eval (.Call (.Attribute e m apos) args [] pos) X.env = (do
     let ov ← eval e X.env
     standAt apos.atName
     let (f, first) ← holding [ov] (getMethod ov m pl)
     callWith pos f first (backTo pos (starEach args X.env)) Q.A)) :
   wpAny Q.d X.A (eval (.Call (.Attribute e m apos) args [] pos) X.env) Q X.xe s := by
 refine ai2 (pl := pl) (di (he pins s σ H _ I h) fun u s1 zz => ?_) ht
 obtain ⟨x, H1, I1, rx, a, C, dx, fs, g, ex, ea, c, k, l, q⟩ := zz
 subst ex
 obtain rfl : u = Value.ref a := rx
 exact oF I1 ea c k l (q s1 I1)
structure c6 (k : Nat) (A : Around) : Prop where
 hd : A.handled = none
 dp : A.depth + 3 * k + 5 < recursionLimit
 un : A.units + 16 * k + 200 < cLine
theorem c6.mono {j : Nat} (r : c6 k A) (h : j <= k) : c6 j A := ⟨r.hd, by have := r.dp; omega, by have := r.un; omega⟩
theorem c6.deeper (r : c6 (k + 1) A) (env : Env) : c6 k (A.deeper env) :=
 ⟨r.hd, by have := r.dp; show A.depth + 1 + 3 * k + 5 < _; omega, by have := r.un; show A.units + 3 + 16 * k + 200 < _; omega⟩
theorem c6.in1 (r : c6 (k + 1) A) : c6 k A.in1 :=
 ⟨r.hd, by have := r.dp; show A.depth + 3 * k + 5 < _; omega, by have := r.un; show A.units + 1 + 16 * k + 200 < _; omega⟩
theorem Gi {kw : List (Str × Value)} : (A.under (.builtin "type.__call__" ⟨.ref C :: us, kw⟩)).depth = A.depth + 1 := by
 first | rfl | simp [Around.under, Code.weight, Code.isCreation, Code.isGuard, Code.isCaller, Code.frames, Code.isFrame, guardIds]
theorem Gj {kw : List (Str × Value)} : (A.under (.builtin "type.__call__" ⟨.ref C :: us, kw⟩)).units = A.units + 1 := by
 first | rfl | simp [Around.under, Code.cUnits, Code.frames, Code.isFrame]
theorem c6.make (r : c6 (k + 1) A) (C : Addr) (us : List Value) (kw : List (Str × Value)) : c6 k (A.under (.builtin "type.__call__" ⟨.ref C :: us, kw⟩)) :=
 ⟨r.hd, by have := r.dp; rw [Gi]; omega, by have := r.un; rw [Gj]; omega⟩
theorem c6.depth (r : c6 k A) : A.depth < recursionLimit := by have := r.dp; omega
theorem c6.units (r : c6 k A) : A.units + 64 < cLine := by have := r.un; omega
def WT : TA := fun _ H Q => Q [] H
def aap (ta : TE) (tr : TA) : TA := fun σ H Q => ta σ H fun x H1 => tr σ H1 fun xs H2 => Q (x :: xs) H2
variable {t : TA}
theorem dF : PA X [] WT := fun _ _ _ _ H Q I h => Calls.spliced_nil ⟨[], H, I, .nil, h⟩
theorem bI (ha : PE X e te) (hr : PA X es t) (hs : Q.r := by rfl) : PA X (e :: es) (aap te t) := by
 intro pos pins s σ H Q I h
 rw [hs]
 show wpAny _ _ (spliced ((false, eval e X.env) :: backTo pos (starEach es X.env))) _ _ s
 refine Calls.spliced_cons (di (ha pins s σ H _ I h) fun u s1 zz => ?_)
 obtain ⟨x, H1, I1, r1, q1⟩ := zz
 exact di (hr pos pins s1 σ H1 _ I1 q1) fun us s2 ⟨xs, H2, I2, r2, q2⟩ => ⟨x :: xs, H2, I2, .cons r1 r2, q2⟩
def adi (t : TA) : TE := fun σ H Q => t σ H fun xs H1 => xs.length <= sizeLine /\ ∀ p, H1 p = none -> Q (.ref p) (upd H1 p (.tup xs))
def adj (t : TA) : TE := fun σ H Q => t σ H fun xs H1 => xs.length <= sizeLine /\ ∀ p, H1 p = none -> Q (.ref p) (upd H1 p (.lst xs))
theorem MZ {x1} (h : PA X es t) : PE X (.Tuple es x1 pos) (adi t) := by
 intro pins s σ H Q I hq
 refine wpAny_Tuple_spliced (di (h pos pins s σ H _ I hq) fun us s1 ⟨xs, H1, I1, r, z, q⟩ => ⟨by rw [← r.length]; exact z, ?_⟩)
 have hf : H1 s1.heap.objs.size = none := I1.bY.fresh (ahG _)
 refine ⟨.ref s1.heap.objs.size, upd H1 s1.heap.objs.size (.tup xs), I1.laid (t' := s1.toks) (fun b u e => ahE _ e) (ahG _) ?_, rfl, q _ hf⟩
 exact ⟨z, us, r, ⟨_, ahU _ rfl, rfl, _, rfl⟩⟩
theorem M0 (h : PA X es t) : PE X (.List es pos) (adj t) := by
 intro pins s σ H Q I hq
 refine wpAny_List_spliced (di (h pos pins s σ H _ I hq) fun us s1 ⟨xs, H1, I1, r, z, q⟩ => ⟨by rw [← r.length]; exact z, ?_⟩)
 have hf : H1 s1.heap.objs.size = none := I1.bY.fresh (ahG _)
 refine ⟨.ref s1.heap.objs.size, upd H1 s1.heap.objs.size (.lst xs), I1.laid (t' := s1.toks) (fun b u e => ahE _ e) (ahG _) ?_, rfl, q _ hf⟩
 exact ⟨z, us, 0, r, ahU _ rfl⟩
abbrev Sp := List V -> Hp -> VK -> XK -> Prop
abbrev J9 := List Env -> Hp -> Shared -> XK -> Value -> Shared -> Prop
structure Az (P : Program) (w : World) (K : Q.h) (mg : Q.p) (base : Heap) (A : Around) (outer : List Env) (s : Shared) (H : Hp) : Prop where
 frames : A.frames = some outer
 mod : Mod K mg base
 bs : ∀ b o, base.get? b = some o -> s.heap.get? b = some o /\ H b = none
 Iu : base.objs.size <= s.heap.objs.size
 rV : s.heap.FunFrames base outer
 MB : ∀ b ∈ qW outer, H b = none
 bY : qV P w H s.heap
 bare : AllBare s.gens
def CE (outer : List Env) (P : Program) (w : World) (H : Hp) (s : Shared) (Q : VK) (u : Value) (s' : Shared) : Prop :=
 ∃ v H', s'.os = s.os /\ AllBare s'.gens /\ Un (qW outer) [] H H' s.heap s'.heap /\ qV P w H' s'.heap /\ RelV v u /\ Q v H'
def CR (CX : J9) (outer : List Env) (P : Program) (w : World) (H : Hp) (s : Shared) (Q : VK) (E : XK) (r : Result) (s' : Shared) : Prop :=
 match r with
 | .ok (.ret u) => CE outer P w H s Q u s'
 | .ok _ => False
 | .error e => CX outer H s E e s'
structure cJ (P : Program) (w : World) (K : Q.h) (mg : Q.p) (base : Heap) (CX : J9) (k : Nat) (f : Addr) (fd : FuncData) (ps : List Str) (sp : Sp) : Prop where
 len : ∀ vs H Q E, sp vs H Q E -> vs.length = ps.length
 run : ∀ (A : Around) (outer : List Env) (s : Shared) (H : Hp) (args : Args) (us : List Value) (vs : List V) (Q : VK) (E : XK), c6 k A -> Az P w K mg base A outer s H -> BindsTo s fd args (ps.zip us) -> Vals vs us -> sp vs H Q E →
   codeAny (model P w) A (.call (.ref f) args) (CR CX outer P w H s Q E) s
variable {mg : Q.p} {base : Heap} {CX : J9} {ps : List Str}
theorem cJ.imp {f : Addr} {fd : FuncData} {sp sp' : Sp} (F : cJ P w K mg base CX k f fd ps sp)
   (h : ∀ vs H Q E, sp' vs H Q E -> sp vs H Q E) : cJ P w K mg base CX k f fd ps sp' :=
 ⟨fun vs H Q E q => F.len vs H Q E (h _ _ _ _ q), fun A outer s H args us vs Q E hr he hb hv hs => F.run A outer s H args us vs Q E hr he hb hv (h _ _ _ _ hs)⟩
theorem Az.make {outer : List Env} (e : Az P w K mg base A outer s H) (C : Addr) (us : List Value) (kw : List (Str × Value)) :
   Az P w K mg base (A.under (.builtin "type.__call__" ⟨.ref C :: us, kw⟩)) outer s H := ⟨by first | exact e.frames | (simpa [Around.under, Code.envs, Code.isFrame, pushEnvs] using e.frames), e.mod, e.bs, e.Iu, e.rV, e.MB, e.bY, e.bare⟩
theorem Az.in1 {outer : List Env} (e : Az P w K mg base A outer s H) :
   Az P w K mg base A.in1 outer s H := ⟨e.frames, e.mod, e.bs, e.Iu, e.rV, e.MB, e.bY, e.bare⟩
variable {s' : Shared}
theorem Inv.WU (I : Q.g) : Az X.prog X.w X.K X.mg X.base X.A X.stack s H :=
 ⟨I.ok.frames, I.ok.mod, I.bs, ain I.ok.Iu I.sz, I.stack, I.xA, I.bY, I.bare⟩
theorem Inv.after {Q : VK} (I : Q.g) (h : CE X.stack X.prog X.w H s Q u s') : EP X pins σ Q u s' := by
 obtain ⟨v, H', os, bare, un, bY, r, q⟩ := h
 obtain ⟨hh, g, d, t, Zn⟩ := s'
 obtain rfl : Zn = s.os := os
 exact ⟨v, H', I.call (h' := hh) (g' := g) (d' := d) (t' := t) (ch := []) un bY bare (fun b z => absurd z (by simp)), r, q⟩
def M3 (sp : Sp) (wC : List V) (E : XK) (t : TA) : TE := fun σ H Q => t σ H fun vs H1 => sp (vs ++ wC) H1 Q E
def Vv (C : Addr) (m : Str) (sp : Sp) (wC : List V) (E : XK) (ta : TE) (t : TA) : TE := fun σ H Q => ta σ H fun x H1 => ∃ a dx fs, x = .ref a /\ H1 a = some (.ins C dx fs) /\ fs.lookup m = none ∧
 t σ H1 fun vs H2 => sp (x :: (vs ++ wC)) H2 Q E
def aaq (C : Addr) (sp : Sp) (wC : List V) (E : XK) (t : TA) : TE := fun σ H Q => t σ H fun vs H1 => ∀ x dx, H1 x = none -> H1 dx = none -> dx ≠ x →
 sp (.ref x :: (vs ++ wC)) (upd (upd H1 dx (.own x)) x (.ins C dx [])) (fun v H2 => v = .non /\ Q (.ref x) H2) E
def Binds (K : Q.h) (fd : FuncData) (ps : List Str) (ds : List Value) : Prop :=
 ∀ (s : Shared) (us : List Value), K.In s.heap -> (us ++ ds).length = ps.length -> BindsTo s fd ⟨us, []⟩ (ps.zip (us ++ ds))
theorem Binds.all {fd : FuncData} (h : ∀ us : List Value, us.length = ps.length -> bindArgs fd ⟨us, []⟩ = pure (ps.zip us)) : Binds K fd ps [] := fun s us _ hl => by
 rw [ahJ] at hl ⊢
 exact .of_eq (h us hl)
def Passes (CX : J9) (X : Cx) (E : XK) : Prop := ∀ (pins : Q.i) (σ : St) (H : Hp) (s : Shared) (e : Value) (s' : Shared), Inv X pins σ H s -> CX X.stack H s E e s' -> X.xe e s'
section
variable {f : Addr} {fd : FuncData} {sp : Sp} {wC : List V} {ds : List Value} {E : XK} {x m : Str} {p apos : Pos}
theorem yh {Q : VK} {vs : List V} (F : cJ X.prog X.w X.K X.mg X.base CX k f fd ps sp) (hr : c6 k X.A) (hb : Binds X.K fd ps ds) (hd : Vals wC ds) (hx : Passes CX X E)
   (I : Q.g) (r : Vals vs us) (h : sp (vs ++ wC) H Q E) : wpAny Q.d X.A (call (.ref f) us) (EP X pins σ Q) X.xe s := by
 have r2 : Vals (vs ++ wC) (us ++ ds) := r.append hd
 have hl : (us ++ ds).length = ps.length := by rw [← r2.length]; exact F.len _ _ _ _ h
 refine wpAny_call (codeAny_mono (F.run X.A X.stack s H ⟨us, []⟩ (us ++ ds) (vs ++ wC) Q E hr I.WU (hb s us I.wR hl) r2 h) fun r s' hq => ?_)
 cases r with
 | error e => exact hx pins σ H s e s' I hq
 | ok fl =>
   cases fl with
   | ret u => exact I.after hq
   | next => exact False.elim hq
   | brk => exact False.elim hq
   | cont => exact False.elim hq
theorem Ce (F : cJ X.prog X.w X.K X.mg X.base CX k f fd ps sp) (hr : c6 k X.A) (hg : Gl X x) (hm : X.mg x = some (.ref f)) (hk : PySem.W.keepIn X.K (.ref f) = true) (hb : Binds X.K fd ps ds) (hd : Vals wC ds) (hx : Passes CX X E)
   (ha : PA X (e :: es) t) (qg : Q.m := by decide) (he : Q.r := by rfl) (hpl : Q.w := by rfl) :
   PE X (.Call (.Name x p) (e :: es) [] pos) (M3 sp wC E t) := by
 intro pins s σ H Q I h
 refine aje (qY I hg hm ?_ qg)
 refine ajE (h₀ := X.base) I.ok.mod.Zj hk (di (ha pos pins s σ H _ I h) fun us s1 ⟨vs, H1, I1, r, q⟩ => ⟨I1.wR, ?_⟩) he hpl
 exact yh F hr hb hd hx I1 r q
theorem M4 (F : cJ X.prog X.w X.K X.mg X.base CX k f fd ps sp) (hr : c6 k X.A) (hg : Gl X x) (hm : X.mg x = some (.ref f)) (hk : PySem.W.keepIn X.K (.ref f) = true) (hb : Binds X.K fd ps ds) (hd : Vals wC ds) (hx : Passes CX X E)
   (qg : Q.m := by decide) : PE X (.Call (.Name x p) [] [] pos) (M3 sp wC E WT) := by
 intro pins s σ H Q I h
 refine aje (qY I hg hm ?_ qg)
 exact PySem.W.callWith_K0 I.wR hk (yh (us := []) F hr hb hd hx I .nil h)
theorem IC (he : PE X o ta) (c : j5 X.K C) (hm : Meth X.K C m f) (F : cJ X.prog X.w X.K X.mg X.base CX k f fd ps sp) (hr : c6 k X.A) (hb : Binds X.K fd ps ds) (hd : Vals wC ds) (hx : Passes CX X E) (ha : PA X (e :: es) t)
   (kG : Q.r := by rfl) (hpl : Q.w := by rfl)
   (ht : eval (.Call (.Attribute o m apos) (e :: es) [] pos) X.env = (do
     let ov ← eval o X.env
     standAt apos.atName
     let (f, first) ← holding [ov] (getMethod ov m pl)
     callWith pos f first (backTo pos (starEach (e :: es) X.env)) Q.A) := by rfl) :
   PE X (.Call (.Attribute o m apos) (e :: es) [] pos) (Vv C m sp wC E ta t) := by
 intro pins s σ H Q I h
 refine ai2 (pl := pl) (di (he pins s σ H _ I h) fun u s1 zz => ?_) ht
 obtain ⟨x, H1, I1, rx, a, dx, fs, ex, ea, l, q⟩ := zz
 subst ex
 obtain rfl : u = Value.ref a := rx
 refine oF I1 ea c hm l ?_
 refine ajE (first := [.ref a]) (h₀ := X.base) I.ok.mod.Zj hm.kp (di (ha pos pins s1 σ H1 _ I1 q) fun us s2 ⟨vs, H2, I2, r, q2⟩ => ⟨I2.wR, ?_⟩) kG hpl
 exact yh (us := .ref a :: us) (vs := .ref a :: vs) F hr hb hd hx I2 (.cons rfl r) q2
theorem Es (he : PE X o ta) (c : j5 X.K C) (hm : Meth X.K C m f) (F : cJ X.prog X.w X.K X.mg X.base CX k f fd ps sp) (hr : c6 k X.A) (hb : Binds X.K fd ps ds) (hd : Vals wC ds) (hx : Passes CX X E)
   (ht : eval (.Call (.Attribute o m apos) [] [] pos) X.env = (do
     let ov ← eval o X.env
     standAt apos.atName
     let (f, first) ← holding [ov] (getMethod ov m pl)
     callWith pos f first (backTo pos (starEach [] X.env)) Q.A) := by rfl) :
   PE X (.Call (.Attribute o m apos) [] [] pos) (Vv C m sp wC E ta WT) := by
 intro pins s σ H Q I h
 refine ai2 (pl := pl) (di (he pins s σ H _ I h) fun u s1 zz => ?_) ht
 obtain ⟨x, H1, I1, rx, a, dx, fs, ex, ea, l, q⟩ := zz
 subst ex
 obtain rfl : u = Value.ref a := rx
 refine oF I1 ea c hm l ?_
 exact PySem.W.callWith_K0 (first := [.ref a]) I1.wR hm.kp (yh (us := [.ref a]) (vs := [.ref a]) F hr hb hd hx I1 (.cons rfl .nil) q)
structure Mk (K : Q.h) (C f : Addr) : Prop where
 makes : PySem.W.makesIn K C = true
 init : PySem.W.findIn K (.ref C) "__init__" = some (some (.ref f))
 fn : PySem.W.isFn K (.ref f) = true
 kp : PySem.W.keepIn K (.ref C) = true
theorem M5 {Q : VK} {vs : List V} (M : Mk X.K C f) (F : cJ X.prog X.w X.K X.mg X.base CX k f fd ps sp) (hr : c6 (k + 1) X.A) (hb : Binds X.K fd ps ds) (hd : Vals wC ds)
   (hx : Passes CX X E) (I : Q.g) (r : Vals vs us)
   (h : ∀ x dx, H x = none -> H dx = none -> dx ≠ x -> sp (.ref x :: (vs ++ wC)) (upd (upd H dx (.own x)) x (.ins C dx [])) (fun v H2 => v = .non /\ Q (.ref x) H2) E) :
   wpAny Q.d X.A (call (.ref C) us) (EP X pins σ Q) X.xe s := by
 have hq := h (s.heap.objs.size + 1) s.heap.objs.size (I.bY.fresh (Nat.le_succ _)) (I.bY.fresh (ahG _)) (aid (Nat.lt_succ_self _))
 have I2 := Inv.made (C := C) I
 have r2 : Vals (V.ref (s.heap.objs.size + 1) :: (vs ++ wC)) (Value.ref (s.heap.objs.size + 1) :: (us ++ ds)) := .cons rfl (r.append hd)
 have hl : (Value.ref (s.heap.objs.size + 1) :: us ++ ds).length = ps.length := by
   have e := r2.length
   rw [F.len _ _ _ _ hq] at e
   exact e.symm
 refine wpAny_call (MX (f := f) I.wR M.makes M.init (ajd.mp M.fn) (codeAny_mono (F.run _ X.stack _ _ ⟨Value.ref (s.heap.objs.size + 1) :: us, []⟩ (Value.ref (s.heap.objs.size + 1) :: (us ++ ds)) _ _ E (hr.make C us [])
   (I2.WU.make C us []) (hb _ (Value.ref (s.heap.objs.size + 1) :: us) I2.wR hl) r2 hq) fun r s' Vw => ?_))
 cases r with
 | error e => exact hx pins σ _ _ e s' I2 Vw
 | ok fl =>
   cases fl with
   | ret u =>
     obtain ⟨v, H', I3, rv, ev, q3⟩ := I2.after Vw
     subst ev
     exact ⟨rv, ⟨V.ref (s.heap.objs.size + 1), H', I3, rfl, q3⟩⟩
   | next => exact False.elim Vw
   | brk => exact False.elim Vw
   | cont => exact False.elim Vw
theorem IE (M : Mk X.K C f) (F : cJ X.prog X.w X.K X.mg X.base CX k f fd ps sp) (hr : c6 (k + 1) X.A) (hg : Gl X x) (hm : X.mg x = some (.ref C)) (hb : Binds X.K fd ps ds) (hd : Vals wC ds) (hx : Passes CX X E)
   (ha : PA X (e :: es) t) (qg : Q.m := by decide) (he : Q.r := by rfl) (hpl : Q.w := by rfl) :
   PE X (.Call (.Name x p) (e :: es) [] pos) (aaq C sp wC E t) := by
 intro pins s σ H Q I h
 refine aje (qY I hg hm ?_ qg)
 refine ajE (h₀ := X.base) I.ok.mod.Zj M.kp (di (ha pos pins s σ H _ I h) fun us s1 ⟨vs, H1, I1, r, q⟩ => ⟨I1.wR, ?_⟩) he hpl
 exact M5 M F hr hb hd hx I1 r q
end
structure aP (N P : List Str) (sc : Scope) : Prop where
 kind : sc.kind = .function
 co : sc.isCoroutine = false
 gen : sc.isGenerator = false
 nd : N.Nodup
 pre : N.take P.length = P
 par : ∀ x ∈ P, sc.names.lookup x = some .local \/ sc.names.lookup x = some .cell
 WV : ∀ y ∈ sc.names, y.2 ≠ .free
theorem Bq {kindOf : Str -> Option NameKind} {x : Str} : ∀ {binds : List (Str × Value)} {m : Q.p}, (∀ v, (x, v) ∉ binds) -> bindL kindOf binds m x = m x
 | [], _, _ => rfl
 | (n, v) :: r, m, h => by
   unfold bindL
   rw [Bq fun w hw => h w (ahz _ hw)]
   split
   . have : x ≠ n := by rintro rfl; exact h v ahw
     simp [this]
   . rfl
theorem Br {kindOf : Str -> Option NameKind} {x : Str} : ∀ {binds : List (Str × Value)} {m : Q.p}, (∀ v, (x, v) ∉ binds) -> bindC kindOf binds m x = m x
 | [], _, _ => rfl
 | (n, v) :: r, m, h => by
   unfold bindC
   rw [Br fun w hw => h w (ahz _ hw)]
   split
   . rfl
   . have : x ≠ n := by rintro rfl; exact h v ahw
     simp [this]
theorem Bs {kindOf : Str -> Option NameKind} {x : Str} {v : Value} : ∀ {P : List Str} {vs : List Value} {i : Nat} {m : Q.p}, P.Nodup -> P[i]? = some x -> vs[i]? = some v -> kindOf x = some .local →
   bindL kindOf (P.zip vs) m x = some v
 | [], _, _, _, _, h, _, _ => by simp at h
 | _ :: _, [], _, _, _, _, h, _ => by simp at h
 | p :: P, w :: vs, 0, m, nd, h1, h2, hk => by
   simp at h1 h2; subst h1; subst h2
   show bindL kindOf ((p, w) :: P.zip vs) m p = _
   unfold bindL
   rw [Bq fun v hv => (aia.mp nd).1 (List.of_mem_zip hv).1, ahN hk]
   simp
 | p :: P, w :: vs, i + 1, m, nd, h1, h2, hk => by
   show bindL kindOf ((p, w) :: P.zip vs) m x = _
   unfold bindL
   exact Bs (i := i) (List.nodup_cons.mp nd).2 (by simpa using h1) (by simpa using h2) hk
theorem Bt {kindOf : Str -> Option NameKind} {x : Str} {v : Value} : ∀ {P : List Str} {vs : List Value} {i : Nat} {m : Q.p}, P.Nodup -> P[i]? = some x -> vs[i]? = some v -> kindOf x ≠ some .local →
   bindC kindOf (P.zip vs) m x = some v
 | [], _, _, _, _, h, _, _ => by simp at h
 | _ :: _, [], _, _, _, _, h, _ => by simp at h
 | p :: P, w :: vs, 0, m, nd, h1, h2, hk => by
   simp at h1 h2; subst h1; subst h2
   show bindC kindOf ((p, w) :: P.zip vs) m p = _
   unfold bindC
   rw [Br fun v hv => (aia.mp nd).1 (List.of_mem_zip hv).1, ahC hk]
   simp
 | p :: P, w :: vs, i + 1, m, nd, h1, h2, hk => by
   show bindC kindOf ((p, w) :: P.zip vs) m x = _
   unfold bindC
   exact Bt (i := i) (List.nodup_cons.mp nd).2 (by simpa using h1) (by simpa using h2) hk
def start (N : List Str) (vs : List V) : St := vs.map some ++ List.replicate (N.length - vs.length) none
def ve (CX : J9) (P : Program) (w : World) (K : Q.h) (mg : Q.p) (base : Heap) (N : List Str) (qual : Str) (scope : Scope) (f : Addr) (cd : Value) (A : Around) (outer : List Env) (s : Shared) (H : Hp) (E : XK) : Cx where
 prog := P
 w := w
 K := K
 mg := mg
 base := base
 A := A.deeper (envOfC qual scope s.heap.objs.size f cd)
 N := N
 s₀ := s
 H₀ := H
 env := envOfC qual scope s.heap.objs.size f cd
 outer := outer
 stack := envOfC qual scope s.heap.objs.size f cd :: outer
 ex := []
 calm := true
 fn := fun _ => true
 pn := []
 xe := fun e s' => wpAny (model P w) (A.deeper (envOfC qual scope s.heap.objs.size f cd)) (leaving (envOfC qual scope s.heap.objs.size f cd) e) (fun _ s'' => CX outer H s E e s'') (fun e' s'' => CX outer H s E e' s'') s'
theorem Et {sc : Scope} {n : Nat} {x : Str} (h : sc.names.lookup x = some .cell) : ∃ c, (cellsFrom n sc.names []).lookup x = some c := by
 have q := PySem.W.cellsFrom_some sc.names n [] (.inl h)
 exact Option.isSome_iff_exists.mp q
theorem Ka {N : List Str} {qual : Str} {scope : Scope} {f : Addr} {cd : Value} {outer : List Env} {s1 : Shared} {E : XK} {vs : List V}
   (S : aP N ps scope) (hd : A.handled = none) (e0 : Az P w K mg base A outer s H) (hl : vs.length = ps.length) (r : Vals vs us)
   (x : InCallC s s.heap.objs.size (bindL (envOfC qual scope s.heap.objs.size f cd).kindOf (ps.zip us) fun _ => none) (cellsFrom (s.heap.objs.size + 1) scope.names []) (bindC (envOfC qual scope s.heap.objs.size f cd).kindOf (ps.zip us) fun _ => none) s1) :
   Inv (ve CX P w K mg base N qual scope f cd A outer s H E) [] (start N vs) H s1 := by
 have hpl : ps.length <= N.length := by have := congrArg List.length S.pre; rw [aio] at this; omega
 obtain ⟨h1, tk, rfl, hk⟩ := x.done
 have noA : ∀ b : Addr, b ∉ (ve CX P w K mg base N qual scope f cd A outer s H E).ex := fun b z => absurd (show b ∈ ([] : List Addr) from z) (by simp)
 refine ⟨⟨e0.mod, S.kind, rfl, rfl, ahG _, fun y z c h1 h2 => ?_, fun y hy => ?_, fun y c _ h => ?_, fun _ => hd, Around.frames_deeper e0.frames, .inr ⟨rfl, rfl⟩, fun b z => absurd z (noA b), e0.bs, e0.Iu, fun b _ _ => noA b, fun b z => absurd z (noA b), e0.rV, e0.MB⟩,
   rfl, e0.bare, Un.kept hk, ⟨_, x.toInCall.ns, fun i y v h1 h2 h3 => ?_⟩, fun y c h => ⟨_, x.cell y c h⟩, e0.bY.fresh (ahG _), fun y c h => ?_, fun p hp => absurd (show p ∈ ([] : List (Addr × Obj)) from hp) (by simp), e0.bY.kept hk, ?_⟩
 . exact name_of_addr x.apart (aiq h1) (aiq h2)
 . have hy : scope.names.lookup y = some .cell \/ scope.names.lookup y = some .free := hy
   rcases hy with hy | hy
   . exact Et hy
   . exact absurd rfl (S.WV _ (aiq hy))
 . exact aiC (x.above y c (aiq h))
 . have hi : i < vs.length := by
     unfold start at h2
     by_cases hi : i < vs.length
     . exact hi
     . rw [List.getElem?_append_right (by simpa using hi)] at h2
       rw [List.getElem?_replicate] at h2
       split at h2 <;> cases h2
   have ha : vs[i]? = some v := by
     unfold start at h2
     rw [List.getElem?_append_left (by simpa using hi), List.getElem?_map] at h2
     cases e : vs[i]? with
     | none => rw [e] at h2; cases h2
     | some a => rw [e] at h2; cases h2; rfl
   obtain ⟨u, hu, rv⟩ := r.get ha
   have hp : ps[i]? = some y := by
     rw [← S.pre, List.getElem?_take_of_lt Q.c]; exact h1
   have ndP : ps.Nodup := by rw [← S.pre]; exact S.nd.sublist (List.take_sublist _ _)
   refine ⟨u, rv, ?_⟩
   rcases S.par y (aih hp) with k | k
   . exact .inl ⟨k, Bs ndP hp hu k⟩
   . obtain ⟨c, e⟩ := Et (n := s.heap.objs.size + 1) k
     refine .inr ⟨.inl k, c, e, ?_⟩
     have q := x.cell y c e
     rw [Bt ndP hp hu (by show scope.names.lookup y ≠ _; rw [k]; decide)] at q
     exact q
 . exact e0.bY.fresh (aiC (x.above y c (aiq h)))
 . unfold start
   show _ = N.length
   rw [ahL, ahx, aiQ]
   omega
theorem Vx {f : Addr} {qual : Str} {params : Arguments} {body : List Stmt} {scope : Scope} {dV kV doc pm gn ct oc : Value} {an od : Option Addr}
   {Rf : Array (Option Value)} {N : List Str} {sp : Sp} (lk : K.lookup f = some ⟨oc, od, .func (PySem.W.fnOf name qual params body scope dV kV doc pm an gn ct), Rf⟩) (j3 : PySem.W.codeIn K gn qual = true) (S : aP N ps scope)
   (len : ∀ vs H Q E, sp vs H Q E -> vs.length = ps.length)
   (M6 : ∀ (A : Around) (outer : List Env) (s : Shared) (H : Hp) (vs : List V) (Q : VK) (E : XK), c6 k (A.deeper (envOfC qual scope s.heap.objs.size f gn)) -> sp vs H Q E →
     ∃ t, Iv (ve CX P w K mg base N qual scope f gn A outer s H E) body t /\ t { nx := fun _ H' => Q .non H', rt := Q } (start N vs) H) :
   cJ P w K mg base CX (k + 1) f (PySem.W.fnOf name qual params body scope dV kV doc pm an gn ct) ps sp := by
 refine ⟨len, fun A outer s H args us vs Q E hr e0 hb r M7 => ?_⟩
 have hl := len _ _ _ _ M7
 have KX : K.In s.heap := e0.mod.Zj.keeps fun b o e => (e0.bs b o e).1
 have lim : s.heap.NoLimit := e0.mod.nolimit.keeps fun b o e => (e0.bs b o e).1
 have yi : ∀ y ∈ ps.zip us, scope.names.lookup y.1 = some .local \/ (scope.names.lookup y.1 = some .cell /\ ((cellsFrom (s.heap.objs.size + 1) scope.names []).lookup y.1).isSome = true) := fun ⟨n, v⟩ hy => by
   rcases S.par n (List.of_mem_zip hy).1 with q | q
   . exact .inl q
   . exact .inr ⟨q, PySem.W.cellsFrom_some _ _ _ (.inl q)⟩
 refine codeAny_call_function hr.depth (KX _ _ lk) rfl S.co S.gen rfl (PySem.W.codeRec_of KX j3) (hb _ _ _ _ ?_)
 refine wpAny_newFunctionEnv_cells S.kind yi fun env he s1 x => ?_
 subst he
 refine ⟨lim.keeps x.toInCall.keep, codeAny_func ?_⟩
 obtain ⟨t, ht, hq⟩ := M6 A outer s H vs Q E (hr.deeper _) M7
 have I : Inv (ve CX P w K mg base N qual scope f gn A outer s H E) [] (start N vs) H s1 := Ka S hr.hd e0 hl r x
 refine aik (ht [] s1 (start N vs) H _ I hq) (fun fl s' hs => ?_) fun e s' hs => hs
 have fin : ∀ {σ' : St} {H' : Hp} {v : V} {u : Value}, Inv (ve CX P w K mg base N qual scope f gn A outer s H E) [] σ' H' s' -> RelV v u -> Q v H' -> CE outer P w H s Q u s' :=
   fun {σ' H' v u} J rv q => ⟨v, H', J.os, J.bare, J.base, J.bY, rv, q⟩
 cases fl with
 | ret u =>
   obtain ⟨v, σ', H', J, rv, q⟩ := hs
   exact fin J rv q
 | next =>
   obtain ⟨σ', H', J, q⟩ := hs
   exact fin (v := V.non) (u := Value.none) J rfl q
 | brk =>
   obtain ⟨_, _, _, q⟩ := hs
   exact False.elim q
 | cont =>
   obtain ⟨_, _, _, q⟩ := hs
   exact False.elim q
section
variable {x : Str} {p : Pos} {id T : String} {r : List V -> Hp -> VK -> Prop}
def tCB (r : List V -> Hp -> VK -> Prop) (t : TA) : TE := fun σ H Q => t σ H fun vs H1 => r vs H1 Q
theorem tU (hc : tR X (.builtin id) r) (hg : Gl X x) (hm : X.mg x = none) (hv : bootBuiltins x = some (.builtin id)) (ha : PA X (e :: es) t) (hn : x ≠ "__name__" := by decide) (qg : Q.m := by decide)
   (he : Q.r := by rfl) (hpl : Q.w := by rfl) : PE X (.Call (.Name x p) (e :: es) [] pos) (tCB r t) := by
 intro pins s σ H Q I h
 refine aje (F8 I hg hm hv ?_ hn qg)
 exact PyProof.Rows.callWith_builtin1 (di (ha pos pins s σ H _ I h) fun us s1 ⟨vs, H1, I1, r1, q1⟩ => hc pins s1 σ H1 vs us Q I1 r1 q1) he hpl
theorem ic (hc : tR X (.type T) r) (hg : Gl X x) (hm : X.mg x = none) (hv : bootBuiltins x = some (.type T)) (ha : PA X (e :: es) t) (hn : x ≠ "__name__" := by decide) (qg : Q.m := by decide)
   (he : Q.r := by rfl) (hpl : Q.w := by rfl) : PE X (.Call (.Name x p) (e :: es) [] pos) (tCB r t) := by
 intro pins s σ H Q I h
 refine aje (F8 I hg hm hv ?_ hn qg)
 exact PyProof.Rows.callWith_type1 (di (ha pos pins s σ H _ I h) fun us s1 ⟨vs, H1, I1, r1, q1⟩ => hc pins s1 σ H1 vs us Q I1 r1 q1) he hpl
end
end L2
namespace HT
open PySem PyProof.Rows
def AA (n d : Nat) : Option Int -> Nat
 | none => d
 | some v => if v < 0 then (v + (n : Int)).toNat else min v.toNat n
end HT
namespace L2
open PySem PySem.Spec PyProof.Rows
abbrev TO := St -> Hp -> (Option Int -> Hp -> Prop) -> Prop
def PO (X : Cx) (e : Option Expr) (t : TO) : Prop :=
 ∀ (pins : Q.i) (s : Shared) (σ : St) (H : Hp) (Q : Option Int -> Hp -> Prop), Inv X pins σ H s -> t σ H Q →
   wpAny Q.d X.A (evalPart e X.env) (fun u s' => ∃ o H', Inv X pins σ H' s' /\ IsPart u o /\ Q o H') X.xe s
def RK : TO := fun _ H Q => Q none H
def aat (t : TE) : TO := fun σ H Q => t σ H fun x H1 => ∃ i, x = .int i /\ Q (some i) H1
theorem intsAre_of {ns : List Int} : ∀ {us : List Value}, Vals (ns.map V.int) us -> IntsAre us ns := by
 induction ns with
 | nil => intro us r; rw [ai0] at r; cases r; exact .nil
 | cons n ns ih =>
   intro us r
   rw [ahO] at r
   cases r with
   | cons r1 r2 =>
     obtain ⟨t, e⟩ := r1
     subst e
     exact .cons n t (ih r2)
variable {X : Cx} {e : Expr} {te : TE} {lo hi : Option Expr} {tl th : TO} {pos p2 : Pos}
theorem IG : PO X none RK := by
 intro pins s σ H Q I h
 rw [evalPart_none]
 exact ahF ⟨none, H, I, .none, h⟩
theorem II (h : PE X e te) : PO X (some e) (aat te) := by
 intro pins s σ H Q I hw
 rw [evalPart_some]
 refine di (h pins s σ H _ I hw) fun u s1 zz => ?_
 obtain ⟨x, H1, I1, r1, q1⟩ := zz
 obtain ⟨i, rfl, q⟩ := q1
 obtain ⟨t, rfl⟩ := r1
 exact ⟨some i, H1, I1, .int i t, q⟩
def SlR (X : Cx) (r : V -> Option Int -> Option Int -> Hp -> VK -> Prop) : Prop :=
 ∀ (pins : Q.i) (s : Shared) (σ : St) (H : Hp) (x : V) (v vl vu : Value) (lo hi : Option Int) (sl : Addr) (Q : VK), Inv X pins σ H s -> RelV x v -> s.heap.IsSliceOf sl vl vu .none -> IsPart vl lo -> IsPart vu hi -> r x lo hi H Q →
   ∃ T id, typeLookup (.type T) "__getitem__" = pure (some (.builtin id)) /\ s.TypeIs v T /\ wpAny Q.d X.A (getItem v (.ref sl)) (EP X pins σ Q) X.xe s
def tSl (r : V -> Option Int -> Option Int -> Hp -> VK -> Prop) (te : TE) (tl th : TO) : TE := fun σ H Q => te σ H fun x H1 => tl σ H1 fun l H2 => th σ H2 fun u H3 => r x l u H3 Q
theorem M8 {r : V -> Option Int -> Option Int -> Hp -> VK -> Prop} (hr : SlR X r) (he : PE X e te) (hl : PO X lo tl) (hu : PO X hi th) : PE X (.Subscript e (.Slice lo hi none p2) pos) (tSl r te tl th) := by
 intro pins s σ H Q I h
 refine Subscript_ (di (he pins s σ H _ I h) fun v s1 zz => ?_)
 obtain ⟨x, H1, I1, r1, q1⟩ := zz
 refine wpAny_Slice (di (hl pins s1 σ H1 _ I1 q1) fun vl s2 ⟨l, H2, I2, pl, q2⟩ => di (hu pins s2 σ H2 _ I2 q2) fun vu s3 zz => ?_)
 obtain ⟨u, H3, I3, pu, q3⟩ := zz
 rw [evalPart_none]
 refine ahF ?_
 have I4 : Inv X pins σ H3 { s3 with heap := s3.heap.push { cls := .type "slice", data := .fields #[vl, vu, .none] } } := I3.kept (t' := s3.toks) fun b ob q => ahE _ q
 obtain ⟨T, id, hT, ht, hg⟩ := hr pins { s3 with heap := s3.heap.push { cls := .type "slice", data := .fields #[vl, vu, .none] } } σ H3 x v vl vu l u s3.heap.objs.size Q I4 r1 (Heap.IsSliceOf.new ..) pl pu q3
 show wpAny Q.d X.A (subscriptTail e (.Slice lo hi none p2) v (.ref s3.heap.objs.size)) (EP X pins σ Q) X.xe { s3 with heap := s3.heap.push { cls := .type "slice", data := .fields #[vl, vu, .none] } }
 exact tail_any (ops := [.ref s3.heap.objs.size, v]) ht hT hg (by with_unfolding_all rfl)
def Kc (xs : List V) (lo hi : Option Int) : List V := (xs.drop (HT.AA xs.length 0 lo)).take (HT.AA xs.length xs.length hi - HT.AA xs.length 0 lo)
theorem Eu (xs : List V) (lo hi : Option Int) : (Kc xs lo hi).length <= xs.length := by
 unfold Kc
 rw [aio, List.length_drop]
 omega
def Ew (n : Nat) (i : Int) : Option Nat := if 0 <= i then (if i < n then some i.toNat else none) else if -(n : Int) <= i then some (i + n).toNat else none
variable {α : Type}
def wF (xs : List α) (i : Int) : Option α := (Ew xs.length i).bind fun j => xs[j]?
variable {n : Nat}
theorem qZ {i : Int} {j : Nat} (h : Ew n i = some j) : seqIndex? i n = some j /\ j < n /\ -(n : Int) <= i /\ i < n := by
 unfold Ew at h
 by_cases h0 : 0 <= i
 . rw [ahN h0] at h
   by_cases h1 : i < n
   . rw [ahN h1] at h
     have e : i.toNat = j := ahP h
     exact ⟨by rw [seqIndex_of h0 h1, e], by omega, by omega, h1⟩
   . rw [ahC h1] at h; cases h
 . rw [ahC h0] at h
   by_cases h1 : -(n : Int) <= i
   . rw [ahN h1] at h
     have e : (i + n).toNat = j := ahP h
     exact ⟨by rw [seqIndex_neg Q.c h1, e], by omega, h1, by omega⟩
   . rw [ahC h1] at h; cases h
theorem IJ {xs : List α} {i : Int} {v : α} (h : wF xs i = some v) : ∃ j, seqIndex? i xs.length = some j /\ xs[j]? = some v /\ j < xs.length /\ -(xs.length : Int) <= i /\ i < xs.length := by
 unfold wF at h
 cases e : Ew xs.length i with
 | none => rw [e] at h; cases h
 | some j =>
   rw [e] at h
   obtain ⟨h1, h2, h3, h4⟩ := qZ e
   exact ⟨j, h1, h, h2, h3, h4⟩
theorem fS {xs : List α} {j : Nat} {v : α} (h : xs[j]? = some v) : wF xs (j : Int) = some v := by
 have hj : j < xs.length := (aii.mp h).1
 have e : Ew xs.length (j : Int) = some j := by
   unfold Ew
   rw [ahN Q.c, ahN Q.c]; simp
 unfold wF; rw [e]; exact h
theorem yj (xs : List α) (v : α) : wF (xs ++ [v]) (-1) = some v := by
 have hl : (xs ++ [v]).length = xs.length + 1 := by simp
 have e : Ew (xs ++ [v]).length (-1) = some xs.length := by
   unfold Ew
   rw [hl, ahC Q.b, ahN Q.c]
   congr 1
   omega
 unfold wF
 rw [e]
 show (xs ++ [v])[xs.length]? = some v
 simp
def oG (b : Expr) : Prop := ∀ o i, subscripted b false o i = operate [o, i] (getItem o i)
def IxR (X : Cx) (r : R2) : Prop :=
 ∀ (value slice : Expr) (pins : Q.i) (s : Shared) (σ : St) (H : Hp) (x y : V) (v u : Value) (Q : VK), Inv X pins σ H s -> RelV x v -> RelV y u -> r x y H Q →
   subscripted slice false v u = operate [v, u] (getItem v u) -> wpAny Q.d X.A (subscriptTail value slice v u) (EP X pins σ Q) X.xe s
def MtR (X : Cx) (id : String) (r : V -> List V -> Hp -> VK -> Prop) : Prop :=
 ∀ (pins : Q.i) (s : Shared) (σ : St) (H : Hp) (x : V) (xs : List V) (v : Value) (us : List Value) (Q : VK), Inv X pins σ H s -> RelV x v -> Vals xs us -> r x xs H Q →
   wpAny Q.d X.A (call (.builtin id) (v :: us)) (EP X pins σ Q) X.xe s
section
variable {a b : Expr} {ta tb : TE}
theorem yk {r : R2} (hr : IxR X r) (ha : PE X a ta) (hb : PE X b tb) (hs : oG b) : PE X (.Subscript a b pos) (tOp r ta tb) := by
 intro pins s σ H Q I h
 exact Subscript_ (WK ha hb I h fun v u s2 x y H2 I2 rx ry q => hr a b pins s2 σ H2 x y v u Q I2 rx ry q (hs _ _))
def adl (K : Q.h) : R2 := fun x y H Q => ∃ p xs i v, x = .ref p /\ y = .int i /\ oB K H p xs /\ wF xs i = some v /\ Q v H
def adn (K : Q.h) : R2 := fun x y H Q => ∃ p xs i v, x = .ref p /\ y = .int i /\ sO K H p xs /\ wF xs i = some v /\ Q v H
theorem Cg : IxR X (adl X.K) := by
 intro value slice pins s σ H x y v u Q I rx ry h hs
 obtain ⟨p, xs, i, z, rfl, rfl, hq, he, q⟩ := h
 cases rx
 obtain ⟨t, rfl⟩ := ry
 obtain ⟨its, r, pl, hz⟩ := I.list hq
 obtain ⟨j, h1, h2, h3, h4, h5⟩ := IJ he
 obtain ⟨w, ew, Gk⟩ := r.get h2
 have hl := r.length
 have hn := yf
 have fin : EP X pins σ Q w s := ⟨z, H, I, Gk, q⟩
 by_cases h0 : 0 <= i
 . have hj : i.toNat = j := by
     rw [seqIndex_of h0 h5] at h1
     exact ahP h1
   exact item_listR pl.isList h0 Q.c (by rw [hj]; simpa using ew) fin hs
 . have hj : (i + (its.toArray.size : Int)).toNat = j := by
     rw [seqIndex_neg Q.c h4] at h1
     rw [ahM, ← hl]
     exact ahP h1
   exact subscriptTail_builtinR (x := w) pl.isList.typeIs slot_list_getitem.lookup
     (wpAny_getItem_list_neg (Q := fun r s' => r = w /\ EP X pins σ Q r s') pl.isList Q.c (by rw [List.size_toArray] <;> omega) Q.c (by rw [hj]; simpa using ew) ⟨rfl, fin⟩) hs
theorem Ci : IxR X (adn X.K) := by
 intro value slice pins s σ H x y v u Q I rx ry h hs
 obtain ⟨p, xs, i, z, rfl, rfl, hq, he, q⟩ := h
 cases rx
 obtain ⟨t, rfl⟩ := ry
 obtain ⟨its, r, pl, hz⟩ := I.tuple hq
 obtain ⟨j, h1, h2, h3, h4, h5⟩ := IJ he
 obtain ⟨w, ew, Gk⟩ := r.get h2
 have hl := r.length
 have hn := yf
 have fin : EP X pins σ Q w s := ⟨z, H, I, Gk, q⟩
 exact subscriptTail_builtinR (x := w) pl.typeIs slot_tuple_getitem.lookup
   (getItem_tuple (j := j) (Q := fun r s' => r = w /\ EP X pins σ Q r s') pl Q.c Q.c (by rw [List.size_toArray, ← hl]; exact h1) (by simpa using ew) ⟨rfl, fin⟩) hs
theorem Gm (its : List Value) (n j : Nat) (u : Value) : Obj.mapSeq (·.setIfInBounds j u) { cls := .type "list", data := .seq its.toArray n } = { cls := .type "list", data := .seq (its.set j u).toArray n } := by
 simp [Obj.mapSeq]
theorem Inv.lst {pins : Q.i} {σ : St} {H : Hp} {s : Shared} {p : Addr} {xs : List V} (I : Q.g) (h : H p = some (.lst xs)) :
   ∃ (its : List Value) (n : Nat), Vals xs its /\ s.heap.get? p = some { cls := .type "list", data := .seq its.toArray n } /\ xs.length <= sizeLine := by
 obtain ⟨z, its, n, r, e⟩ := I.bY p _ h
 exact ⟨its, n, r, e, z⟩
theorem Inv.WW {pins : Q.i} {σ : St} {H : Hp} {s : Shared} {p : Addr} {xs ys : List V} {its its' : List Value} {n' : Nat} {f : Obj -> Obj} (I : Q.g) (h : H p = some (.lst xs))
   (ho : s.heap.get? p = some { cls := .type "list", data := .seq its.toArray n }) (hf : f { cls := .type "list", data := .seq its.toArray n } = { cls := .type "list", data := .seq its'.toArray n' }) (r : Vals ys its') (hz : ys.length <= sizeLine) (t : Nat) :
   Inv X pins σ (upd H p (.lst ys)) { s with heap := s.heap.update p f, toks := t } := by
 have e : (s.heap.update p f).get? p = some { cls := .type "list", data := .seq its'.toArray n' } := by
   rw [ai3 f ho (by rw [hf] <;> rfl), hf]
 refine I.write (x := p) (e := p) (by rw [h]; trivial) (.inl rfl) (fun b u hb q => (ajj _ _ (ajv hb)).trans q) ⟨_, e⟩ ?_
 exact ⟨hz, its', n', r, e⟩
def aau : V -> V -> V -> Hp -> (Hp -> Prop) -> Prop := fun o i v H Q => ∃ p xs k j, o = .ref p /\ i = .int k /\ H p = some (.lst xs) /\ Ew xs.length k = some j /\ Q (upd H p (.lst (xs.set j v)))
theorem set_list : ZZ X aau := by
 intro pins s σ H o i v ov iv u Q I ro ri rv h
 obtain ⟨p, xs, k, j, rfl, rfl, hp, hj, q⟩ := h
 cases ro
 obtain ⟨t, rfl⟩ := ri
 obtain ⟨its, n, r, ho, hz⟩ := I.lst hp
 obtain ⟨h1, h2, h3, h4⟩ := qZ hj
 have hl := r.length
 have hn := yf
 have I' : Inv X pins σ (upd H p (.lst (xs.set j v))) { s with heap := s.heap.update p (Obj.mapSeq (·.setIfInBounds j u)) } :=
   I.WW hp ho (Gm its n j u) (r.set rv j) (by rw [ajz]; exact hz) s.toks
 by_cases h0 : 0 <= k
 . have hk : k.toNat = j := by
     rw [seqIndex_of h0 h4] at h1
     exact ahP h1
   exact PySem.W.ki_setAt ho h0 Q.c (by rw [ahM, ← hl]; exact h4) (by rw [hk]; exact ⟨_, I', q⟩)
 . have hk : (k + (its.toArray.size : Int)).toNat = j := by
     rw [seqIndex_neg Q.c h3] at h1
     rw [ahM, ← hl]
     exact ahP h1
   exact PySem.W.ki_setBack ho Q.c (by rw [ahM, ← hl]; exact h3) Q.c (by rw [hk]; exact ⟨_, I', q⟩)
theorem Cj (lo hi : Option Int) (n : Nat) : (sliceBounds lo hi none n).1 = ((HT.AA n 0 lo : Nat) : Int) /\ (sliceBounds lo hi none n).2.1 = ((HT.AA n n hi : Nat) : Int) /\ (sliceBounds lo hi none n).2.2 = 1 := by
 refine ⟨?_, ?_, rfl⟩
 . cases lo with
   | none => simp [sliceBounds, HT.AA]
   | some i =>
     simp only [sliceBounds, HT.AA, Option.getD_none, show (1 : Int) > 0 by decide, ajw]
     by_cases h : i < 0
     . simp only [h, ajw] <;> omega
     . simp only [h, ajp] <;> omega
 . cases hi with
   | none => simp [sliceBounds, HT.AA]
   | some i =>
     simp only [sliceBounds, HT.AA, Option.getD_none, show (1 : Int) > 0 by decide, ajw]
     by_cases h : i < 0
     . simp only [h, ajw] <;> omega
     . simp only [h, ajp] <;> omega
theorem AF (its : List Value) (lo hi : Option Int) : slicePick its.toArray lo hi none = ((its.drop (HT.AA its.length 0 lo)).take (HT.AA its.length its.length hi - HT.AA its.length 0 lo)).toArray := by
 obtain ⟨h1, h2, h3⟩ := Cj lo hi its.toArray.size
 unfold slicePick
 rw [h1, h2, h3]
 simp only [sliceRange_one, pick_run, ahM] <;> rfl
def ado (K : Q.h) : V -> Option Int -> Option Int -> Hp -> VK -> Prop := fun x lo hi H Q => ∃ a xs, x = .ref a /\ oB K H a xs /\ ∀ p, H p = none -> Q (.ref p) (upd H p (.lst (Kc xs lo hi)))
theorem RL : SlR X (ado X.K) := by
 intro pins s σ H x v vl vu lo hi sl Q I rx hs pl pu h
 obtain ⟨a, xs, rfl, hx, q⟩ := h
 cases rx
 obtain ⟨its, r, ht, hz⟩ := I.list hx
 have hlen := r.length
 refine ⟨"list", _, slot_list_getitem.lookup, ht.isList.typeIs, ?_⟩
 refine wpAny_getItem_list_slice ht.isList hs pl pu .none (by simp) ?_ (by rw [ahM] <;> omega)
 rw [AF, ← hlen]
 refine ⟨.ref s.heap.objs.size, _, I.laid (t' := s.toks) (o := .lst (Kc xs lo hi)) (fun b ob q => ahE _ q) (ahG _) ?_, rfl, q _ (I.bY.fresh (ahG _))⟩
 exact ⟨ain (Eu xs lo hi) hz, _, 0, (r.drop (HT.AA xs.length 0 lo)).take (HT.AA xs.length xs.length hi - HT.AA xs.length 0 lo), ahU _ rfl⟩
def tV : V -> Bool
 | .non => true
 | .bl _ => true
 | .int _ => true
 | .str _ => true
 | _ => false
def RM : V -> V -> Bool
 | .non, .non => true
 | .bl a, .bl b => a == b
 | .bl a, .int b => (if a then 1 else 0) == b
 | .int a, .bl b => a == (if b then 1 else 0)
 | .int a, .int b => a == b
 | .str a, .str b => a == b
 | _, _ => false
theorem WX {A : Around} {s : Shared} {y x : V} {u v : Value} (ry : RelV y u) (rx : RelV x v) (fy : tV y = true) (fx : tV x = true) : SeqAt.EqAt A s u v (RM y x) := by
 cases y with
 | non =>
   cases ry
   cases x with
   | non => cases rx; exact SeqAt.EqAt.same _
   | bl b => cases rx; exact SeqAt.EqAt.none_bool b
   | int b => obtain ⟨t, rfl⟩ := rx; exact SeqAt.EqAt.none_int b t
   | str b => obtain ⟨t, rfl⟩ := rx; exact SeqAt.EqAt.none_str b t
   | _ => exact absurd (show false = true from fx) ahI
 | bl a =>
   cases ry
   cases x with
   | non => cases rx; exact SeqAt.EqAt.bool_none a
   | bl b => cases rx; exact SeqAt.EqAt.bool_bool a b
   | int b => obtain ⟨t, rfl⟩ := rx; exact SeqAt.EqAt.bool_int a b t
   | str b => obtain ⟨t, rfl⟩ := rx; exact SeqAt.EqAt.bool_str a b t
   | _ => exact absurd (show false = true from fx) ahI
 | int a =>
   obtain ⟨t', rfl⟩ := ry
   cases x with
   | non => cases rx; exact SeqAt.EqAt.int_none a t'
   | bl b => cases rx; exact SeqAt.EqAt.int_bool a t' b
   | int b => obtain ⟨t, rfl⟩ := rx; exact SeqAt.EqAt.int_int a t' b t
   | str b => obtain ⟨t, rfl⟩ := rx; exact SeqAt.EqAt.int_str a t' b t
   | _ => exact absurd (show false = true from fx) ahI
 | str a =>
   obtain ⟨t', rfl⟩ := ry
   cases x with
   | non => cases rx; exact SeqAt.EqAt.str_none a t'
   | bl b => cases rx; exact SeqAt.EqAt.str_bool a t' b
   | int b => obtain ⟨t, rfl⟩ := rx; exact SeqAt.EqAt.str_int a t' b t
   | str b => obtain ⟨t, rfl⟩ := rx; exact SeqAt.EqAt.str_str a t' b t
   | _ => exact absurd (show false = true from fx) ahI
 | _ => exact absurd (show false = true from fy) ahI
def RN (x : V) (u : Value) : Bool := match u with
 | .none => RM .non x
 | .bool b => RM (.bl b) x
 | .int i _ => RM (.int i) x
 | .str z _ => RM (.str z) x
 | _ => false
theorem M9 {x y : V} {u : Value} (r : RelV y u) (f : tV y = true) : RN x u = RM y x := by
 cases y with
 | non => cases r; rfl
 | bl b => cases r; rfl
 | int i => obtain ⟨t, rfl⟩ := r; rfl
 | str z => obtain ⟨t, rfl⟩ := r; rfl
 | _ => exact absurd (show false = true from f) ahI
theorem Ck {x : V} : ∀ {xs : List V} {us : List Value}, Vals xs us -> xs.all tV = true -> us.any (RN x) = xs.any fun y => RM y x
 | _, _, .nil, _ => rfl
 | y :: xs, u :: us, .cons r t, f => by
   rw [List.all_cons, ah0] at f
   rw [aju, aju, M9 r f.1, Ck t f.2]
theorem ym {A : Around} {s : Shared} {x : V} {v : Value} (rx : RelV x v) (fx : tV x = true) : ∀ {xs : List V} {us : List Value}, Vals xs us -> xs.all tV = true -> ∀ u ∈ us, SeqAt.EqAt A s u v (RN x u)
 | _, _, .nil, _ => fun u hu => by cases hu
 | y :: xs, u :: us, .cons r t, f => fun u' hu => by
   rw [List.all_cons, ah0] at f
   rcases ahH.mp hu with rfl | hu
   . rw [M9 r f.1]; exact WX r rx f.1 fx
   . exact ym rx fx t f.2 u' hu
def inV (x : V) (xs : List V) : Bool := xs.any fun y => RM y x
def rIn (K : Q.h) (neg : Bool) : R2 := fun x y H Q => ∃ p xs, y = .ref p /\ (oB K H p xs \/ sO K H p xs) /\ tV x = true /\ xs.all tV = true /\ Q (.bl (if neg then !inV x xs else inV x xs)) H
theorem Bu : u9 X (compareOp .In) (rIn X.K false) := by
 intro pins s σ H x y v u Q I rx ry h
 obtain ⟨p, xs, rfl, hq, fx, fs, q⟩ := h
 cases ry
 rcases hq with hq | hq
 . obtain ⟨its, r, pl, hz⟩ := I.list hq
   refine SeqAt.in_listAt (RN x) pl.isList (fun w hw => ym rx fx r fs w (by simpa using hw)) ⟨.bl _, H, I, rfl, ?_⟩
   rw [show its.toArray.any (RN x) = its.any (RN x) by simp, Ck r fs]
   exact q
 . obtain ⟨its, r, pl, hz⟩ := I.tuple hq
   refine SeqAt.in_tupleAt (RN x) pl (fun w hw => ym rx fx r fs w (by simpa using hw)) ⟨.bl _, H, I, rfl, ?_⟩
   rw [show its.toArray.any (RN x) = its.any (RN x) by simp, Ck r fs]
   exact q
theorem Cm : tR X (.builtin "len") (fun xs H Q => ∃ p ys, xs = [.ref p] /\ (oB X.K H p ys \/ sO X.K H p ys) /\ Q (.int ys.length) H) := by
 intro pins s σ H xs us Q I r h
 obtain ⟨p, ys, rfl, hq, q⟩ := h
 obtain ⟨u, rfl, rx⟩ := vals1 r
 cases rx
 have hn := yf
 rcases hq with hq | hq
 . obtain ⟨its, r', pl, hz⟩ := I.list hq
   have hlen := r'.length
   exact Calls.call_len_list pl.isList (by simp only [ahM] <;> omega) ⟨.int ys.length, H, I.tok _, ⟨s.toks + 1, by rw [ahM, hlen]⟩, q⟩
 . obtain ⟨its, r', pl, hz⟩ := I.tuple hq
   have hlen := r'.length
   exact len_tuple pl (by simp only [ahM] <;> omega) ⟨.int ys.length, H, I.tok _, ⟨s.toks + 1, by rw [ahM, hlen]⟩, q⟩
theorem oH : tR X (.type "list") (fun xs H Q => ∃ p ys, xs = [.ref p] /\ (oB X.K H p ys \/ sO X.K H p ys) /\ ∀ l, H l = none -> Q (.ref l) (upd H l (.lst ys))) := by
 intro pins s σ H xs us Q I r h
 obtain ⟨p, ys, rfl, hq, q⟩ := h
 obtain ⟨u, rfl, rx⟩ := vals1 r
 cases rx
 have fin : ∀ (its : List Value), Vals ys its -> ys.length <= sizeLine -> ∀ (h' : Heap) (c' : Nat), (∀ b o', s.heap.get? b = some o' -> h'.get? b = some o') →
     h'.get? s.heap.objs.size = some { cls := .type "list", dict := none, data := .seq its.toArray c', slots := #[] } -> EP X pins σ Q (.ref s.heap.objs.size) { s with heap := h' } := fun its r' hz h' c' kp e =>
   ⟨.ref s.heap.objs.size, _, I.laid (t' := s.toks) kp (ahG _) (show dD X.prog X.w _ h' _ (.lst ys) from ⟨hz, its, c', r', e⟩), rfl, q _ (I.bY.fresh (ahG _))⟩
 rcases hq with hq | hq
 . obtain ⟨its, r', pl, hz⟩ := I.list hq
   have hlen := r'.length
   obtain ⟨o, ho, hc, n, hd⟩ := pl.isList
   exact call_list_seq p (.inl rfl) ho hc hd (fun h' c' kp e => fin its r' hz h' c' kp e) (by simp only [ahM] <;> omega)
 . obtain ⟨its, r', pl, hz⟩ := I.tuple hq
   have hlen := r'.length
   obtain ⟨o, ho, hc, n, hd⟩ := pl
   exact call_list_seq p (.inr rfl) ho hc hd (fun h' c' kp e => fin its r' hz h' c' kp e) (by simp only [ahM] <;> omega)
theorem mV : tR X (.type "tuple") (fun xs H Q => ∃ p ys, xs = [.ref p] /\ ((oB X.K H p ys /\ ∀ l, H l = none -> Q (.ref l) (upd H l (.tup ys))) \/ (sO X.K H p ys /\ Q (.ref p) H))) := by
 intro pins s σ H xs us Q I r h
 obtain ⟨p, ys, rfl, h⟩ := h
 obtain ⟨u, rfl, rx⟩ := vals1 r
 cases rx
 rcases h with ⟨hq, q⟩ | ⟨hq, q⟩
 . obtain ⟨its, r', pl, hz⟩ := I.list hq
   have hlen := r'.length
   refine call_tuple_list pl.isList (fun h' kp => ?_) (by simp only [ahM] <;> omega)
   have I1 : Inv X pins σ H { s with heap := h' } := I.kept (t' := s.toks) kp
   have I2 : Inv X pins σ (upd H h'.objs.size (.tup ys)) { s with heap := h'.push { cls := .type "tuple", data := .seq its.toArray } } :=
     I1.laid (t' := s.toks) (fun b o e => ahE _ e) (ahG _) (show dD X.prog X.w _ _ _ (.tup ys) from ⟨hz, its, r', IsTup.new _ _⟩)
   exact ⟨.ref h'.objs.size, _, I2, rfl, q _ (I1.bY.fresh (ahG _))⟩
 . obtain ⟨its, r', pl, hz⟩ := I.tuple hq
   exact call_tuple_same pl ⟨.ref p, H, I, rfl, q⟩
def tyV (K : Q.h) (T : String) (x : V) (H : Hp) : Prop := match x with
 | .str _ => T = "str"
 | .int _ => T = "int"
 | .ref p => (T = "list" /\ ∃ xs, oB K H p xs) \/ (T = "tuple" /\ ∃ o, K.lookup p = some o /\ o.cls = .type "tuple" /\ o.dict = none) ∨
     (T = "dict" /\ ((∃ kvs, H p = some (.dK kvs)) \/ ∃ kvs, H p = some (.dT kvs))) \/ (T = "set" /\ ∃ S n, H p = some (.set S n))
 | _ => False
theorem Nb {pins : Q.i} {σ : St} {H : Hp} {s : Shared} {T : String} {x : V} {v : Value} (I : Q.g) (r : RelV x v) (ty : tyV X.K T x H) :
   s.TypeIs v T /\ ∀ a, v = .ref a -> ∃ ob, s.heap.get? a = some ob /\ ob.dict = none := by
 cases x with
 | str z =>
   obtain ⟨t, rfl⟩ := r
   cases (show T = "str" from ty)
   exact ⟨typeIs_str s z t, fun _ e => nomatch e⟩
 | int i =>
   obtain ⟨t, rfl⟩ := r
   cases (show T = "int" from ty)
   exact ⟨typeIs_int s i t, fun _ e => nomatch e⟩
 | ref p =>
   cases r
   rcases ty with ⟨rfl, xs, hq⟩ | ⟨rfl, o, hk, hc, hd⟩ | ⟨rfl, hk⟩ | ⟨rfl, S, n, hk⟩
   . obtain ⟨its, _, pl, _⟩ := I.list hq
     refine ⟨pl.isList.typeIs, fun a e => ?_⟩
     cases e
     obtain ⟨o, n, e, c, hd, _⟩ := pl
     exact ⟨o, e, hd⟩
   . refine ⟨⟨o, I.wR p o hk, hc⟩, fun a e => ?_⟩
     cases e
     exact ⟨o, I.wR _ o hk, hd⟩
   . have z : ∃ o, s.heap.get? p = some o /\ o.ExactDict := by
       rcases hk with ⟨kvs, hk⟩ | ⟨kvs, hk⟩
       . obtain ⟨_, _, _, _, o, _, _, e, ex, _⟩ := I.bY p _ hk
         exact ⟨o, e, ex⟩
       . obtain ⟨_, _, _, _, o, _, _, e, ex, _⟩ := I.bY p _ hk
         exact ⟨o, e, ex⟩
     obtain ⟨o, e, ex⟩ := z
     refine ⟨⟨o, e, ex.1⟩, fun a e2 => ?_⟩
     cases e2
     exact ⟨o, e, ex.2.1⟩
   . obtain ⟨o, _, _, _, e, ex, _⟩ := I.bY p _ hk
     refine ⟨⟨o, e, ex.1⟩, fun a e2 => ?_⟩
     cases e2
     exact ⟨o, e, ex.2.1⟩
 | _ => exact False.elim ty
def adq (K : Q.h) (T : String) (r : V -> List V -> Hp -> VK -> Prop) (to : TE) : TE := fun σ H Q => to σ H fun x H1 => tyV K T x H1 /\ r x [] H1 Q
def tBM (K : Q.h) (T : String) (r : V -> List V -> Hp -> VK -> Prop) (to : TE) (t : TA) : TE := fun σ H Q => to σ H fun x H1 => tyV K T x H1 /\ t σ H1 fun xs H2 => r x xs H2 Q
variable {o : Expr} {es : List Expr} {to : TE} {t : TA} {name : Str} {apos rX : Pos} {T id : String} {r : V -> List V -> Hp -> VK -> Prop}
theorem WY (pa : PlainAttrs T) (slot : Slot T name id) (hty : typeOf (.builtin id) = pure (.type "method_descriptor")) (hm : MtR X id r) (ho : PE X o to)
   (eV : attributeBase o name X.env (eval o X.env) = eval o X.env := by rfl) (hline : (apos.endLine == rX.line) = true := by rfl) : PE X (.Call (.Attribute o name apos) [] [] rX) (adq X.K T r to) := by
 intro pins s σ H Q I h
 refine wpAny_Call_method0_late eV hline (di (ho pins s σ H _ I h) fun v s1 zz => ?_)
 obtain ⟨x, H1, I1, r1, ty, q1⟩ := zz
 obtain ⟨h1, h2⟩ := Nb I1 r1 ty
 exact ⟨T, id, pa, slot, hty, h1, h2, Calls.callWith_builtin rfl (PySem.evalArgs_none (hm pins s1 σ H1 x [] v [] Q I1 r1 .nil q1))⟩
theorem Bv (pa : PlainAttrs T) (slot : Slot T name id) (hty : typeOf (.builtin id) = pure (.type "method_descriptor")) (hm : MtR X id r) (ho : PE X o to) (ha : PA X (e :: es) t)
   (eV : attributeBase o name X.env (eval o X.env) = eval o X.env := by rfl)
   (sP : ((backTo rX (starEach (e :: es) X.env)).all (fun x => !x.1) && (backToKw rX (keywordEach [] X.env)).all (fun x => x.1.isSome)
     && decide ((e :: es).length + ([] : List Keyword).length + (if ([] : List Keyword).isEmpty then 0 else 1) < 30)) = true := by rfl)
   (hline : (apos.endLine == rX.line) = true := by rfl) (hs : Q.r := by rfl) (WZ : (backTo rX (starEach es X.env)).any (·.1) = false := by rfl) :
   PE X (.Call (.Attribute o name apos) (e :: es) [] rX) (tBM X.K T r to t) := by
 intro pins s σ H Q I h
 refine wpAny_Call_method_late eV sP hline rfl (di (ho pins s σ H _ I h) fun v s1 zz => ?_)
 obtain ⟨x, H1, I1, r1, ty, q1⟩ := zz
 obtain ⟨h1, h2⟩ := Nb I1 r1 ty
 refine ⟨T, id, pa, slot, hty, h1, h2, ?_⟩
 have hA := ha rX pins s1 σ H1 _ I1 q1
 rw [hs] at hA ⊢
 refine Calls.callWith_builtin (by show (false || (backTo rX (starEach es X.env)).any (·.1)) = false; rw [WZ] <;> rfl) (Calls.evalArgs_plain ?_)
 exact di hA fun us s2 ⟨vs, H2, I2, r2, q2⟩ => hm pins s2 σ H2 x vs v us Q I2 r1 r2 q2
end
def MtM (X : Cx) (id : String) (r : V -> List V -> Hp -> VK -> Prop) : Prop :=
 ∀ (pins : Q.i) (s : Shared) (σ : St) (H : Hp) (x : V) (xs : List V) (v : Value) (us : List Value) (Q : VK), Inv X pins σ H s -> RelV x v -> Vals xs us -> r x xs H Q →
   wpAny Q.d X.A (call (.builtin id) (v :: us)) (EP X pins σ Q) X.xe s
variable {x : V}
theorem Vals.one {us : List Value} (h : Vals [x] us) : ∃ u, us = [u] /\ RelV x u := by
 cases h with
 | cons r h => cases h; exact ⟨_, rfl, r⟩
theorem Vals.zero : ∀ {us : List Value}, Vals [] us -> us = []
 | _, .nil => rfl
variable {xs : List V}
theorem Vals.dropLast {us : List Value} (h : Vals xs us) : Vals xs.dropLast us.dropLast := by
 induction h with
 | nil => exact .nil
 | cons r t ih =>
   cases t with
   | nil => exact .nil
   | cons q t' => exact .cons r ih
theorem Vals.eraseIdx : ∀ {xs : List V} {us : List Value} (i : Nat), Vals xs us -> Vals (xs.eraseIdx i) (us.eraseIdx i)
 | _, _, _, .nil => .nil
 | _, _, 0, .cons _ t => t
 | _, _, i + 1, .cons r t => .cons r (Vals.eraseIdx i t)
theorem Gn (l : List α) : l.eraseIdx (l.length - 1) = l.dropLast := by
 induction l with
 | nil => rfl
 | cons a r ih =>
   cases r with
   | nil => rfl
   | cons b r =>
     have e : (a :: b :: r).length - 1 = ((b :: r).length - 1) + 1 := by
       have h1 : (a :: b :: r).length = r.length + 2 := rfl
       have h2 : (b :: r).length = r.length + 1 := rfl
       omega
     rw [e, List.eraseIdx_cons_succ, ih]
     all_goals rfl
theorem Bw {α : Type} : ∀ (l : List α) (i : Nat), (l.eraseIdx i).length <= l.length
 | [], _ => ahG _
 | _ :: _, 0 => Nat.le_succ _
 | _ :: r, i + 1 => Nat.succ_le_succ (Bw r i)
variable {pins : Q.i} {σ : St} {H : Hp} {s : Shared} {l : Addr} {ys : List V}
theorem Inv.Nf {its its' : List Value} {f : Array Value -> Array Value} {t' : Nat} (I : Q.g) (hH : H l = some (.lst xs))
   (e : s.heap.get? l = some { cls := .type "list", data := .seq its.toArray n }) (hf : f its.toArray = its'.toArray) (hv : Vals ys its') (hz : ys.length <= sizeLine) :
   Inv X pins σ (upd H l (.lst ys)) { s with heap := s.heap.update l (Obj.mapSeq f), toks := t' } := by
 have q := PySem.IsL.update e f
 rw [hf] at q
 refine I.write (x := l) (e := l) (by rw [hH]; exact trivial) (.inl rfl) (fun b' u hb hu => (ajj s.heap (Obj.mapSeq f) (ajv hb)).trans hu) ⟨_, q⟩ ?_
 exact ⟨hz, its', _, hv, q⟩
theorem Inv.adt {its : List Value} {t' : Nat} (I : Q.g) (hv : Vals ys its) (hz : ys.length <= sizeLine) :
   Inv X pins σ (upd H s.heap.objs.size (.lst ys)) { s with heap := s.heap.push { cls := .type "list", data := .seq its.toArray }, toks := t' } :=
 I.laid (fun _ _ q => ahE _ q) (ahG _) ⟨hz, its, 0, hv, ahU _ rfl⟩
theorem Inv.fresh (I : Q.g) : H s.heap.objs.size = none := I.bY.fresh (ahG _)
theorem Inv.Kd (I : Q.g) (hH : H l = some (.lst xs)) : xs.length <= sizeLine /\ ∃ (its : List Value) (n : Nat), Vals xs its /\ xs.length = its.length /\ s.heap.get? l = some { cls := .type "list", data := .seq its.toArray n } := by
 obtain ⟨z, its, n, r, e⟩ := I.bY l _ hH
 exact ⟨z, its, n, r, r.length, e⟩
theorem Ex (h : n <= sizeLine) : Builtin.List.listTooLong n = false := by
 unfold Builtin.List.listTooLong
 exact aiM Q.c
def RP : V -> List V -> Hp -> VK -> Prop := fun x vs H Q => ∃ l xs y, x = .ref l /\ vs = [y] /\ H l = some (.lst xs) /\ xs.length < sizeLine /\ Q .non (upd H l (.lst (xs ++ [y])))
theorem nK : MtM X "list.append" RP := by
 intro pins s σ H x vs v us Q I rx rv h
 obtain ⟨l, xs, y, rfl, rfl, hH, hz, q⟩ := h
 cases rx
 obtain ⟨u, rfl, ru⟩ := rv.one
 obtain ⟨z, its, n, r, hl, e⟩ := I.Kd hH
 refine call_meets F.slot_list_append ⟨_, e, rfl⟩ F.entry_list_append (F.args_list_append_2 _ _) (PySem.list_append l its.toArray n u (by rw [ahM]; omega)) ⟨e, ?_⟩
 refine ⟨.non, _, I.Nf (its' := its ++ [u]) hH e (by simp) (r.append (.cons ru .nil)) ?_, rfl, q⟩
 rw [ahL, aiB]
 omega
def RQ : V -> List V -> Hp -> VK -> Prop := fun x vs H Q => ∃ l b xs zs, x = .ref l /\ vs = [.ref b] /\ H l = some (.lst xs) /\ H b = some (.lst zs) /\ xs.length + zs.length <= sizeLine /\ Q .non (upd H l (.lst (xs ++ zs)))
theorem Ke : MtM X "list.extend" RQ := by
 intro pins s σ H x vs v us Q I rx rv h
 obtain ⟨l, b, xs, zs, rfl, rfl, hH, hB, hz, q⟩ := h
 cases rx
 obtain ⟨u, rfl, ru⟩ := rv.one
 cases ru
 obtain ⟨z, its, n, r, hl, e⟩ := I.Kd hH
 obtain ⟨z2, vf, n2, r2, hl2, e2⟩ := I.Kd hB
 have hsz : its.toArray.size + vf.toArray.size <= sizeLine := by rw [ahM, ahM]; omega
 have Ng : ¬ (!its.toArray.isEmpty && Builtin.List.listTooLong (its.toArray.size + vf.toArray.size)) = true := by
   rw [Ex hsz, Bool.and_false]
   exact ahI
 refine call_meets F.slot_list_extend ⟨_, e, rfl⟩ F.entry_list_extend (F.args_list_extend_2 _ _)
   (AutoSeq1.list_extend_list_list_0 l its.toArray n b vf.toArray n2 Ng (by rw [ahM]; omega) Q.c) ⟨e, e2, ?_⟩
 refine ⟨.non, _, I.Nf (its' := its ++ vf) hH e (by simp) (r.append r2) ?_, rfl, q⟩
 rw [ahL]
 omega
def adv : V -> List V -> Hp -> VK -> Prop := fun x vs H Q => ∃ l xs y, x = .ref l /\ vs = [] /\ H l = some (.lst xs) /\ xs[xs.length - 1]? = some y /\ Q y (upd H l (.lst xs.dropLast))
theorem W0 : MtM X "list.pop" adv := by
 intro pins s σ H x vs v us Q I rx rv h
 obtain ⟨l, xs, y, rfl, rfl, hH, hy, q⟩ := h
 cases rx
 have hus := rv.zero
 subst hus
 obtain ⟨z, its, n, r, hl, e⟩ := I.Kd hH
 obtain ⟨u, hu, ru⟩ := r.get hy
 have W2 : its.toArray[its.toArray.size - 1]? = some u := by
   show its.toArray[its.length - 1]? = some u
   rw [← ajm, ← hl]
   exact hu
 refine call_meets F.slot_list_pop ⟨_, e, rfl⟩ F.entry_list_pop (F.args_list_pop_1 _) (MeetsSeq.list_pop_last l its.toArray n u W2 (by rw [ahM]; omega)) ⟨e, ?_⟩
 refine ⟨y, _, I.Nf (its' := its.dropLast) hH e ?_ r.dropLast ?_, ru, q⟩
 . show its.toArray.eraseIdxIfInBounds (its.toArray.size - 1) = its.dropLast.toArray
   rw [ahM, List.eraseIdxIfInBounds_toArray, Gn]
 . rw [List.length_dropLast]
   omega
def W3 : V -> List V -> Hp -> VK -> Prop := fun x vs H Q => ∃ l xs i k y, x = .ref l /\ vs = [.int i] /\ H l = some (.lst xs) /\ -(2 ^ 63) <= i /\ i < 2 ^ 63 /\ seqIndex? i xs.length = some k /\ xs[k]? = some y /\ Q y (upd H l (.lst (xs.eraseIdx k)))
theorem Nh : MtM X "list.pop" W3 := by
 intro pins s σ H x vs v us Q I rx rv h
 obtain ⟨l, xs, i, k, y, rfl, rfl, hH, h1, h2, hk, hy, q⟩ := h
 cases rx
 obtain ⟨u, rfl, ru⟩ := rv.one
 obtain ⟨t, rfl⟩ := ru
 obtain ⟨z, its, n, r, hl, e⟩ := I.Kd hH
 obtain ⟨w, hw, Gk⟩ := r.get hy
 refine call_meets F.slot_list_pop ⟨_, e, rfl⟩ F.entry_list_pop (F.args_list_pop_2 _ _)
   (MeetsSeq.list_pop_at l its.toArray n i t k w (fitsIndex_both h1 h2) (by rw [ahM, ← hl]; exact hk) (by rw [← ajm]; exact hw) (by rw [ahM]; omega)) ⟨e, ?_⟩
 refine ⟨y, _, I.Nf (its' := its.eraseIdx k) hH e ?_ (r.eraseIdx k) ?_, Gk, q⟩
 . show its.toArray.eraseIdxIfInBounds k = (its.eraseIdx k).toArray
   rw [List.eraseIdxIfInBounds_toArray]
 . have := Bw xs k
   omega
end L2
namespace Att
open PySem PySem.W PySem.Calls PyProof.Rows
theorem wU {P : Params} {h : Heap} : ∀ (ns : List Int) (vs : List Value), WellAll P h vs (ns.map WData.int) -> IntsAre vs ns := by
 intro ns
 induction ns with
 | nil =>
   intro vs w
   rw [List.map_nil] at w
   cases w
   exact .nil
 | cons n ns ih =>
   intro vs w
   rw [List.map_cons] at w
   cases w with
   | cons a b =>
     cases a
     exact .cons _ _ (ih _ b)
theorem Kf {l : OpenLaw} {n : Nat} (hn : l.most = some n) {P : Params} {h : Heap} {args : List WData} {vals : List Value}
   (RT : l.row.toRowW.claim.pre args = true) (hwl : WellAll P h vals args) :
   ∃ a vs ns, vals = [Value.ref a] /\ args = [WData.list (ns.map WData.int)] /\ h.get? a = some { cls := .type "list", data := .seq vs.toArray } /\ IntsAre vs ns /\ ns.length <= n := by
 have hsh : WShape.hasAll [] args [.list .int] = true := (pre_splitW RT).1
 have hc : l.pre.holds [] { args := args } = true := (pre_splitW RT).2
 obtain ⟨d, r, rfl, h1, h2⟩ := hasAllW_cons hsh
 obtain rfl := hasAllW_nil h2
 obtain ⟨xs, rfl, h3⟩ := hasW_list h1
 obtain ⟨ns, rfl⟩ := items_int h3
 have hlen : ns.length <= n := by
   unfold OpenLaw.pre at hc
   have h4 : (WTm.not (.lt (.lit (.int (n : Int))) (.len (.arg 0)))).holds [] { args := [.list (ns.map .int)] } = true := by
     have h4 := (holds_andW hc).1
     rw [hn] at h4
     exact h4
   have h5 := condW_of h4 (w_not (w_lt w_lit (w_len_list (w_arg rfl))))
   rw [List.length_map] at h5
   refine Nat.le_of_not_lt fun q => ?_
   have q' : (n : Int) < ((ns.length : Nat) : Int) := by omega
   first
     | (rw [decide_eq_true q'] at h5; exact absurd h5 (by decide))
     | (simp at h5; omega)
 cases hwl with
 | cons w1 w2 =>
   cases w2
   cases w1 with
   | list ho ady => exact ⟨_, _, ns, rfl, rfl, ho, wU ns _ ady, hlen⟩
theorem Kg (l : OpenLaw) (args : List WData) : l.row.toRowW.claim.post args (.bool true) args = true :=
 postW_of (r := l.row.toRowW) (X := (true == true))
   (show WShape.has [] (.bool true) .bool = true by first | rfl | decide | simp [WShape.has, WShape.arms, WShape.armsAll])
   (show (WTm.eq .res (.lit (.bool true))).value [] { args := args, res := some (.bool true), after := args } = some (.bool (true == true)) from w_eq_bool (w_res rfl) w_lit) rfl
theorem Ey {l : OpenLaw} {n : Nat} {q : Program} {loose : List Str} {XP : Q.p -> Heap -> Prop} {YP : World -> Heap -> Prop} {d : DefRec}
   (hn : l.most = some n) (hdf : d.params.defaults = [])
   (call : ∀ (w : World) (s₀ s₁ : Shared) (mg mb : Q.p) (fa : Addr) (o : Obj) (pm cd doc : Value) (a : Addr) (vs : List Value) (ns : List Int),
     Ground q loose [] XP w s₀ mg mb s₁.heap -> YP w s₁.heap →
     s₁.heap.get? fa = some o -> o.data = .func (docDef d.name d.params d.body d.scope pm cd doc) -> s₁.heap.CodeRec cd d.name -> mg d.name = some (.ref fa) →
     s₁.heap.get? a = some { cls := .type "list", data := .seq vs.toArray } -> IntsAre vs ns -> ns.length <= n -> s₁.gens = #[] →
     codeAny (model l.prog w) callerA (.call (.ref fa) ⟨[.ref a], []⟩) (fun r s' => r = .ok (.ret (.bool true)) /\ OldK s₁.heap s'.heap /\ s'.os = s₁.os /\ AllBare s'.gens) s₁) :
   WalkO q loose XP YP l.row.toRowW d [] (fun f vs => PySem.call f vs) := by
 intro w s₀ s₁ mg mb G Y fa o pm cd doc dV kV ho hd j3 hD W4 hg args vals as RT hlay hrd hwl hlo
 obtain rfl : dV = .none := Dflts.none hD hdf
 obtain rfl : kV = .none := Dflts.noKw hD
 obtain ⟨a, vs, ns, rfl, rfl, W5, hints, hlen⟩ := Kf hn RT hwl
 refine enter_call (codeAny_mono (call w s₀ s₁ mg mb fa o pm cd doc a vs ns G Y ho (fd_plain hd) j3 W4 W5 hints hlen hg) fun r s' hq => ?_)
 obtain ⟨rfl, h2, h3, h4⟩ := hq
 exact ⟨.inl ⟨.bool true, .bool true, [], rfl, fun _ => rfl, .bool true, Kg l _, fun _ => ⟨List.Pairwise.nil, fun _ hm => (nomatch hm)⟩⟩, h2, h3, h4⟩
def ledger (h : Heap) (L d : Addr) : List (Addr × Obj) := (List.range h.objs.size).filterMap fun a => if a = L \/ a = d then none else (h.get? a).map fun o => (a, o)
end Att
namespace L2
open PySem PySem.Spec PyProof.Rows
theorem By : ∀ {vs : List Value} {ns : List Int}, IntsAre vs ns -> Vals (ns.map V.int) vs
 | _, _, .nil => .nil
 | _, _, .cons n t h => .cons ⟨t, rfl⟩ (By h)
def Only (H : Hp) : Prop := ∀ b, H b = none \/ ∃ o xs, H b = some (.aZ o (.lst xs))
variable {P : Program} {w : World} {a : Addr} {x : Str}
theorem Ni {K : Q.h} {mg mb : Q.p} {CX : J9} {k : Nat} {fa : Addr} {fd : FuncData} {sp : Sp} {s₁ : Shared} {vs : List Value} {ns : List Int}
   (KX : K.In s₁.heap) (Gp : s₁.heap.Ns mainGlobals mg) (hb : s₁.heap.Ns builtinsNs mb) (hbb : ∀ x : Str, x ≠ "__name__" -> mb x = bootBuiltins x) (adz : s₁.heap.NoLimit) (hg : s₁.gens = #[])
   (ha : s₁.heap.get? a = some { cls := .type "list", data := .seq vs.toArray }) (hi : IntsAre vs ns) (hl : ns.length <= sizeLine) (hr : c6 k callerA)
   (F : ∀ base : Heap, K.In base -> base.Ns mainGlobals mg -> cJ P w K mg base CX k fa fd [x] sp) (aay : ∀ (s : Shared) (u : Value), BindsTo s fd ⟨[u], []⟩ [(x, u)])
   (M7 : ∀ H : Hp, Only H -> oB K H a (ns.map V.int) -> sp [.ref a] H (fun v _ => v = .bl true) fun _ _ _ => False)
   (hCX : ∀ H e s', CX [] H s₁ (fun _ _ _ => False) e s' -> False) :
   codeAny (model P w) callerA (.call (.ref fa) ⟨[.ref a], []⟩) (fun r s' => r = .ok (.ret (.bool true)) /\ OldK s₁.heap s'.heap /\ s'.os = s₁.os /\ AllBare s'.gens) s₁ := by
 have rv := By hi
 have adB := hi.length
 have core : ∀ H : Hp, Only H -> oB K H a (ns.map V.int) -> qV P w H s₁.heap -> (∀ b, H b ≠ none -> b = a) -> (H a ≠ none -> K.lookup a = none) →
     codeAny (model P w) callerA (.call (.ref fa) ⟨[.ref a], []⟩) (fun r s' => r = .ok (.ret (.bool true)) /\ OldK s₁.heap s'.heap /\ s'.os = s₁.os /\ AllBare s'.gens) s₁ := by
   intro H hO hS bY hA hK
   have IK : ∀ {b : Addr} {o : Obj}, s₁.heap.get? b = some o -> H b = none -> (B9 s₁.heap H).get? b = some o := fun e n => MA e n
   have noA : ∀ {b : Addr} {o : Obj} {es : Array DictEntry} {ep : Nat}, s₁.heap.get? b = some o -> o.data = .dict es ep -> H b = none := fun {b o es ep} e d => by
     cases q : H b with
     | none => rfl
     | some u =>
       have e' : b = a := hA b (by rw [q]; simp)
       subst e'
       rw [ha] at e; cases e
       have d' : Data.seq vs.toArray _ = Data.dict es ep := d
       cases d'
   have nsK : ∀ {b : Addr} {m : Q.p}, s₁.heap.Ns b m -> (B9 s₁.heap H).Ns b m := fun {b m} ⟨o, es, ep, e, d, r⟩ => ⟨o, es, ep, IK e (noA e d), d, r⟩
   have hKb : K.In (B9 s₁.heap H) := fun b o e => IK (KX b o e) (by
     cases q : H b with
     | none => rfl
     | some u =>
       have e' : b = a := hA b (by rw [q]; simp)
       subst e'
       rw [hK (by rw [q]; simp)] at e; cases e)
   have hM : Mod K mg (B9 s₁.heap H) := ⟨hKb, nsK Gp, ⟨mb, nsK hb, hbb⟩, let ⟨mc, h1, h2⟩ := adz; ⟨mc, nsK h1, h2⟩⟩
   have e0 : Az P w K mg (B9 s₁.heap H) callerA [] s₁ H := ⟨rfl, hM, fun b o e => Rq e, Nat.le_of_eq (JX _ _), trivial, fun b hb => absurd (show b ∈ ([] : List Addr) from hb) (by simp), bY, .of_eq hg⟩
   refine codeAny_mono ((F _ hKb (nsK Gp)).run callerA [] s₁ H ⟨[.ref a], []⟩ [.ref a] [.ref a] _ _ hr e0 (aay s₁ (.ref a)) (.cons rfl .nil) (M7 H hO hS)) fun r s' h => ?_
   cases r with
   | error e => exact (hCX H e s' h).elim
   | ok fl =>
     cases fl with
     | next => exact False.elim h
     | brk => exact False.elim h
     | cont => exact False.elim h
     | ret u =>
       obtain ⟨v, H', os, bare, un, adC, r', q⟩ := h
       have q' : v = .bl true := q
       subst q'
       obtain rfl : u = Value.bool true := r'
       refine ⟨rfl, OldK.of_keep fun b o e => ?_, os, bare⟩
       cases q : H b with
       | none => exact un.keep b o e q (by intro z; exact absurd (show b ∈ ([] : List Addr) from z) (by simp)) (by simp)
       | some u =>
         rcases hO b with z | ⟨ob, xs, z⟩
         . rw [q] at z; cases z
         . have z2 := un.c5 b ob _ z
           obtain ⟨e1, _⟩ := bY b _ z
           obtain ⟨e2, _⟩ := adC b _ z2
           rw [e] at e1; cases e1
           exact e2
 cases hk : K.lookup a with
 | some o =>
   have e := KX a o hk
   rw [ha] at e
   cases e
   refine core (fun _ => none) (fun _ => .inl rfl) (.inr ⟨_, vs.toArray, _, hk, rfl, rfl, rfl, by rw [List.size_toArray, adB]; exact hl, by simpa using rv⟩) (fun b u z => by have z' : (none : Option HO) = some u := z; cases z') (fun b z => absurd rfl z) fun z => absurd rfl z
 | none =>
   refine core (fun b => if b = a then some (.aZ { cls := .type "list", data := .seq vs.toArray } (.lst (ns.map V.int))) else none) (fun b => ?_) (.inl (.inr ⟨{ cls := .type "list", data := .seq vs.toArray }, ahN rfl⟩)) (fun b u z => ?_) (fun b z => ?_) fun _ => hk
   . by_cases hb : b = a
     . exact .inr ⟨_, _, ahN hb⟩
     . exact .inl (ahC hb)
   . by_cases hb : b = a
     . have z' := (ahN hb).symm.trans z
       cases z'
       subst hb
       exact ⟨ha, by rw [ahx]; exact hl, vs, _, rv, ha⟩
     . have z' := (ahC hb).symm.trans z
       cases z'
   . by_cases hb : b = a
     . exact hb
     . exact absurd (ahC hb) z
theorem RV {l : PySem.W.OpenLaw} {n k : Nat} {q : Program} {loose : List Str} {XP : Q.p -> Heap -> Prop} {YP : World -> Heap -> Prop} {d : DefRec} {K : Params -> PySem.W.Frag} {CX : World -> J9} {sp : World -> Sp}
   (hn : l.most = some n) (Zm : n <= sizeLine) (hdf : d.params.defaults = []) (hr : c6 k callerA)
   (hY : ∀ (w : World) (h : Heap), YP w h -> (K w.params).In h)
   (F : ∀ (w : World) (mg : Q.p) (fa : Addr) (h : Heap), (K w.params).In h -> h.Ns mainGlobals mg -> mg d.name = some (.ref fa) →
     ∃ fd : FuncData, (∀ (s : Shared) (u : Value), BindsTo s fd ⟨[u], []⟩ [(x, u)]) ∧
       ∀ base : Heap, (K w.params).In base -> base.Ns mainGlobals mg -> cJ l.prog w (K w.params) mg base (CX w) k fa fd [x] (sp w))
   (M7 : ∀ (w : World) (H : Hp) (a : Addr) (ns : List Int), ns.length <= n -> Only H -> oB (K w.params) H a (ns.map V.int) -> sp w [.ref a] H (fun v _ => v = .bl true) fun _ _ _ => False)
   (hCX : ∀ (w : World) (H : Hp) (s : Shared) (e : Value) (s' : Shared), CX w [] H s (fun _ _ _ => False) e s' -> False) :
   PySem.W.WalkO q loose XP YP l.row.toRowW d [] (fun f vs => PySem.call f vs) := by
 refine Att.Ey hn hdf fun w s₀ s₁ mg mb fa o pm cd doc a vs ns G Y ho hd j3 W4 W5 hints hlen hg => ?_
 have KX := hY w _ Y
 obtain ⟨fd, hb, hF⟩ := F w mg fa _ KX G.T.g W4
 exact Ni KX G.T.g G.T.b G.T.builtins G.T.nolimit hg W5 hints (ain hlen Zm) hr hF hb (fun H hO hS => M7 w H a ns hlen hO hS) fun H e s' => hCX w H s₁ e s'
def inClass (s : Stmt) (j : Nat) : Stmt := match s with
 | .ClassDef _ _ _ body _ _ _ _ _ _ _ => body.getD j (.Pass ⟨0, 0, 0, 0⟩)
 | _ => .Pass ⟨0, 0, 0, 0⟩
def tW (s : Stmt) : Arguments := match s with
 | .FunctionDef _ a _ _ _ _ _ _ _ _ => a
 | _ => { posonlyargs := [], args := [], vararg := none, kwonlyargs := [], kw_defaults := [], kwarg := none, defaults := [] }
def b9 (s : Stmt) : List Stmt := match s with
 | .FunctionDef _ _ b _ _ _ _ _ _ _ => b
 | _ => []
def ak (s : Stmt) : Scope := match s with
 | .FunctionDef _ _ _ _ _ _ sc _ _ _ => sc
 | _ => { kind := .function, names := [], isGenerator := false, isCoroutine := false }
abbrev lu : J9 := fun _ _ _ _ _ _ => False
abbrev E0 : XK := fun _ _ _ => False
variable {X : Cx}
theorem qh : Passes lu X E0 := fun _ _ _ _ _ _ _ h => h.elim
structure nG (K : Q.h) (x qual : Str) (st : Stmt) (f : Addr) (fd : FuncData) : Prop where
 ex : ∃ (oc : Value) (od : Option Addr) (kV doc pm : Value) (an : Option Addr) (gn ct : Value) (Rf : Array (Option Value)),
   fd = PySem.W.fnOf x qual (tW st) (b9 st) (ak st) .none kV doc pm an gn ct /\ K.lookup f = some ⟨oc, od, .func fd, Rf⟩ /\ PySem.W.codeIn K gn qual = true
 kp : PySem.W.keepIn K (.ref f) = true
variable {K : Q.h} {mg : Q.p} {base : Heap}
theorem nG.ok {qual : Str} {st : Stmt} {f : Addr} {fd : FuncData} {N ps : List Str} {k : Nat} {sp : Sp} (F : nG K x qual st f fd) (S : aP N ps (ak st)) (len : ∀ vs H Q E, sp vs H Q E -> vs.length = ps.length)
   (M6 : ∀ (gn : Value) (A : Around) (outer : List Env) (s : Shared) (H : Hp) (vs : List V) (Q : VK) (E : XK), c6 k (A.deeper (envOfC qual (ak st) s.heap.objs.size f gn)) -> sp vs H Q E →
     ∃ t, Iv (ve lu P w K mg base N qual (ak st) f gn A outer s H E).Rw (b9 st) t /\ t { nx := fun _ H' => Q .non H', rt := Q } (start N vs) H) : cJ P w K mg base lu (k + 1) f fd ps sp := by
 obtain ⟨oc, od, kV, doc, pm, an, gn, ct, Rf, rfl, lk, j3⟩ := F.ex
 refine Vx lk j3 S len fun A outer s H vs Q E hr M7 => ?_
 obtain ⟨t, h, q⟩ := M6 gn A outer s H vs Q E hr M7
 exact ⟨t, h.Rw, q⟩
theorem nG.binds {qual : Str} {st : Stmt} {f : Addr} {fd : FuncData} {ps : List Str} (F : nG K x qual st f fd)
   (h : ∀ (kV doc pm : Value) (an : Option Addr) (gn ct : Value) (us : List Value), us.length = ps.length -> bindArgs (PySem.W.fnOf x qual (tW st) (b9 st) (ak st) .none kV doc pm an gn ct) ⟨us, []⟩ = pure (ps.zip us)) : Binds K fd ps [] := by
 obtain ⟨oc, od, kV, doc, pm, an, gn, ct, Rf, rfl, lk, j3⟩ := F.ex
 exact .all (h kV doc pm an gn ct)
theorem bV {qual : Str} {st : Stmt} {f : Addr} {oc : Value} {od an : Option Addr} {Rf : Array (Option Value)} {kV doc pm gn ct : Value} (l : K.lookup f = some ⟨oc, od, .func (PySem.W.fnOf x qual (tW st) (b9 st) (ak st) .none kV doc pm an gn ct), Rf⟩)
   (c : PySem.W.codeIn K gn qual = true) (k : PySem.W.keepIn K (.ref f) = true) : nG K x qual st f (PySem.W.fnOf x qual (tW st) (b9 st) (ak st) .none kV doc pm an gn ct) := ⟨⟨oc, od, kV, doc, pm, an, gn, ct, Rf, rfl, l, c⟩, k⟩
theorem jl {n : Nat} (h : n <= 1000) : n < sizeLine := aiD h Q.b
theorem Nj {A B : Prop} (h : B) : if false = true then A else B := by
 rw [ahC ahI]
 exact h
theorem Nk {A B : Prop} (h : A) : if true = true then A else B := by
 rw [ahN rfl]
 exact h
def aB (H H' : Hp) : Prop := ∀ b o, H b = some o -> H' b = some o
theorem aB.refl (H : Hp) : aB H H := fun _ _ h => h
variable {H : Hp}
theorem aB.trans {H1 H2 : Hp} (a : aB H H1) (b : aB H1 H2) : aB H H2 := fun c o h => b c o (a c o h)
variable {H' : Hp}
theorem aB.free (e : aB H H') {l : Addr} (h : H' l = Option.none) : H l = Option.none := by
 cases q : H l with
 | none => rfl
 | some o =>
   rw [e l o q] at h
   cases h
theorem aB.seq {xs : List V} (e : aB H H') (h : oB K H a xs) : oB K H' a xs := by
 rcases h with (h | ⟨o, h⟩) | h
 . exact .inl (.inl (e _ _ h))
 . exact .inl (.inr ⟨o, e _ _ h⟩)
 . exact .inr h
section
variable {κ : Type} [DecidableEq κ]
def ly (kvs : List (κ × V)) (k : κ) : Option V := (kvs.find? fun kv => decide (kv.1 = k)).map (·.2)
def putK (kvs : List (κ × V)) (k : κ) (v : V) : List (κ × V) :=
 if (kvs.any fun kv => decide (kv.1 = k)) = true then kvs.map (fun kv => if kv.1 = k then (kv.1, v) else kv) else kvs ++ [(k, v)]
theorem qi {p : κ × V} {r : List (κ × V)} {k : κ} (e : p.1 = k) : ly (p :: r) k = some p.2 := by simp [ly, aiR, e]
theorem qj {p : κ × V} {r : List (κ × V)} {k : κ} (e : ¬ p.1 = k) : ly (p :: r) k = ly r k := by simp [ly, aiR, e]
theorem tX (k : κ) : ∀ kvs : List (κ × V), (kvs.any fun kv => decide (kv.1 = k)) = (ly kvs k).isSome
 | [] => rfl
 | p :: r => by
   rw [aju]
   by_cases e : p.1 = k
   . simp only [qi e, aim e, Bool.true_or, Option.isSome_some]
   . rw [qj e, aiM e, Bool.false_or]; exact tX k r
theorem wG (kvs : List (κ × V)) (k : κ) (v : V) : (putK kvs k v).length <= kvs.length + 1 := by
 unfold putK
 split
 . rw [ahx]; omega
 . rw [ahL, ahY, List.length_nil]; omega
theorem Nm {kvs : List (κ × V)} {k : κ} (v : V) (h : ly kvs k = none) : putK kvs k v = kvs ++ [(k, v)] := by
 unfold putK
 rw [tX, h]
 exact ahC Q.b
theorem pY.Kh {o : Option V} {u : Option Value} (r : pY o u) : o.isSome = u.isSome := by
 cases o with
 | none => cases u with
   | none => rfl
   | some _ => exact (show False from r).elim
 | some _ => cases u with
   | none => exact (show False from r).elim
   | some _ => rfl
theorem pY.getD {o : Option V} {u : Option Value} {d : V} {d' : Value} (r : pY o u) (rd : RelV d d') : RelV (o.getD d) (u.getD d') := by
 cases o with
 | none => cases u with
   | none => exact rd
   | some _ => exact (show False from r).elim
 | some _ => cases u with
   | none => exact (show False from r).elim
   | some _ => exact r
theorem KV.val {kvs : List (κ × V)} {vs : List (κ × Value)} (r : KV kvs vs) (k : κ) : pY (ly kvs k) (valueAt vs k) := by
 unfold KV at r
 induction r with
 | nil => exact True.intro
 | @cons p q ps qs h t ih =>
   obtain ⟨h1, h2⟩ := h
   by_cases e : p.1 = k
   . have e' : q.1 = k := h1.symm.trans e
     have b : valueAt (q :: qs) k = some q.2 := by simp [valueAt, aiR, e']
     rw [qi e, b]; exact h2
   . have e' : ¬ q.1 = k := fun z => e (h1.trans z)
     have b : valueAt (q :: qs) k = valueAt qs k := by simp [valueAt, aiR, e']
     rw [qj e, b]; exact ih
theorem KV.any {kvs : List (κ × V)} {vs : List (κ × Value)} (r : KV kvs vs) (k : κ) : (kvs.any fun kv => decide (kv.1 = k)) = vs.any fun kv => decide (kv.1 = k) := by
 unfold KV at r
 induction r with
 | nil => rfl
 | cons h t ih => rw [aju, aju, ih, h.1]
theorem KV.repl {kvs : List (κ × V)} {vs : List (κ × Value)} (r : KV kvs vs) (k : κ) {y : V} {u : Value} (ry : RelV y u) :
   KV (kvs.map fun kv => if kv.1 = k then (kv.1, y) else kv) (vs.map fun kv => if kv.1 = k then (kv.1, u) else kv) := by
 unfold KV at r ⊢
 induction r with
 | nil => exact .nil
 | @cons p q ps qs h t ih =>
   rw [ahO, ahO]
   refine .cons ?_ ih
   obtain ⟨h1, h2⟩ := h
   by_cases e : p.1 = k
   . rw [ahN e, ahN (h1.symm.trans e)]; exact ⟨h1, ry⟩
   . rw [ahC e, ahC (fun z => e (h1.trans z))]; exact ⟨h1, h2⟩
theorem KV.put {kvs : List (κ × V)} {vs : List (κ × Value)} (r : KV kvs vs) (k : κ) {y : V} {u : Value} (ry : RelV y u) : KV (putK kvs k y) (stored vs k u) := by
 unfold putK stored
 rw [r.any k]
 by_cases e : (vs.any fun kv => decide (kv.1 = k)) = true
 . rw [ahN e, ahN e]; exact r.repl k ry
 . rw [ahC e, ahC e]; exact Paired.snoc r ⟨rfl, ry⟩
theorem KV.length {kvs : List (κ × V)} {vs : List (κ × Value)} (r : KV kvs vs) : kvs.length = vs.length := ajt r
end
variable {u : Value}
theorem Nn {k : Key} (r : RelV (kV k) u) : (eW P w).is k u = true := by
 cases k with
 | inl i => obtain ⟨t, e⟩ := (show ∃ t, u = Value.int i t from r); subst e; exact Ei P w i t
 | inr x => obtain ⟨t, e⟩ := (show ∃ t, u = Value.str x t from r); subst e; exact Ej P w x t
theorem BD {P : Program} {w : World} : ∀ {ks : List Key} {us : List Value}, Vals (ks.map kV) us -> ItemsAre (eW P w) ks us
 | [], _, r => by rw [ai0] at r; cases r; exact .nil
 | k :: ks, _, r => by
   rw [ahO] at r
   cases r with
   | cons h t => exact .cons (Nn h) (BD t)
abbrev KT (H : Hp) : List (List Key × V) -> List (List Key × Addr × Value) -> Prop := Paired fun p q => p.1 = q.1 /\ H q.2.1 = some (.tup (p.1.map kV)) /\ RelV p.2 q.2.2
variable {kvs : List (List Key × V)} {xs : List (List Key × Addr × Value)}
theorem KT.val (r : KT H kvs xs) (k : List Key) : pY (ly kvs k) ((atKey xs k).map (·.2)) := by
 induction r with
 | nil => exact True.intro
 | @cons p q ps qs h t ih =>
   obtain ⟨h1, _, h2⟩ := h
   by_cases e : p.1 = k
   . have e' : q.1 = k := h1.symm.trans e
     have b : atKey (q :: qs) k = some q.2 := by simp [atKey, aiR, e']
     rw [qi e, b]; exact h2
   . have e' : ¬ q.1 = k := fun z => e (h1.trans z)
     have b : atKey (q :: qs) k = atKey qs k := by simp [atKey, aiR, e']
     rw [qj e, b]; exact ih
variable {y : V}
theorem KT.repl (r : KT H kvs xs) (k : List Key) (ry : RelV y u) :
   KT H (kvs.map fun kv => if kv.1 = k then (kv.1, y) else kv) (xs.map (putAt k u)) := by
 induction r with
 | nil => exact .nil
 | @cons p q ps qs h t ih =>
   rw [ahO, ahO]
   refine .cons ?_ ih
   obtain ⟨h1, h2, h3⟩ := h
   unfold putAt
   by_cases e : p.1 = k
   . rw [ahN e, ahN (h1.symm.trans e)]; exact ⟨h1, h2, ry⟩
   . rw [ahC e, ahC (fun z => e (h1.trans z))]; exact ⟨h1, h2, h3⟩
theorem KT.put (r : KT H kvs xs) (k : List Key) {b : Addr} (hb : H b = some (.tup (k.map kV))) (ry : RelV y u) :
   KT H (putK kvs k y) (storedH xs k b u) := by
 have e : (kvs.any fun kv => decide (kv.1 = k)) = (atKey xs k).isSome := by
   rw [tX, (r.val k).Kh, Option.isSome_map]
 unfold putK storedH
 rw [e]
 by_cases q : (atKey xs k).isSome = true
 . rw [ahN q, ahN q]; exact r.repl k ry
 . rw [ahC q, ahC q]; exact Paired.snoc r ⟨rfl, hb, ry⟩
theorem KT.keeps (r : KT H kvs xs) (ht : ∀ b ys, H b = some (.tup ys) -> H' b = some (.tup ys)) : KT H' kvs xs :=
 Paired.Wd r fun _ _ z => ⟨z.1, ht _ _ z.2.1, z.2.2⟩
variable {h : Heap}
theorem Vy {u : HO} (ok : qV P w H h) (e : Rd H a u) : dD P w H h a u := e.ok ok
theorem Np {kvs : List (Key × V)} (ok : qV P w H h) (e : Rd H a (.dK kvs)) : kvs.length <= sizeLine /\ (a == sysModules) = false /\ ∃ vs, KV kvs vs /\ h.DictOf (eW P w) a vs :=
 show dD P w H h a (.dK kvs) from Vy ok e
theorem aaz {kvs : List (Key × V)} (ok : qV P w H h) (e : H a = some (.dK kvs)) : kvs.length <= sizeLine /\ (a == sysModules) = false /\ ∃ vs, KV kvs vs /\ h.DictOf (eW P w) a vs := Np ok (.inl e)
theorem Gq {ks : List Key} (ok : qV P w H h) (e : H a = some (.tup (ks.map kV))) : (tupleKind (eW P w)).is h ks a := by
 obtain ⟨_, its, r, o, h1, h2, n, h3⟩ := (show dD P w H h a (.tup (ks.map kV)) from ok a _ e)
 exact ⟨o, its.toArray, n, h1, h2, h3, by simpa using BD r⟩
theorem BE (ok : qV P w H h) (e : Rd H a (.dT kvs)) : kvs.length <= sizeLine /\ (a == sysModules) = false ∧
   ∃ xs, KT H kvs xs /\ h.DictOfH (tupleKind (eW P w)) a xs := by
 obtain ⟨z, y, xs, r, o, es, ep, h1, h2, h3, h4, h5⟩ := (show dD P w H h a (.dT kvs) from Vy ok e)
 refine ⟨z, y, xs, r, o, es, ep, h1, h2, h3, h4, fun x hx => ?_, h5⟩
 have all : ∀ {l : List (List Key × V)} {m : List (List Key × Addr × Value)}, KT H l m -> ∀ x ∈ m, (tupleKind (eW P w)).is h x.1 x.2.1 := by
   intro l m q
   induction q with
   | nil => intro x hx; exact nomatch hx
   | @cons p q ps qs hq t ih =>
     intro x hx
     rcases ahH.mp hx with e | hx
     . subst e
       exact Gq ok (by rw [← hq.1]; exact hq.2.1)
     . exact ih x hx
 exact all r x hx
theorem aaA (ok : qV P w H h) (e : H a = some (.dT kvs)) : kvs.length <= sizeLine /\ (a == sysModules) = false ∧
   ∃ xs, KT H kvs xs /\ h.DictOfH (tupleKind (eW P w)) a xs := BE ok (.inl e)
def Gr (H : Hp) (a : Addr) (y : V) (r : Option V) : Prop :=
 (∃ kvs k, Rd H a (.dK kvs) /\ y = kV k /\ r = ly kvs k) \/ ∃ kvs k b, Rd H a (.dT kvs) /\ y = .ref b /\ H b = some (.tup (k.map kV)) /\ r = ly kvs k
def Kl (H : Hp) (a : Addr) (y v : V) (H' : Hp) : Prop :=
 (∃ kvs k, H a = some (.dK kvs) /\ y = kV k /\ kvs.length < sizeLine /\ H' = upd H a (.dK (putK kvs k v))) ∨
 ∃ kvs k b, H a = some (.dT kvs) /\ y = .ref b /\ H b = some (.tup (k.map kV)) /\ kvs.length < sizeLine /\ H' = upd H a (.dT (putK kvs k v))
theorem Kl.t {b : Addr} {k : List Key} {v : V} (e : H a = some (.dT kvs)) (eb : H b = some (.tup (k.map kV))) (hl : kvs.length < sizeLine) :
   Kl H a (.ref b) v (upd H a (.dT (putK kvs k v))) := .inr ⟨kvs, k, b, e, rfl, eb, hl, rfl⟩
variable {pins : Q.i} {σ : St} {s : Shared} {v : V} {r : Value} {o : Option V} {A : Around} {E : Q.l}
theorem Inv.big (I : Q.g) : sysModules < s.heap.objs.size := by
 have h : mainGlobals < s.heap.objs.size := (I.mod.glob.keeps I.bk).lt
 exact Nat.lt_trans Q.b h
theorem Km {Q : Q.l} (hu : A.units + 1 < cLine) (I : Q.g) (g : Gr H a y (some v)) (ry : RelV y u) (h : ∀ w' s', Inv X pins σ H s' -> RelV v w' -> Q w' s') :
   wpAny Q.d A (getItem (.ref a) u) Q E s := by
 rcases g with ⟨kvs, k, e, ey, l⟩ | ⟨kvs, k, b, e, ey, eb, l⟩
 . subst ey
   obtain ⟨z, hd, vs, rel, dd⟩ := Np I.bY e
   obtain ⟨w', hw, Gk⟩ := pY.some_of (v := v) (o := valueAt vs k) (by rw [l]; exact rel.val k)
   exact wpAny_getItem_of (Nn ry) dd.mapOf hw (h w' _ (I.tok _) Gk)
 . subst ey
   cases (show u = Value.ref b from ry)
   obtain ⟨z, hd, xs, rel, dd⟩ := BE I.bY e
   obtain ⟨w', hw, Gk⟩ := pY.some_of (v := v) (o := (atKey xs k).map (·.2)) (by rw [l]; exact rel.val k)
   obtain ⟨p, hp, hp2⟩ := aif.mp hw
   refine wpAny_getItem_heap (tupleKind_room_in1 hu) (Gq I.bY eb) dd hp ?_
   rw [hp2]
   exact h w' _ (I.tok _) Gk
theorem IL {h' : Heap} {t' : Nat} {ob : HO} (I : Q.g) (mu : ZQ (H a)) (hs : Heap.SameBut a s.heap h') (he : ∃ q, h'.get? a = some q) (new : dD X.prog X.w (upd H a ob) h' a ob) :
   Inv X pins σ (upd H a ob) { s with heap := h', toks := t' } :=
 I.write (x := a) (e := a) mu (.inl rfl) (fun b q hb z => (hs.2 b hb).trans z) he new
theorem W6 {h' : Heap} {kvs : List (Key × V)} {vs : List (Key × Value)} (z : kvs.length <= sizeLine) (hd : (a == sysModules) = false) (rel : KV kvs vs) (dd : h'.DictOf (eW P w) a vs) :
   dD P w H' h' a (.dK kvs) := ⟨z, hd, vs, rel, dd⟩
theorem Kn {Q : Unit -> Shared -> Prop} (hu : A.units + 1 < cLine) (I : Q.g) (g : Kl H a y v H') (ry : RelV y u) (rv : RelV v r) (h : ∀ s', Inv X pins σ H' s' -> Q () s') :
   wpAny Q.d A (setItem (.ref a) u r) Q E s := by
 rcases g with ⟨kvs, k, e, ey, l, eH⟩ | ⟨kvs, k, b, e, ey, eb, l, eH⟩
 . subst ey eH
   obtain ⟨z, hd, vs, rel, dd⟩ := aaz I.bY e
   have hz : vs.length <= sizeLine := by rw [← rel.length]; exact z
   have hl : (putK kvs k v).length <= sizeLine := by have := wG kvs k v; omega
   refine wpAny_setItem_pairs (hsz := hz) (Nn ry) dd fun h' Zo hs => h _ ?_
   have he : ∃ q, h'.get? a = some q := let ⟨q, _, _, hq, _⟩ := Zo; ⟨q, hq⟩
   exact IL I (by rw [e]; exact True.intro) hs he (W6 hl hd (rel.put k rv) Zo)
 . subst ey eH
   cases (show u = Value.ref b from ry)
   obtain ⟨z, hd, xs, rel, dd⟩ := aaA I.bY e
   have hz : xs.length <= sizeLine := by rw [← ajt rel]; exact z
   have hl : (putK kvs k v).length <= sizeLine := by have := wG kvs k v; omega
   refine wpAny_setItem_heap (hsz := hz) (tupleKind_room_in1 hu) (Gq I.bY eb) dd fun h' Zo hs => h _ ?_
   obtain ⟨q, es, ep, hq, h2, h3, h4, _, h5⟩ := Zo
   refine IL I (by rw [e]; exact True.intro) hs ⟨q, hq⟩ ⟨hl, hd, _, (rel.put k eb rv).keeps fun c ys ec => ?_, q, es, ep, hq, h2, h3, h4, h5⟩
   rw [aj (ZP ec e (fun z => nomatch z))]
   exact ec
def RW (i : Expr) : Prop := ∀ ov iv, subscripted i false ov iv = operate [ov, iv] (getItem ov iv)
theorem RX {prog : Program} {env : Env} {value slice : Expr} {pos : Pos} {T id : String} {Q : Q.l}
   (hl : typeLookup (.type T) "__getitem__" = pure (some (.builtin id))) (hs : RW slice)
   (h : wpAny (model prog w) A (eval value env) (fun o s₁ => wpAny (model prog w) A (eval slice env) (fun i s₂ => s₂.TypeIs o T /\ wpAny (model prog w) A (getItem o i) Q E s₂) E s₁) E s) :
   wpAny (model prog w) A (eval (.Subscript value slice pos) env) Q E s := by
 refine Subscript_ (aik h (fun o s₁ h₁ => aik h₁ (fun i s₂ h₂ => ?_) fun _ _ x => x) fun _ _ x => x)
 obtain ⟨hT, h₂⟩ := h₂
 unfold subscriptTail
 refine aht ?_
 rw [getitemInPython_of_ne hT.not_modules]
 refine aht (wpAny_specialOf hT hl ?_)
 have fin : wpAny (model prog w) A (subscripted slice false o i) (fun r s₃ => wpAny (model prog w) A (letTemporaryGo value o r >>= fun _ => pure r) Q E s₃) E s₂ := by
   rw [hs o i]
   exact wpAny_operating (aik h₂ (fun r s₃ h₃ => aht (wpAny_letTemporaryGo (ahF h₃))) fun _ _ x => x)
 first
   | exact ahF (aht fin)
   | exact aht (ahF (aht fin))
   | exact aht fin
theorem Ez (I : Q.g) (g : Gr H a y o) : s.TypeIs (.ref a) "dict" := by
 rcases g with ⟨kvs, k, e, _, _⟩ | ⟨kvs, k, b, e, _, _, _⟩
 . obtain ⟨_, _, vs, _, dd⟩ := Np I.bY e
   exact dd.typeIs
 . obtain ⟨_, _, xs, _, dd⟩ := BE I.bY e
   exact dd.typeIs
def aaB (td ty : TE) : TE := fun σ H Q => td σ H fun x H1 => ty σ H1 fun y H2 => ∃ a v, x = .ref a /\ Gr H2 a y (some v) /\ Q v H2
def aaC (td ty tv : TE) : TS := fun D σ H => tv σ H fun v H1 => td σ H1 fun x H2 => ty σ H2 fun y H3 => ∃ a H4, x = .ref a /\ Kl H3 a y v H4 /\ D.nx σ H4
variable {o i value : Expr} {pos pos' : Pos} {td ty tv : TE}
theorem IQ (hu : X.A.units + 1 < cLine) (ho : PE X o td) (hi : PE X i ty) (hs : RW i) : PE X (.Subscript o i pos) (aaB td ty) := by
 intro pins s σ H Q I h
 refine RX PySem.F.slot_dict_getitem.lookup hs (di (ho pins s σ H _ I h) fun u s1 ⟨x, H1, I1, rx, q1⟩ => di (hi pins s1 σ H1 _ I1 q1) fun iv s2 zz => ?_)
 obtain ⟨y, H2, I2, ry, a, v, ex, g, q2⟩ := zz
 subst ex
 obtain rfl : u = Value.ref a := rx
 exact ⟨Ez I2 g, Km hu I2 g ry fun w' s3 I3 Gk => ⟨v, H2, I3, Gk, q2⟩⟩
theorem IU (hu : X.A.units + 1 < cLine) (ho : PE X o td) (hi : PE X i ty) (hv : PE X value tv) (hs : swapsWith value (some (.Subscript o i pos')) pos.line X.env = pure false) :
   PS X (.Assign [.Subscript o i pos'] value pos) (aaC td ty tv) := by
 intro pins s σ H D I h
 refine wpAny_Assign_Subscript (di (hv pins s σ H _ I h) fun r s1 ⟨v, H1, I1, rv, q1⟩ => di (ho pins s1 σ H1 _ I1 q1) fun u s2 ⟨x, H2, I2, rx, q2⟩ => di (hi pins s2 σ H2 _ I2 q2) fun iv s3 zz => ?_) hs
 obtain ⟨y, H3, I3, ry, a, H4, ex, g, q3⟩ := zz
 subst ex
 obtain rfl : u = Value.ref a := rx
 exact Kn hu I3 g ry rv fun s4 I4 => ⟨σ, H4, I4, q3⟩
theorem Nq (h : Heap) (hb : sysModules < h.objs.size) : dD P w H (h.push { cls := .type "dict", data := .dict #[] }) h.objs.size (.dT []) :=
 ⟨ah8 _, ai9.mpr (ajv (aid hb)), [], .nil, _, #[], 0, ahU _ rfl, ⟨rfl, rfl, rfl⟩, rfl, rfl, aiZ⟩
def W7 : TE := fun _ H Q => ∀ p, H p = none -> Q (.ref p) (upd H p (.dT []))
theorem Nr : PE X (.Dict [] [] pos) W7 := fun pins s σ H Q I h =>
 wpAny_Dict_empty ⟨.ref s.heap.objs.size, _, I.laid (a := s.heap.objs.size) (o := .dT []) (t' := s.toks) (fun _ _ q => ahE _ q) (ahG _) (Nq s.heap I.big), rfl, h _ (I.bY.fresh (ahG _))⟩
end L2
namespace L3
open PySem PySem.Spec PyProof.Rows L2
inductive D where
 | non | bl (b : Bool) | int (i : Int) | str (x : Str)
 | tup (ds : List D) | lst (ds : List D) | ins (c : Str) (fs : List (Str × D)) | q8 (kvs : List (Key × D))
 | dct (kvs : List (List Key × D))
 | any
 | val (v : V)
inductive T where
 | sh (d : D) | tup (ts : List T) | lst (ts : List T) | ins (c : Str) (fs : List (Str × T)) | q8 (kvs : List (Key × D)) | dct (kvs : List (List Key × T))
 | pin (x : Addr) (t : T)
mutual
def T.aZ : T -> D
 | .sh d => d
 | .tup ts => .tup (c5 ts)
 | .lst ts => .lst (c5 ts)
 | .ins c fs => .ins c (mj fs)
 | .q8 kvs => .q8 kvs
 | .dct kvs => .dct (tY kvs)
 | .pin _ t => t.aZ
def T.c5 : List T -> List D
 | [] => []
 | t :: ts => t.aZ :: T.c5 ts
def T.mj : List (Str × T) -> List (Str × D)
 | [] => []
 | (x, t) :: fs => (x, t.aZ) :: T.mj fs
def T.tY : List (List Key × T) -> List (List Key × D)
 | [] => []
 | (x, t) :: fs => (x, t.aZ) :: T.tY fs
end
variable (K : Q.h) (CL : Q.e)
mutual
inductive bf (Z : Hp) : D -> V -> Prop where
 | non : bf Z .non .non
 | bl (b : Bool) : bf Z (.bl b) (.bl b)
 | int (i : Int) : bf Z (.int i) (.int i)
 | str (x : Str) : bf Z (.str x) (.str x)
 | any (v : V) : bf Z .any v
 | val (v : V) : bf Z (.val v) v
 | tup {a : Addr} {vs : List V} {ds : List D} : sO K Z a vs -> aI Z ds vs -> bf Z (.tup ds) (.ref a)
 | lst {a : Addr} {vs : List V} {ds : List D} : oB K Z a vs -> aI Z ds vs -> bf Z (.lst ds) (.ref a)
 | ins {a dx : Addr} {c : Str} {gs : List (Str × V)} {fs : List (Str × D)} : Z a = some (.ins (CL c) dx gs) -> gH Z fs gs -> bf Z (.ins c fs) (.ref a)
 | q8 {a : Addr} {gs : List (Key × V)} {fs : List (Key × D)} : Z a = some (.dK gs) -> cA Z fs gs -> bf Z (.q8 fs) (.ref a)
 | dct {a : Addr} {gs : List (List Key × V)} {fs : List (List Key × D)} : Rd Z a (.dT gs) -> cD Z fs gs -> bf Z (.dct fs) (.ref a)
inductive aI (Z : Hp) : List D -> List V -> Prop where
 | nil : aI Z [] []
 | cons {d : D} {v : V} {ds : List D} {vs : List V} : bf Z d v -> aI Z ds vs -> aI Z (d :: ds) (v :: vs)
inductive gH (Z : Hp) : List (Str × D) -> List (Str × V) -> Prop where
 | nil : gH Z [] []
 | cons {x : Str} {d : D} {v : V} {ds : List (Str × D)} {vs : List (Str × V)} : bf Z d v -> gH Z ds vs -> gH Z ((x, d) :: ds) ((x, v) :: vs)
inductive cA (Z : Hp) : List (Key × D) -> List (Key × V) -> Prop where
 | nil : cA Z [] []
 | cons {x : Key} {d : D} {v : V} {ds : List (Key × D)} {vs : List (Key × V)} : bf Z d v -> cA Z ds vs -> cA Z ((x, d) :: ds) ((x, v) :: vs)
inductive cD (Z : Hp) : List (List Key × D) -> List (List Key × V) -> Prop where
 | nil : cD Z [] []
 | cons {x : List Key} {d : D} {v : V} {ds : List (List Key × D)} {vs : List (List Key × V)} : bf Z d v -> cD Z ds vs -> cD Z ((x, d) :: ds) ((x, v) :: vs)
end
mutual
inductive aU (H Z : Hp) : T -> V -> List Addr -> Prop where
 | sh {d : D} {v : V} : bf K CL Z d v -> aU H Z (.sh d) v []
 | tup {a : Addr} {vs : List V} {ts : List T} {fp : List Addr} : Z a = some (.tup vs) -> aD H Z ts vs fp -> aU H Z (.tup ts) (.ref a) fp
 | lst {a : Addr} {vs : List V} {ts : List T} {fp : List Addr} : H a = some (.lst vs) -> aD H Z ts vs fp -> aU H Z (.lst ts) (.ref a) (a :: fp)
 | ins {a dx : Addr} {c : Str} {gs : List (Str × V)} {fs : List (Str × T)} {fp : List Addr} : H a = some (.ins (CL c) dx gs) -> cT H Z fs gs fp -> aU H Z (.ins c fs) (.ref a) (a :: fp)
 | q8 {a : Addr} {gs : List (Key × V)} {kvs : List (Key × D)} : H a = some (.dK gs) -> cA K CL Z kvs gs -> aU H Z (.q8 kvs) (.ref a) [a]
 | dct {a : Addr} {gs : List (List Key × V)} {kvs : List (List Key × T)} {fp : List Addr} : H a = some (.dT gs) -> ck H Z kvs gs fp -> aU H Z (.dct kvs) (.ref a) (a :: fp)
 | pin {x : Addr} {t : T} {fp : List Addr} : aU H Z t (.ref x) fp -> aU H Z (.pin x t) (.ref x) fp
inductive aD (H Z : Hp) : List T -> List V -> List Addr -> Prop where
 | nil : aD H Z [] [] []
 | cons {t : T} {v : V} {ts : List T} {vs : List V} {fp gp : List Addr} : aU H Z t v fp -> aD H Z ts vs gp -> aD H Z (t :: ts) (v :: vs) (fp ++ gp)
inductive cT (H Z : Hp) : List (Str × T) -> List (Str × V) -> List Addr -> Prop where
 | nil : cT H Z [] [] []
 | cons {x : Str} {t : T} {v : V} {ts : List (Str × T)} {vs : List (Str × V)} {fp gp : List Addr} : aU H Z t v fp -> cT H Z ts vs gp -> cT H Z ((x, t) :: ts) ((x, v) :: vs) (fp ++ gp)
inductive ck (H Z : Hp) : List (List Key × T) -> List (List Key × V) -> List Addr -> Prop where
 | nil : ck H Z [] [] []
 | cons {x : List Key} {t : T} {v : V} {ts : List (List Key × T)} {vs : List (List Key × V)} {fp gp : List Addr} : aU H Z t v fp -> ck H Z ts vs gp -> ck H Z ((x, t) :: ts) ((x, v) :: vs) (fp ++ gp)
end
inductive cF (H Z : Hp) : List (Option T) -> L2.St -> List Addr -> Prop where
 | nil : cF H Z [] [] []
 | skip {o : Option V} {δ : Q.f} {σ : L2.St} {fp : List Addr} : cF H Z δ σ fp -> cF H Z (none :: δ) (o :: σ) fp
 | cons {t : T} {v : V} {δ : Q.f} {σ : L2.St} {fp gp : List Addr} : aU K CL H Z t v fp -> cF H Z δ σ gp -> cF H Z (some t :: δ) (some v :: σ) (fp ++ gp)
variable {K : Q.h} {CL : Q.e} {H H' : Hp} {a : Addr}
theorem Rd.mono {u : HO} (e : aB H H') (h : Rd H a u) : Rd H' a u := h.imp (e _ _) fun ⟨o, q⟩ => ⟨o, e _ _ q⟩
variable {xs : List V}
theorem aB.Gs (e : aB H H') (h : sO K H a xs) : sO K H' a xs := by
 rcases h with (h | ⟨o, h⟩) | h
 . exact .inl (.inl (e _ _ h))
 . exact .inl (.inr ⟨o, e _ _ h⟩)
 . exact .inr h
variable {Z Z' : Hp} {v : V}
theorem bf.mono (e : aB Z Z') {d : D} (h : bf K CL Z d v) : bf K CL Z' d v :=
 bf.rec (motive_1 := fun d v _ => bf K CL Z' d v) (motive_2 := fun d v _ => aI K CL Z' d v) (motive_3 := fun d v _ => gH K CL Z' d v) (motive_4 := fun d v _ => cA K CL Z' d v) (motive_5 := fun d v _ => cD K CL Z' d v)
   .non .bl .int .str .any .val (fun h _ r => .tup (aB.Gs e h) r) (fun h _ r => .lst (e.seq h) r) (fun h _ r => .ins (e _ _ h) r) (fun h _ r => .q8 (e _ _ h) r) (fun h _ r => .dct (Rd.mono e h) r) .nil Q.t .nil Q.t .nil Q.t .nil Q.t h
theorem gH.mono (e : aB Z Z') {d : List (Str × D)} {v : List (Str × V)} (h : gH K CL Z d v) : gH K CL Z' d v :=
 gH.rec (motive_1 := fun d v _ => bf K CL Z' d v) (motive_2 := fun d v _ => aI K CL Z' d v) (motive_3 := fun d v _ => gH K CL Z' d v) (motive_4 := fun d v _ => cA K CL Z' d v) (motive_5 := fun d v _ => cD K CL Z' d v)
   .non .bl .int .str .any .val (fun h _ r => .tup (aB.Gs e h) r) (fun h _ r => .lst (e.seq h) r) (fun h _ r => .ins (e _ _ h) r) (fun h _ r => .q8 (e _ _ h) r) (fun h _ r => .dct (Rd.mono e h) r) .nil Q.t .nil Q.t .nil Q.t .nil Q.t h
theorem cA.mono (e : aB Z Z') {d : List (Key × D)} {v : List (Key × V)} (h : cA K CL Z d v) : cA K CL Z' d v :=
 cA.rec (motive_1 := fun d v _ => bf K CL Z' d v) (motive_2 := fun d v _ => aI K CL Z' d v) (motive_3 := fun d v _ => gH K CL Z' d v) (motive_4 := fun d v _ => cA K CL Z' d v) (motive_5 := fun d v _ => cD K CL Z' d v)
   .non .bl .int .str .any .val (fun h _ r => .tup (aB.Gs e h) r) (fun h _ r => .lst (e.seq h) r) (fun h _ r => .ins (e _ _ h) r) (fun h _ r => .q8 (e _ _ h) r) (fun h _ r => .dct (Rd.mono e h) r) .nil Q.t .nil Q.t .nil Q.t .nil Q.t h
theorem cD.mono (e : aB Z Z') {d : List (List Key × D)} {v : List (List Key × V)} (h : cD K CL Z d v) : cD K CL Z' d v :=
 cD.rec (motive_1 := fun d v _ => bf K CL Z' d v) (motive_2 := fun d v _ => aI K CL Z' d v) (motive_3 := fun d v _ => gH K CL Z' d v) (motive_4 := fun d v _ => cA K CL Z' d v) (motive_5 := fun d v _ => cD K CL Z' d v)
   .non .bl .int .str .any .val (fun h _ r => .tup (aB.Gs e h) r) (fun h _ r => .lst (e.seq h) r) (fun h _ r => .ins (e _ _ h) r) (fun h _ r => .q8 (e _ _ h) r) (fun h _ r => .dct (Rd.mono e h) r) .nil Q.t .nil Q.t .nil Q.t .nil Q.t h
variable {t : T} {fp : List Addr}
theorem aU.mono (e : aB Z Z') (k : ∀ a ∈ fp, H' a = H a) (h : aU K CL H Z t v fp) : aU K CL H' Z' t v fp :=
 aU.rec (motive_1 := fun t v fp _ => (∀ a ∈ fp, H' a = H a) -> aU K CL H' Z' t v fp) (motive_2 := fun t v fp _ => (∀ a ∈ fp, H' a = H a) -> aD K CL H' Z' t v fp) (motive_3 := fun t v fp _ => (∀ a ∈ fp, H' a = H a) -> cT K CL H' Z' t v fp) (motive_4 := fun t v fp _ => (∀ a ∈ fp, H' a = H a) -> ck K CL H' Z' t v fp)
   (fun h _ => .sh (h.mono e)) (fun h _ r k => .tup (e _ _ h) (r k)) (fun h _ r k => .lst ((k _ ahw).trans h) Q.v) (fun h _ r k => .ins ((k _ ahw).trans h) Q.v) (fun h f k => .q8 ((k _ ahw).trans h) (cA.mono e f)) (fun h _ r k => .dct ((k _ ahw).trans h) Q.v) (fun _ r k => .pin (r k)) (fun _ => .nil) Q.z (fun _ => .nil) Q.z (fun _ => .nil) Q.z h k
theorem aD.mono (e : aB Z Z') {t : List T} {v : List V} (k : ∀ a ∈ fp, H' a = H a) (h : aD K CL H Z t v fp) : aD K CL H' Z' t v fp :=
 aD.rec (motive_1 := fun t v fp _ => (∀ a ∈ fp, H' a = H a) -> aU K CL H' Z' t v fp) (motive_2 := fun t v fp _ => (∀ a ∈ fp, H' a = H a) -> aD K CL H' Z' t v fp) (motive_3 := fun t v fp _ => (∀ a ∈ fp, H' a = H a) -> cT K CL H' Z' t v fp) (motive_4 := fun t v fp _ => (∀ a ∈ fp, H' a = H a) -> ck K CL H' Z' t v fp)
   (fun h _ => .sh (h.mono e)) (fun h _ r k => .tup (e _ _ h) (r k)) (fun h _ r k => .lst ((k _ ahw).trans h) Q.v) (fun h _ r k => .ins ((k _ ahw).trans h) Q.v) (fun h f k => .q8 ((k _ ahw).trans h) (cA.mono e f)) (fun h _ r k => .dct ((k _ ahw).trans h) Q.v) (fun _ r k => .pin (r k)) (fun _ => .nil) Q.z (fun _ => .nil) Q.z (fun _ => .nil) Q.z h k
theorem cT.mono (e : aB Z Z') {t : List (Str × T)} {v : List (Str × V)} (k : ∀ a ∈ fp, H' a = H a) (h : cT K CL H Z t v fp) : cT K CL H' Z' t v fp :=
 cT.rec (motive_1 := fun t v fp _ => (∀ a ∈ fp, H' a = H a) -> aU K CL H' Z' t v fp) (motive_2 := fun t v fp _ => (∀ a ∈ fp, H' a = H a) -> aD K CL H' Z' t v fp) (motive_3 := fun t v fp _ => (∀ a ∈ fp, H' a = H a) -> cT K CL H' Z' t v fp) (motive_4 := fun t v fp _ => (∀ a ∈ fp, H' a = H a) -> ck K CL H' Z' t v fp)
   (fun h _ => .sh (h.mono e)) (fun h _ r k => .tup (e _ _ h) (r k)) (fun h _ r k => .lst ((k _ ahw).trans h) Q.v) (fun h _ r k => .ins ((k _ ahw).trans h) Q.v) (fun h f k => .q8 ((k _ ahw).trans h) (cA.mono e f)) (fun h _ r k => .dct ((k _ ahw).trans h) Q.v) (fun _ r k => .pin (r k)) (fun _ => .nil) Q.z (fun _ => .nil) Q.z (fun _ => .nil) Q.z h k
theorem ck.mono (e : aB Z Z') {t : List (List Key × T)} {v : List (List Key × V)} (k : ∀ a ∈ fp, H' a = H a) (h : ck K CL H Z t v fp) : ck K CL H' Z' t v fp :=
 ck.rec (motive_1 := fun t v fp _ => (∀ a ∈ fp, H' a = H a) -> aU K CL H' Z' t v fp) (motive_2 := fun t v fp _ => (∀ a ∈ fp, H' a = H a) -> aD K CL H' Z' t v fp) (motive_3 := fun t v fp _ => (∀ a ∈ fp, H' a = H a) -> cT K CL H' Z' t v fp) (motive_4 := fun t v fp _ => (∀ a ∈ fp, H' a = H a) -> ck K CL H' Z' t v fp)
   (fun h _ => .sh (h.mono e)) (fun h _ r k => .tup (e _ _ h) (r k)) (fun h _ r k => .lst ((k _ ahw).trans h) Q.v) (fun h _ r k => .ins ((k _ ahw).trans h) Q.v) (fun h f k => .q8 ((k _ ahw).trans h) (cA.mono e f)) (fun h _ r k => .dct ((k _ ahw).trans h) Q.v) (fun _ r k => .pin (r k)) (fun _ => .nil) Q.z (fun _ => .nil) Q.z (fun _ => .nil) Q.z h k
theorem aU.there (h : aU K CL H Z t v fp) : ∀ a ∈ fp, ∃ o, H a = some o :=
 aU.rec (motive_1 := fun t v fp _ => ∀ a ∈ fp, ∃ o, H a = some o) (motive_2 := fun t v fp _ => ∀ a ∈ fp, ∃ o, H a = some o) (motive_3 := fun t v fp _ => ∀ a ∈ fp, ∃ o, H a = some o) (motive_4 := fun t v fp _ => ∀ a ∈ fp, ∃ o, H a = some o)
   (fun _ a ha => absurd ha ahK) (fun _ _ r => r) (fun h _ r a ha => (ahH.mp ha).elim (fun q => ⟨_, q ▸ h⟩) (r a)) (fun h _ r a ha => (ahH.mp ha).elim (fun q => ⟨_, q ▸ h⟩) (r a)) (fun h _ a ha => (ahH.mp ha).elim (fun q => ⟨_, q ▸ h⟩) (fun q => absurd q ahK)) (fun h _ r a ha => (ahH.mp ha).elim (fun q => ⟨_, q ▸ h⟩) (r a)) (fun _ r => r) (fun a ha => absurd ha ahK) (fun _ _ h r a ha => (ahB.mp ha).elim (h a) (r a)) (fun a ha => absurd ha ahK) (fun _ _ h r a ha => (ahB.mp ha).elim (h a) (r a)) (fun a ha => absurd ha ahK) (fun _ _ h r a ha => (ahB.mp ha).elim (h a) (r a)) h
theorem aD.there {t : List T} {v : List V} (h : aD K CL H Z t v fp) : ∀ a ∈ fp, ∃ o, H a = some o :=
 aD.rec (motive_1 := fun t v fp _ => ∀ a ∈ fp, ∃ o, H a = some o) (motive_2 := fun t v fp _ => ∀ a ∈ fp, ∃ o, H a = some o) (motive_3 := fun t v fp _ => ∀ a ∈ fp, ∃ o, H a = some o) (motive_4 := fun t v fp _ => ∀ a ∈ fp, ∃ o, H a = some o)
   (fun _ a ha => absurd ha ahK) (fun _ _ r => r) (fun h _ r a ha => (ahH.mp ha).elim (fun q => ⟨_, q ▸ h⟩) (r a)) (fun h _ r a ha => (ahH.mp ha).elim (fun q => ⟨_, q ▸ h⟩) (r a)) (fun h _ a ha => (ahH.mp ha).elim (fun q => ⟨_, q ▸ h⟩) (fun q => absurd q ahK)) (fun h _ r a ha => (ahH.mp ha).elim (fun q => ⟨_, q ▸ h⟩) (r a)) (fun _ r => r) (fun a ha => absurd ha ahK) (fun _ _ h r a ha => (ahB.mp ha).elim (h a) (r a)) (fun a ha => absurd ha ahK) (fun _ _ h r a ha => (ahB.mp ha).elim (h a) (r a)) (fun a ha => absurd ha ahK) (fun _ _ h r a ha => (ahB.mp ha).elim (h a) (r a)) h
theorem aU.aZ (e : aB Z Z') (k : ∀ a ∈ fp, Z' a = H a) (h : aU K CL H Z t v fp) : bf K CL Z' t.aZ v :=
 aU.rec (motive_1 := fun t v fp _ => (∀ a ∈ fp, Z' a = H a) -> bf K CL Z' t.aZ v) (motive_2 := fun t v fp _ => (∀ a ∈ fp, Z' a = H a) -> aI K CL Z' (T.c5 t) v) (motive_3 := fun t v fp _ => (∀ a ∈ fp, Z' a = H a) -> gH K CL Z' (T.mj t) v) (motive_4 := fun t v fp _ => (∀ a ∈ fp, Z' a = H a) -> cD K CL Z' (T.tY t) v)
   (fun h _ => by rw [T.aZ]; exact h.mono e) (fun h _ r k => by rw [T.aZ]; exact .tup (sO.of (e _ _ h)) (r k)) (fun h _ r k => by rw [T.aZ]; exact .lst (oB.of ((k _ ahw).trans h)) Q.v) (fun h _ r k => by rw [T.aZ]; exact .ins ((k _ ahw).trans h) Q.v) (fun h f k => by rw [T.aZ]; exact .q8 ((k _ ahw).trans h) (cA.mono e f)) (fun h _ r k => by rw [T.aZ]; exact .dct (.inl ((k _ ahw).trans h)) Q.v) (fun _ r k => by rw [T.aZ]; exact r k) (fun _ => by rw [T.c5]; exact .nil) (fun _ _ h r k => by rw [T.c5]; exact .cons (h fun a ha => k a (ahy _ ha)) (r fun a ha => k a (ahu _ ha))) (fun _ => by rw [T.mj]; exact .nil) (fun _ _ h r k => by rw [T.mj]; exact .cons (h fun a ha => k a (ahy _ ha)) (r fun a ha => k a (ahu _ ha))) (fun _ => by rw [T.tY]; exact .nil) (fun _ _ h r k => by rw [T.tY]; exact .cons (h fun a ha => k a (ahy _ ha)) (r fun a ha => k a (ahu _ ha))) h k
variable {vs : List V}
theorem aI.ind {P : List D -> List V -> Prop} (n : P [] []) (c : ∀ {d : D} {v : V} {ds : List D} {vs : List V}, bf K CL Z d v -> aI K CL Z ds vs -> P ds vs -> P (d :: ds) (v :: vs)) {ds : List D} (h : aI K CL Z ds vs) : P ds vs :=
 aI.rec (motive_1 := fun _ _ _ => True) (motive_2 := fun d v _ => P d v) (motive_3 := fun _ _ _ => True) (motive_4 := fun _ _ _ => True) (motive_5 := fun _ _ _ => True)
   trivial (fun _ => trivial) (fun _ => trivial) (fun _ => trivial) (fun _ => trivial) (fun _ => trivial) Q.s Q.s Q.s Q.s Q.s n (fun a b _ i => c a b i) trivial Q.u trivial Q.u trivial Q.u h
theorem cA.ind {P : List (Key × D) -> List (Key × V) -> Prop} (n : P [] []) (c : ∀ {x : Key} {d : D} {v : V} {ds : List (Key × D)} {vs : List (Key × V)}, bf K CL Z d v -> cA K CL Z ds vs -> P ds vs -> P ((x, d) :: ds) ((x, v) :: vs)) {ds : List (Key × D)} {vs : List (Key × V)} (h : cA K CL Z ds vs) : P ds vs :=
 cA.rec (motive_1 := fun _ _ _ => True) (motive_2 := fun _ _ _ => True) (motive_3 := fun _ _ _ => True) (motive_4 := fun d v _ => P d v) (motive_5 := fun _ _ _ => True)
   trivial (fun _ => trivial) (fun _ => trivial) (fun _ => trivial) (fun _ => trivial) (fun _ => trivial) Q.s Q.s Q.s Q.s Q.s trivial Q.u trivial Q.u n (fun a b _ i => c a b i) trivial Q.u h
theorem cD.ind {P : List (List Key × D) -> List (List Key × V) -> Prop} (n : P [] []) (c : ∀ {x : List Key} {d : D} {v : V} {ds : List (List Key × D)} {vs : List (List Key × V)}, bf K CL Z d v -> cD K CL Z ds vs -> P ds vs -> P ((x, d) :: ds) ((x, v) :: vs)) {ds : List (List Key × D)} {vs : List (List Key × V)} (h : cD K CL Z ds vs) : P ds vs :=
 cD.rec (motive_1 := fun _ _ _ => True) (motive_2 := fun _ _ _ => True) (motive_3 := fun _ _ _ => True) (motive_4 := fun _ _ _ => True) (motive_5 := fun d v _ => P d v)
   trivial (fun _ => trivial) (fun _ => trivial) (fun _ => trivial) (fun _ => trivial) (fun _ => trivial) Q.s Q.s Q.s Q.s Q.s trivial Q.u trivial Q.u trivial Q.u n (fun a b _ i => c a b i) h
variable {ts : List T}
theorem aD.ind {P : List T -> List V -> List Addr -> Prop} (n : P [] [] []) (c : ∀ {t : T} {v : V} {ts : List T} {vs : List V} {fp gp : List Addr}, aU K CL H Z t v fp -> aD K CL H Z ts vs gp -> P ts vs gp -> P (t :: ts) (v :: vs) (fp ++ gp)) (h : aD K CL H Z ts vs fp) : P ts vs fp :=
 aD.rec (motive_1 := fun _ _ _ _ => True) (motive_2 := fun d v f _ => P d v f) (motive_3 := fun _ _ _ _ => True) (motive_4 := fun _ _ _ _ => True)
   (fun _ => trivial) Q.s Q.s Q.s (fun _ _ => trivial) Q.s (fun _ _ => trivial) n (fun a b _ i => c a b i) trivial Q.u trivial Q.u h
theorem cT.ind {P : List (Str × T) -> List (Str × V) -> List Addr -> Prop} (n : P [] [] []) (c : ∀ {x : Str} {t : T} {v : V} {ts : List (Str × T)} {vs : List (Str × V)} {fp gp : List Addr}, aU K CL H Z t v fp -> cT K CL H Z ts vs gp -> P ts vs gp -> P ((x, t) :: ts) ((x, v) :: vs) (fp ++ gp)) {ts : List (Str × T)} {vs : List (Str × V)} (h : cT K CL H Z ts vs fp) : P ts vs fp :=
 cT.rec (motive_1 := fun _ _ _ _ => True) (motive_2 := fun _ _ _ _ => True) (motive_3 := fun d v f _ => P d v f) (motive_4 := fun _ _ _ _ => True)
   (fun _ => trivial) Q.s Q.s Q.s (fun _ _ => trivial) Q.s (fun _ _ => trivial) trivial Q.u n (fun a b _ i => c a b i) trivial Q.u h
theorem ck.ind {P : List (List Key × T) -> List (List Key × V) -> List Addr -> Prop} (n : P [] [] []) (c : ∀ {x : List Key} {t : T} {v : V} {ts : List (List Key × T)} {vs : List (List Key × V)} {fp gp : List Addr}, aU K CL H Z t v fp -> ck K CL H Z ts vs gp -> P ts vs gp -> P ((x, t) :: ts) ((x, v) :: vs) (fp ++ gp)) {ts : List (List Key × T)} {vs : List (List Key × V)} (h : ck K CL H Z ts vs fp) : P ts vs fp :=
 ck.rec (motive_1 := fun _ _ _ _ => True) (motive_2 := fun _ _ _ _ => True) (motive_3 := fun _ _ _ _ => True) (motive_4 := fun d v f _ => P d v f)
   (fun _ => trivial) Q.s Q.s Q.s (fun _ _ => trivial) Q.s (fun _ _ => trivial) trivial Q.u trivial Q.u n (fun a b _ i => c a b i) h
theorem aI.length {d : List D} {v : List V} (h : aI K CL Z d v) : d.length = v.length :=
 aI.ind (P := fun d v => d.length = v.length) rfl (fun _ _ i => congrArg (· + 1) i) h
theorem aD.length {d : List T} {v : List V} (h : aD K CL H Z d v fp) : d.length = v.length :=
 aD.ind (P := fun d v _ => d.length = v.length) rfl (fun _ _ i => congrArg (· + 1) i) h
theorem cF.length {d : Q.f} {v : L2.St} (h : cF K CL H Z d v fp) : d.length = v.length := by
 induction h with
 | nil => rfl
 | skip _ i => exact congrArg (· + 1) i
 | cons _ _ i => exact congrArg (· + 1) i
theorem aI.get {Z : Hp} : ∀ {ds : List D} {vs : List V} {i : Nat} {d : D}, aI K CL Z ds vs -> ds[i]? = some d -> ∃ v, vs[i]? = some v /\ bf K CL Z d v
 | _, _, _, _, .nil, e => by simp at e
 | _, _, 0, _, .cons r _, e => by simp at e; subst e; exact ⟨_, rfl, r⟩
 | _, _, i + 1, d, .cons _ t, e => by
   obtain ⟨u, h1, h2⟩ := aI.get (i := i) (d := d) t (by simpa using e)
   exact ⟨u, by simpa using h1, h2⟩
theorem aI.W8 {Z : Hp} : ∀ {ds : List D} {vs : List V} {i : Nat} {v : V}, aI K CL Z ds vs -> vs[i]? = some v -> ∃ d, ds[i]? = some d /\ bf K CL Z d v
 | _, _, _, _, .nil, e => by simp at e
 | _, _, 0, _, .cons r _, e => by simp at e; subst e; exact ⟨_, rfl, r⟩
 | _, _, i + 1, d, .cons _ t, e => by
   obtain ⟨u, h1, h2⟩ := aI.W8 (i := i) (v := d) t (by simpa using e)
   exact ⟨u, by simpa using h1, h2⟩
theorem cF.get : ∀ {δ : Q.f} {σ : L2.St} {fp : List Addr} {i : Nat} {t : T}, cF K CL H Z δ σ fp -> δ[i]? = some (some t) →
   ∃ v f1 f2 f3, σ[i]? = some (some v) /\ fp = f1 ++ (f2 ++ f3) /\ aU K CL H Z t v f2 ∧
     (∀ {H' Z' : Hp} {t' : T} {v' : V} {g : List Addr}, aB Z Z' -> (∀ a ∈ f1 ++ f3, H' a = H a) -> aU K CL H' Z' t' v' g -> cF K CL H' Z' (δ.set i (some t')) (σ.set i (some v')) (f1 ++ (g ++ f3))) ∧
     (∀ {o : Option V}, cF K CL H Z (δ.set i none) (σ.set i o) (f1 ++ f3)) := by
 intro δ σ fp i t h
 have mono : ∀ {H H' Z Z' : Hp} {δ : Q.f} {σ : L2.St} {fp : List Addr}, aB Z Z' -> (∀ a ∈ fp, H' a = H a) -> cF K CL H Z δ σ fp -> cF K CL H' Z' δ σ fp := by
   intro H H' Z Z' δ σ fp e k r
   induction r with
   | nil => exact .nil
   | skip _ ih => exact .skip (ih k)
   | cons r _ ih => exact .cons (r.mono e fun a ha => k a (ahy _ ha)) (ih fun a ha => k a (ahu _ ha))
 induction h generalizing i with
 | nil => intro e; simp at e
 | @skip o δ σ fp r ih =>
   cases i with
   | zero => intro e; simp at e
   | succ i =>
     intro e
     obtain ⟨v, f1, f2, f3, h1, h2, h3, h4, h5⟩ := ih (i := i) (by simpa using e)
     exact ⟨v, f1, f2, f3, by simpa using h1, h2, h3, fun e k q => .skip (h4 e k q), .skip h5⟩
 | @cons t0 v0 δ σ fp gp r0 r ih =>
   cases i with
   | zero =>
     intro e
     simp at e
     subst e
     refine ⟨v0, [], fp, gp, rfl, rfl, r0, fun {H' Z' t' v' g} e k q => cF.cons (fp := g) (gp := gp) q (mono (fp := gp) e (fun a ha => k a (by simpa using ha)) r), .skip (by simpa using r)⟩
   | succ i =>
     intro e
     obtain ⟨v, f1, f2, f3, h1, h2, h3, h4, h5⟩ := ih (i := i) (by simpa using e)
     refine ⟨v, fp ++ f1, f2, f3, by simpa using h1, by rw [h2, List.append_assoc], h3, fun {H' Z' t' v' g} e k q => ?_, fun {o} => ?_⟩
     . rw [ahv]
       exact .cons (r0.mono e fun a ha => k a (by simp [ha])) (h4 e (fun a ha => k a (by rw [ahv]; exact ahu _ ha)) q)
     . rw [ahv]
       exact .cons r0 h5
variable {δ : Q.f} {σ : L2.St}
theorem cF.mono (e : aB Z Z') (k : ∀ a ∈ fp, H' a = H a) (r : cF K CL H Z δ σ fp) : cF K CL H' Z' δ σ fp := by
 induction r with
 | nil => exact .nil
 | skip _ ih => exact .skip (ih k)
 | cons r _ ih => exact .cons (r.mono e fun a ha => k a (ahy _ ha)) (ih fun a ha => k a (ahu _ ha))
theorem cF.there (r : cF K CL H Z δ σ fp) : ∀ a ∈ fp, ∃ o, H a = some o := by
 induction r with
 | nil => intro a ha; cases ha
 | skip _ ih => exact ih
 | cons r _ ih => exact fun a ha => (ahB.mp ha).elim (r.there a) (ih a)
theorem cF.put (r : cF K CL H Z δ σ fp) {g : List Addr} (q : aU K CL H Z t v g) :
   ∀ {i : Nat}, i < δ.length -> ∃ f, cF K CL H Z (δ.set i (some t)) (σ.set i (some v)) f /\ ∃ f', f'.Sublist fp /\ f.Perm (g ++ f') := by
 induction r with
 | nil => intro i hi; simp at hi
 | @skip o δ σ fp r ih =>
   intro i hi
   cases i with
   | zero => exact ⟨g ++ fp, .cons q r, fp, ah5 _, ajJ _⟩
   | succ i =>
     obtain ⟨f, h1, f', h2, h3⟩ := ih (i := i) (by simpa using hi)
     exact ⟨f, .skip h1, f', h2, h3⟩
 | @cons t0 v0 δ σ fp gp r0 r ih =>
   intro i hi
   cases i with
   | zero => exact ⟨g ++ gp, .cons q r, gp, aij _ _, ajJ _⟩
   | succ i =>
     obtain ⟨f, h1, f', h2, h3⟩ := ih (i := i) (by simpa using hi)
     refine ⟨fp ++ f, .cons r0 h1, fp ++ f', ah2 (ah5 _) h2, ?_⟩
     refine (ah6 fp h3).trans ?_
     rw [← ahv, ← ahv]
     exact List.Perm.append_right f' ahV
def pZ (X : Cx) (e : Expr) : TE := fun σ H Q => ∀ (pins : Q.i) (s : Shared), Inv X pins σ H s -> wpAny Q.d X.A (eval e X.env) (EP X pins σ Q) X.xe s
def Nt (X : Cx) (e : Expr) : TT := fun σ H Q => ∀ (pins : Q.i) (s : Shared), Inv X pins σ H s -> wpAny Q.d X.A (isTrue e X.env (eval e X.env)) (TP X pins σ Q) X.xe s
def Ko (X : Cx) (es : List Expr) : TA := fun σ H Q => ∀ (pos : Pos) (pins : Q.i) (s : Shared), Inv X pins σ H s -> wpAny Q.d X.A (spliced (backTo pos (starEach es X.env))) (AP X pins σ Q) X.xe s
def Kp (X : Cx) (st : Stmt) : TS := fun D σ H => ∀ (pins : Q.i) (s : Shared), Inv X pins σ H s -> wpAny Q.d X.A (exec st X.env) (SP X pins D) X.xe s
def Nu (X : Cx) (st : List Stmt) : TS := fun D σ H => ∀ (pins : Q.i) (s : Shared), Inv X pins σ H s -> wpAny Q.d X.A (execs st X.env) (SP X pins D) X.xe s
variable {X : Cx} {e : Expr}
theorem c7 : PE X e (pZ X e) := fun pins s _ _ _ I h => h pins s I
theorem Vz : PT X e (Nt X e) := fun pins s _ _ _ I h => h pins s I
theorem Cp {e : List Expr} : PA X e (Ko X e) := fun pos pins s _ _ _ I h => h pos pins s I
theorem psS {e : Stmt} : PS X e (Kp X e) := fun pins s _ _ _ I h => h pins s I
theorem IV {e : List Stmt} : Iv X e (Nu X e) := fun pins s _ _ _ I h => h pins s I
theorem bZ {t : TE} (h : PE X e t) {Q : VK} (q : t σ H Q) : pZ X e σ H Q := fun pins s I => h pins s σ H Q I q
variable {Q : Bool -> Hp -> Prop}
theorem EA {t : TT} (h : PT X e t) (q : t σ H Q) : Nt X e σ H Q := fun pins s I => h pins s σ H Q I q
theorem Cq {e : List Expr} {t : TA} (h : PA X e t) {Q : List V -> Hp -> Prop} (q : t σ H Q) : Ko X e σ H Q := fun pos pins s I => h pos pins s σ H Q I q
theorem kL {e : Stmt} {t : TS} (h : PS X e t) {D : Ends} (q : t D σ H) : Kp X e D σ H := fun pins s I => h pins s σ H D I q
theorem W9 {e : List Stmt} {t : TS} (h : Iv X e t) {D : Ends} (q : t D σ H) : Nu X e D σ H := fun pins s I => h pins s σ H D I q
def notStar : Expr -> Bool
 | .Starred _ _ => false
 | _ => true
variable {es : List Expr} {env : Env}
theorem aV (h : notStar e = true) : starEach (e :: es) env = (false, eval e env) :: starEach es env := by
 cases e <;> first | rfl | (cases h)
structure Bx where
 B : Hp
 Z : Hp
def jU : HO -> Bool
 | .tup _ => true
 | .aZ _ _ => true
 | _ => false
def IW (x : Str) : Bool := x.cps[0]? == some 35
def adE (x : Str) : Str := ⟨x.cps.extract 1 x.cps.size⟩
def mW (CL : Q.e) (Z : Hp) : Prop := ∀ x, IW x = true -> CL x ≠ 0 -> Z (CL x) = some (.tabs (adE x))
structure aL (K : Q.h) (CL : Q.e) (b : Bx) (H Z : Hp) (δ : Q.f) (σ : L2.St) (ts : List T) (vs : List V) : Prop where
 rep : ∃ fp gp, cF K CL H Z δ σ fp /\ aD K CL H Z ts vs gp /\ (fp ++ gp).Nodup /\ ∀ a ∈ fp ++ gp, Z a = none /\ b.B a = none
 bh : aB b.B H
 zz : aB b.Z Z
 zh : aB Z H
 new : ∀ a o, Z a = some o -> b.Z a = none -> b.B a = none
 tp : ∀ a o, H a = some o -> jU o = true -> Z a = some o
 tab : mW CL b.Z
variable {b : Bx}
theorem mW.mono {A B : Hp} (h : mW CL A) (e : aB A B) : mW CL B := fun x hx h0 => e _ _ (h x hx h0)
theorem aL.Gu (S : Q.q) : mW CL Z := S.tab.mono S.zz
theorem aL.Kq (S : Q.q) : mW CL H := S.Gu.mono S.zh
theorem Gv {A B : Hp} (e : aB A B) (h : B a = none) : A a = none := e.free h
variable {p : Addr}
theorem aB.upd {o : HO} (h : H p = none) : aB H (upd H p o) := fun b u e => by rw [aj (bC e h)]; exact e
theorem aL.view (S : aL K CL b H Z δ σ (t :: ts) (v :: vs)) : bf K CL H t.aZ v := by
 obtain ⟨fp, gp, _, r, _, _⟩ := S.rep
 cases r with
 | cons r _ => exact r.aZ S.zh fun _ _ => rfl
theorem aL.pop (S : aL K CL b H Z δ σ (t :: ts) (v :: vs)) : aL K CL b H Z δ σ ts vs := by
 obtain ⟨fp, gp, e, r, nd, k⟩ := S.rep
 cases r with
 | @cons _ _ _ _ f1 f2 r1 r2 =>
   refine ⟨⟨fp, f2, e, r2, nd.sublist (ah2 (ah5 _) (aij _ _)), fun a ha => k a ?_⟩, S.bh, S.zz, S.zh, S.new, S.tp, S.tab⟩
   rcases ahB.mp ha with h | h
   . exact ahy _ h
   . exact ahu _ (ahu _ h)
theorem aL.push {d : D} (S : Q.q) (r : bf K CL Z d v) : aL K CL b H Z δ σ (.sh d :: ts) (v :: vs) := by
 obtain ⟨fp, gp, e, r2, nd, k⟩ := S.rep
 exact ⟨⟨fp, [] ++ gp, e, .cons (.sh r) r2, nd, k⟩, S.bh, S.zz, S.zh, S.new, S.tp, S.tab⟩
theorem aL.Cr (S : aL K CL b H Z δ σ (t :: ts) (v :: vs)) : ∃ Z', aB Z Z' /\ aL K CL b H Z' δ σ (.sh t.aZ :: ts) (v :: vs) := by
 classical
 obtain ⟨fp, gp, e, r, nd, k⟩ := S.rep
 cases r with
 | @cons _ _ _ _ f1 f2 r1 r2 =>
   have nZ : ∀ a ∈ f1, Z a = none /\ b.B a = none := fun a ha => k a (ahu _ (ahy _ ha))
   have sz : aB Z (fun a => if a ∈ f1 then H a else Z a) := fun a o q => by
     by_cases ha : a ∈ f1
     . rw [(nZ a ha).1] at q; cases q
     . show (if a ∈ f1 then H a else Z a) = some o
       rw [ahC ha]; exact q
   have nd1 := ah3.mp nd
   have dj : ∀ a ∈ fp ++ f2, a ∉ f1 := fun a ha h1 => by
     rcases ahB.mp ha with h | h
     . exact nd1.2.2 a h a (ahy _ h1) rfl
     . exact (ah3.mp nd1.2.1).2.2 a h1 a h rfl
   refine ⟨fun a => if a ∈ f1 then H a else Z a, sz, ⟨⟨fp, [] ++ f2, e.mono sz (fun _ _ => rfl), .cons (.sh (r1.aZ sz fun a ha => ahN ha)) (r2.mono sz fun _ _ => rfl), ?_, fun a ha => ?_⟩, S.bh, S.zz.trans sz, fun a o q => ?_, fun a o q z => ?_, fun a o q i => ?_, S.tab⟩⟩
   . exact nd.sublist (ah2 (ah5 _) (aij _ _))
   . have Kr : a ∈ fp ++ f2 := ha
     refine ⟨?_, (k a ?_).2⟩
     . show (if a ∈ f1 then H a else Z a) = none
       rw [ahC (dj a Kr)]
       refine (k a ?_).1
       rcases ahB.mp Kr with h | h
       . exact ahy _ h
       . exact ahu _ (ahu _ h)
     . rcases ahB.mp Kr with h | h
       . exact ahy _ h
       . exact ahu _ (ahu _ h)
   . have q' : (if a ∈ f1 then H a else Z a) = some o := q
     by_cases ha : a ∈ f1
     . rw [ahN ha] at q'; exact q'
     . rw [ahC ha] at q'; exact S.zh a o q'
   . have q' : (if a ∈ f1 then H a else Z a) = some o := q
     by_cases ha : a ∈ f1
     . exact (nZ a ha).2
     . rw [ahC ha] at q'; exact S.new a o q' z
   . exact sz a o (S.tp a o q i)
variable {i : Nat}
theorem aL.RZ (S : Q.q) (hi : δ[i]? = some (some t)) : ∃ v Z', σ[i]? = some (some v) /\ aB Z Z' /\ aL K CL b H Z' (δ.set i (some (.sh t.aZ))) σ (.sh t.aZ :: ts) (v :: vs) := by
 classical
 obtain ⟨fp, gp, e, r, nd, k⟩ := S.rep
 obtain ⟨v, f1, f2, f3, hv, kM, rt, put, _⟩ := e.get hi
 subst kM
 have nZ : ∀ a ∈ f2, Z a = none /\ b.B a = none := fun a ha => k a (by simp [ha])
 have sz : aB Z (fun a => if a ∈ f2 then H a else Z a) := fun a o q => by
   by_cases ha : a ∈ f2
   . rw [(nZ a ha).1] at q; cases q
   . show (if a ∈ f2 then H a else Z a) = some o
     rw [ahC ha]; exact q
 have dj : ∀ a ∈ (f1 ++ f3) ++ gp, a ∉ f2 := fun a ha h2 => by
   have hp : ((f1 ++ (f2 ++ f3)) ++ gp).Perm (f2 ++ ((f1 ++ f3) ++ gp)) := by
     rw [← ahv, ← ahv]
     refine (List.perm_append_right_iff gp).mpr ?_
     rw [← ahv]
     exact (List.perm_append_right_iff f3).mpr ahV
   exact (ah3.mp (hp.nodup_iff.mp nd)).2.2 a h2 a ha rfl
 have rF : bf K CL (fun a => if a ∈ f2 then H a else Z a) t.aZ v := rt.aZ sz fun a ha => ahN ha
 have Xa : σ.set i (some v) = σ := by
   apply List.ext_getElem?
   intro j
   rw [List.getElem?_set]
   split
   . rename_i h; subst h
     split
     . exact hv.symm
     . rename_i h2; rw [ais Q.c]
   . rfl
 have e2 : cF K CL H (fun a => if a ∈ f2 then H a else Z a) (δ.set i (some (.sh t.aZ))) σ (f1 ++ ([] ++ f3)) := by
   have := put (H' := H) (t' := .sh t.aZ) (v' := v) (g := []) sz (fun _ _ => rfl) (.sh rF)
   rwa [Xa] at this
 refine ⟨v, fun a => if a ∈ f2 then H a else Z a, hv, sz, ⟨⟨f1 ++ ([] ++ f3), [] ++ gp, e2, .cons (.sh rF) (r.mono sz fun _ _ => rfl), ?_, fun a ha => ?_⟩, S.bh, S.zz.trans sz, fun a o q => ?_, fun a o q z => ?_, fun a o q i => sz a o (S.tp a o q i), S.tab⟩⟩
 . exact nd.sublist (ah2 (ah2 (ah5 _) (aij _ _)) (ah5 _))
 . have Kr : a ∈ (f1 ++ f3) ++ gp := ha
   have hm : a ∈ (f1 ++ (f2 ++ f3)) ++ gp := by
     simp only [ahB] at Kr ⊢
     rcases Kr with (h | h) | h
     . exact .inl (.inl h)
     . exact .inl (.inr (.inr h))
     . exact .inr h
   refine ⟨?_, (k a hm).2⟩
   show (if a ∈ f2 then H a else Z a) = none
   rw [ahC (dj a Kr)]
   exact (k a hm).1
 . have q' : (if a ∈ f2 then H a else Z a) = some o := q
   by_cases ha : a ∈ f2
   . rw [ahN ha] at q'; exact q'
   . rw [ahC ha] at q'; exact S.zh a o q'
 . have q' : (if a ∈ f2 then H a else Z a) = some o := q
   by_cases ha : a ∈ f2
   . exact (nZ a ha).2
   . rw [ahC ha] at q'; exact S.new a o q' z
theorem aL.move (S : Q.q) (hi : δ[i]? = some (some t)) : ∃ v, σ[i]? = some (some v) /\ aL K CL b H Z (δ.set i none) σ (t :: ts) (v :: vs) := by
 obtain ⟨fp, gp, e, r, nd, k⟩ := S.rep
 obtain ⟨v, f1, f2, f3, hv, kM, rt, _, del⟩ := e.get hi
 subst kM
 have Xa : σ.set i (some v) = σ := by
   apply List.ext_getElem?
   intro j
   rw [List.getElem?_set]
   split
   . rename_i h; subst h
     split
     . exact hv.symm
     . rename_i h2; rw [ais Q.c]
   . rfl
 have hp : ((f1 ++ (f2 ++ f3)) ++ gp).Perm ((f1 ++ f3) ++ (f2 ++ gp)) := by
   have h1 : (f2 ++ f3).Perm (f3 ++ f2) := ahV
   have h2 := (ah6 f1 h1).append_right gp
   simp only [ahv] at h2 ⊢
   exact h2
 refine ⟨v, hv, ⟨⟨f1 ++ f3, f2 ++ gp, ?_, .cons rt r, hp.nodup_iff.mp nd, fun a ha => k a (hp.mem_iff.mpr ha)⟩, S.bh, S.zz, S.zh, S.new, S.tp, S.tab⟩⟩
 have := del (o := some v)
 rwa [Xa] at this
theorem aL.look (S : Q.q) (hi : δ[i]? = some (some t)) : ∃ v, σ[i]? = some (some v) /\ bf K CL H t.aZ v := by
 obtain ⟨fp, gp, e, r, nd, k⟩ := S.rep
 obtain ⟨v, f1, f2, f3, hv, kM, rt, _, _⟩ := e.get hi
 exact ⟨v, hv, rt.aZ S.zh fun _ _ => rfl⟩
theorem aL.IX {d : D} (S : Q.q) (hi : δ[i]? = some (some (.sh d))) : ∃ v, σ[i]? = some (some v) /\ bf K CL Z d v := by
 obtain ⟨fp, gp, e, r, nd, k⟩ := S.rep
 obtain ⟨v, f1, f2, f3, hv, kM, rt, _, _⟩ := e.get hi
 cases rt with
 | sh h => exact ⟨v, hv, h⟩
theorem aL.set (S : aL K CL b H Z δ σ (t :: ts) (v :: vs)) (hi : i < δ.length) : aL K CL b H Z (δ.set i (some t)) (σ.set i (some v)) ts vs := by
 obtain ⟨fp, gp, e, r, nd, k⟩ := S.rep
 cases r with
 | @cons _ _ _ _ f1 f2 r1 r2 =>
   obtain ⟨f, h1, f', h2, h3⟩ := e.put r1 hi
   have hp : (f ++ f2).Perm (f' ++ (f1 ++ f2)) := by
     refine (h3.append_right f2).trans ?_
     rw [← ahv]
     exact ahV.append_right f2
   have Nv : (f' ++ (f1 ++ f2)).Sublist (fp ++ (f1 ++ f2)) := ah2 h2 (ah5 _)
   exact ⟨⟨f, f2, h1, r2, hp.nodup_iff.mpr (nd.sublist Nv), fun a ha => k a (Nv.subset (hp.mem_iff.mp ha))⟩, S.bh, S.zz, S.zh, S.new, S.tp, S.tab⟩
mutual
def D.mq : D -> Bool
 | .tup ds => D.bJ ds
 | .lst _ => false
 | .ins _ _ => false
 | .q8 _ => false
 | .dct _ => false
 | .any => false
 | _ => true
def D.bJ : List D -> Bool
 | [] => true
 | d :: ds => d.mq && D.bJ ds
end
mutual
def T.clean : T -> Bool
 | .sh d => d.mq
 | .tup ts => T.bR ts
 | .lst ts => T.bR ts
 | .ins _ fs => T.jm fs
 | .q8 kvs => D.bJ (kvs.map (·.2))
 | .dct kvs => T.iy kvs
 | .pin _ t => t.clean
def T.bR : List T -> Bool
 | [] => true
 | t :: ts => t.clean && T.bR ts
def T.jm : List (Str × T) -> Bool
 | [] => true
 | (_, t) :: ts => t.clean && T.jm ts
def T.iy : List (List Key × T) -> Bool
 | [] => true
 | (_, t) :: ts => t.clean && T.iy ts
end
def bS (X : Cx) (CL : Q.e) (b : Bx) (e : Expr) (δ : Q.f) (t : T) (δ' : Q.f) : Prop :=
 ∀ (H Z : Hp) (σ : L2.St) (ts : List T) (vs : List V) (Q : VK), aL X.K CL b H Z δ σ ts vs -> (∀ v H' Z', aB Z Z' -> aB H H' -> aL X.K CL b H' Z' δ' σ (t :: ts) (v :: vs) -> Q v H') -> pZ X e σ H Q
def eF (X : Cx) (CL : Q.e) (b : Bx) (e : Expr) (δ : Q.f) (d : D) (δ' : Q.f) : Prop :=
 ∀ (H Z : Hp) (σ : L2.St) (ts : List T) (vs : List V) (Q : VK), aL X.K CL b H Z δ σ ts vs -> (∀ v H' Z', aB Z Z' -> aB H H' -> aL X.K CL b H' Z' δ' σ ts vs -> bf X.K CL H' d v -> Q v H') -> pZ X e σ H Q
def vg (X : Cx) (CL : Q.e) (b : Bx) (e : Expr) (δ : Q.f) (p : Bool) (δ' : Q.f) : Prop :=
 ∀ (H Z : Hp) (σ : L2.St) (ts : List T) (vs : List V) (Q : Bool -> Hp -> Prop), aL X.K CL b H Z δ σ ts vs -> (∀ H' Z', aB Z Z' -> aB H H' -> aL X.K CL b H' Z' δ' σ ts vs -> Q p H') -> Nt X e σ H Q
def Ec (X : Cx) (CL : Q.e) (b : Bx) (es : List Expr) (δ : Q.f) (tl : List T) (δ' : Q.f) : Prop :=
 ∀ (H Z : Hp) (σ : L2.St) (ts : List T) (vs : List V) (Q : List V -> Hp -> Prop), aL X.K CL b H Z δ σ ts vs →
   (∀ us H' Z', us.length = tl.length -> aB Z Z' -> aB H H' -> aL X.K CL b H' Z' δ' σ (tl.reverse ++ ts) (us.reverse ++ vs) -> Q us H') -> Ko X es σ H Q
def Mu (X : Cx) (CL : Q.e) (b : Bx) (es : List Expr) (δ : Q.f) (ds : List D) (δ' : Q.f) : Prop :=
 ∀ (H Z : Hp) (σ : L2.St) (ts : List T) (vs : List V) (Q : List V -> Hp -> Prop), aL X.K CL b H Z δ σ ts vs →
   (∀ us H' Z', aB Z Z' -> aB H H' -> aL X.K CL b H' Z' δ' σ ts vs -> aI X.K CL H' ds us -> Q us H') -> Ko X es σ H Q
structure c9 where
 nx : List (Option T) -> Prop
 rt : T -> List (Option T) -> Prop
 bk : List (Option T) -> Prop := fun _ => False
 ct : List (Option T) -> Prop := fun _ => False
structure Meets (K : Q.h) (CL : Q.e) (b : Bx) (Z : Hp) (ts : List T) (vs : List V) (D : c9) (E : Ends) : Prop where
 nx : ∀ δ' σ' H' Z', aB Z Z' -> aL K CL b H' Z' δ' σ' ts vs -> D.nx δ' -> E.nx σ' H'
 rt : ∀ t v H' Z' δ' σ', aB Z Z' -> aL K CL b H' Z' δ' σ' (t :: ts) (v :: vs) -> D.rt t δ' -> E.rt v H'
 bk : ∀ δ' σ' H' Z', aB Z Z' -> aL K CL b H' Z' δ' σ' ts vs -> D.bk δ' -> E.bk σ' H'
 ct : ∀ δ' σ' H' Z', aB Z Z' -> aL K CL b H' Z' δ' σ' ts vs -> D.ct δ' -> E.ct σ' H'
def Ks (X : Cx) (CL : Q.e) (b : Bx) (st : Stmt) (δ : Q.f) (D : c9) : Prop :=
 ∀ (H Z : Hp) (σ : L2.St) (ts : List T) (vs : List V) (E : Ends), aL X.K CL b H Z δ σ ts vs -> Meets X.K CL b Z ts vs D E -> Kp X st E σ H
def cH (X : Cx) (CL : Q.e) (b : Bx) (st : List Stmt) (δ : Q.f) (D : c9) : Prop :=
 ∀ (H Z : Hp) (σ : L2.St) (ts : List T) (vs : List V) (E : Ends), aL X.K CL b H Z δ σ ts vs -> Meets X.K CL b Z ts vs D E -> Nu X st E σ H
theorem Meets.mono {D : c9} {E : Ends} (M : Meets K CL b Z ts vs D E) (e : aB Z Z') : Meets K CL b Z' ts vs D E :=
 ⟨fun _ _ _ _ s => M.nx _ _ _ _ (e.trans s), fun _ _ _ _ _ _ s => M.rt _ _ _ _ _ _ (e.trans s), fun _ _ _ _ s => M.bk _ _ _ _ (e.trans s), fun _ _ _ _ s => M.ct _ _ _ _ (e.trans s)⟩
theorem IY (zh : ∀ a o, H a = some o -> jU o = true -> Z a = some o) (h : sO K H a xs) : sO K Z a xs := by
 rcases h with (h | ⟨o, h⟩) | h
 . exact .inl (.inl (zh _ _ h rfl))
 . exact .inl (.inr ⟨o, zh _ _ h rfl⟩)
 . exact .inr h
theorem bf.mq (zh : ∀ a o, H a = some o -> jU o = true -> Z a = some o) {d : D} (k : d.mq = true) (h : bf K CL H d v) : bf K CL Z d v :=
 bf.rec (motive_1 := fun d v _ => d.mq = true -> bf K CL Z d v) (motive_2 := fun d v _ => D.bJ d = true -> aI K CL Z d v) (motive_3 := fun d v _ => True) (motive_4 := fun d v _ => True) (motive_5 := fun d v _ => True)
   (fun _ => .non) (fun b _ => .bl b) (fun b _ => .int b) (fun b _ => .str b) (fun _ k => by rw [D.mq] at k; cases k) (fun b _ => .val b) (fun h _ r k => .tup (IY zh h) (r (by rw [D.mq] at k; exact k))) (fun _ _ _ k => by rw [D.mq] at k; cases k) (fun _ _ _ k => by rw [D.mq] at k; cases k) (fun _ _ _ k => by rw [D.mq] at k; cases k) (fun _ _ _ k => by rw [D.mq] at k; cases k) (fun _ => .nil) (fun _ _ h r k => by rw [D.bJ, ah0] at k; exact .cons (h k.1) (r k.2)) trivial Q.u trivial Q.u trivial Q.u h k
theorem aI.mq (zh : ∀ a o, H a = some o -> jU o = true -> Z a = some o) {d : List D} {v : List V} (k : D.bJ d = true) (h : aI K CL H d v) : aI K CL Z d v :=
 aI.rec (motive_1 := fun d v _ => d.mq = true -> bf K CL Z d v) (motive_2 := fun d v _ => D.bJ d = true -> aI K CL Z d v) (motive_3 := fun d v _ => True) (motive_4 := fun d v _ => True) (motive_5 := fun d v _ => True)
   (fun _ => .non) (fun b _ => .bl b) (fun b _ => .int b) (fun b _ => .str b) (fun _ k => by rw [D.mq] at k; cases k) (fun b _ => .val b) (fun h _ r k => .tup (IY zh h) (r (by rw [D.mq] at k; exact k))) (fun _ _ _ k => by rw [D.mq] at k; cases k) (fun _ _ _ k => by rw [D.mq] at k; cases k) (fun _ _ _ k => by rw [D.mq] at k; cases k) (fun _ _ _ k => by rw [D.mq] at k; cases k) (fun _ => .nil) (fun _ _ h r k => by rw [D.bJ, ah0] at k; exact .cons (h k.1) (r k.2)) trivial Q.u trivial Q.u trivial Q.u h k
theorem cA.clean {Z1 : Hp} (zi : ∀ {d : D} {v : V}, d.mq = true -> bf K CL Z1 d v -> bf K CL Z d v) {kvs : List (Key × D)} {gs : List (Key × V)} (k : D.bJ (kvs.map (·.2)) = true) (h : cA K CL Z1 kvs gs) : cA K CL Z kvs gs :=
 cA.ind (P := fun kvs gs => D.bJ (kvs.map (·.2)) = true -> cA K CL Z kvs gs) (fun _ => .nil) (fun h _ i k => by rw [ahO, D.bJ, ah0] at k; exact .cons (zi k.1 h) (i k.2)) h k
theorem aU.clean {Z1 : Hp} (zh : ∀ a xs, Z1 a = some (.tup xs) -> Z a = some (.tup xs)) (zi : ∀ {d : D} {v : V}, d.mq = true -> bf K CL Z1 d v -> bf K CL Z d v) (k : t.clean = true) (h : aU K CL H Z1 t v fp) : aU K CL H Z t v fp :=
 aU.rec (motive_1 := fun t v fp _ => t.clean = true -> aU K CL H Z t v fp) (motive_2 := fun t v fp _ => T.bR t = true -> aD K CL H Z t v fp) (motive_3 := fun t v fp _ => T.jm t = true -> cT K CL H Z t v fp) (motive_4 := fun t v fp _ => T.iy t = true -> ck K CL H Z t v fp)
   (fun h k => .sh (zi (by rw [T.clean] at k; exact k) h)) (fun h _ r k => .tup (zh _ _ h) (r (by rw [T.clean] at k; exact k))) (fun h _ r k => .lst h (r (by rw [T.clean] at k; exact k))) (fun h _ r k => .ins h (r (by rw [T.clean] at k; exact k))) (fun h f k => .q8 h (cA.clean zi (by rw [T.clean] at k; exact k) f)) (fun h _ r k => .dct h (r (by rw [T.clean] at k; exact k))) (fun _ r k => .pin (r (by rw [T.clean] at k; exact k))) (fun _ => .nil) (fun _ _ h r k => by rw [T.bR, ah0] at k; exact .cons (h k.1) (r k.2)) (fun _ => .nil) (fun _ _ h r k => by rw [T.jm, ah0] at k; exact .cons (h k.1) (r k.2)) (fun _ => .nil) (fun _ _ h r k => by rw [T.iy, ah0] at k; exact .cons (h k.1) (r k.2)) h k
theorem aL.back {W W' : Hp} (S : Q.q) (hh : aB H H') (zw : aB Z W) (ww : aB W W') (wh : aB W' H') (new : ∀ a o, W' a = some o -> W a = none -> H a = none)
   (tp : ∀ a o, H' a = some o -> jU o = true -> W' a = some o) (r : aU K CL H' W' t v fp) (nd : fp.Nodup) (own : ∀ a ∈ fp, W' a = none /\ H a = none) (c : W = Z \/ t.clean = true) :
   ∃ Z', aB Z Z' /\ aL K CL b H' Z' δ σ (t :: ts) (v :: vs) := by
 classical
 let Z' : Hp := fun a => if (H a).isSome = true then Z a else W' a
 have zs : ∀ {a : Addr} {o : HO}, H a = some o -> Z' a = Z a := fun {a o} e => by
   show (if (H a).isSome = true then Z a else W' a) = Z a
   rw [ahN (by rw [e]; rfl)]
 have zn : ∀ {a : Addr}, H a = none -> Z' a = W' a := fun {a} e => by
   show (if (H a).isSome = true then Z a else W' a) = W' a
   rw [ahC (by rw [e]; simp)]
 have sz : aB Z Z' := fun a o q => by rw [zs (S.zh a o q)]; exact q
 have zw' : ∀ a o, Z' a = some o -> W' a = some o := fun a o q => by
   cases e : H a with
   | none => rw [zn e] at q; exact q
   | some u => rw [zs e] at q; exact ww a o (zw a o q)
 have ztp : ∀ a o, H' a = some o -> jU o = true -> Z' a = some o := fun a o q i => by
   cases e : H a with
   | none => rw [zn e]; exact tp a o q i
   | some u =>
     rw [zs e]
     have := hh a u e
     rw [q] at this; cases this
     exact S.tp a o e i
 have r' : aU K CL H' Z' t v fp := by
   rcases c with c | c
   . have : Z' = W' := by
       funext a
       cases e : H a with
       | none => exact zn e
       | some u =>
         rw [zs e]
         cases q : W' a with
         | none =>
           cases q2 : Z a with
           | none => rfl
           | some o => rw [ww a o (zw a o q2)] at q; cases q
         | some o =>
           cases q2 : W a with
           | none => rw [new a o q q2] at e; cases e
           | some o2 =>
             have := ww a o2 q2
             rw [q] at this; cases this
             rw [← c]; exact q2
     rw [this]; exact r
   . refine aU.clean (fun a xs h => ?_) (fun {d v} k h => ?_) c r
     . exact ztp a _ (wh a _ h) rfl
     . exact bf.mq (H := H') ztp k (h.mono wh)
 obtain ⟨f0, g0, e0, r0, nd0, k0⟩ := S.rep
 have old : ∀ a ∈ f0 ++ g0, ∃ o, H a = some o := fun a ha => (ahB.mp ha).elim (e0.there a) (r0.there a)
 have keep : ∀ a ∈ f0 ++ g0, H' a = H a := fun a ha => by
   obtain ⟨o, e⟩ := old a ha
   rw [e]; exact hh a o e
 refine ⟨Z', sz, ⟨⟨f0, fp ++ g0, e0.mono sz (fun a ha => keep a (ahy _ ha)), .cons r' (r0.mono sz fun a ha => keep a (ahu _ ha)), ?_, fun a ha => ?_⟩, S.bh.trans hh, S.zz.trans sz, fun a o q => wh a o (zw' a o q), fun a o q z => ?_, ztp, S.tab⟩⟩
 . have hp : (f0 ++ (fp ++ g0)).Perm (fp ++ (f0 ++ g0)) := by
     rw [← ahv, ← ahv]
     exact ahV.append_right g0
   refine hp.nodup_iff.mpr (ah3.mpr ⟨nd, nd0, fun a ha c hc e => ?_⟩)
   subst e
   obtain ⟨o, q⟩ := old a hc
   rw [(own a ha).2] at q; cases q
 . have : a ∈ f0 ++ g0 \/ a ∈ fp := by
     simp only [ahB] at ha ⊢
     rcases ha with h | h | h
     . exact .inl (.inl h)
     . exact .inr h
     . exact .inl (.inr h)
   rcases this with h | h
   . obtain ⟨o, q⟩ := old a h
     exact ⟨by rw [zs q]; exact (k0 a h).1, (k0 a h).2⟩
   . exact ⟨by rw [zn (own a h).2]; exact (own a h).1, S.bh.free (own a h).2⟩
 . cases e : H a with
   | none => exact S.bh.free e
   | some u => rw [zs e] at q; exact S.new a o q z
section
variable {δ1 δ2 : Q.f} {e1 e2 : Expr} {pos : Pos} {d d1 d2 : D}
theorem VA (h : bS X CL b e δ t δ1) : eF X CL b e δ t.aZ δ1 := fun H Z σ ts vs Q S k => h H Z σ ts vs Q S fun v H' Z' z s S' => k v H' Z' z s S'.pop S'.view
theorem ao (h : bS X CL b e δ (.sh d) δ1) : eF X CL b e δ d δ1 := by have := VA h; rwa [T.aZ] at this
theorem fk (h : eF X CL b e δ d δ1) (i : d.mq = true) : bS X CL b e δ (.sh d) δ1 := fun H Z σ ts vs Q S k => h H Z σ ts vs Q S fun v H' Z' z s S' r => k v H' Z' z s (S'.push (bf.mq S'.tp i r))
theorem Ct (h : bS X CL b e δ t δ1) : bS X CL b e δ (.sh t.aZ) δ1 := fun H Z σ ts vs Q S k => h H Z σ ts vs Q S fun v H' Z' z s S' => by
 obtain ⟨Z2, z2, S2⟩ := S'.Cr
 exact k v H' Z2 (z.trans z2) s S2
theorem au {i : Int} {j : Nat} : bS X CL b (.Constant (.int i) j pos) δ (.sh (.int i)) δ := fun H Z σ ts vs Q S k => bZ F7 (k _ _ Z (.refl _) (.refl _) (S.push (.int i)))
theorem IZ {i : Bool} {j : Nat} : bS X CL b (.Constant (.bool i) j pos) δ (.sh (.bl i)) δ := fun H Z σ ts vs Q S k => bZ ZV (k _ _ Z (.refl _) (.refl _) (S.push (.bl i)))
theorem bW {x : Str} {j : Nat} : bS X CL b (.Constant (.str x) j pos) δ (.sh (.str x)) δ := fun H Z σ ts vs Q S k => bZ Wk (k _ _ Z (.refl _) (.refl _) (S.push (.str x)))
section
variable {x : Str} (i : Nat) (hi : X.N[i]? = some x := by rfl) (hv : Vm X.env.scope x := by first | exact Or.inl rfl | exact Or.inr (Or.inl rfl) | exact Or.inr (Or.inr rfl)) (hd : Q.m := by decide) (j3 : (x == ("__classdict__" : Str)) = false := by decide)
include hi hv hd j3
theorem Xb (h : δ[i]? = some (some (.sh d)) := by rfl) : bS X CL b (.Name x pos) δ (.sh d) δ := fun H Z σ ts vs Q S k => by
 obtain ⟨v, e, r⟩ := S.IX h
 exact bZ (eB hi hv hd j3) ⟨v, e, k v H Z (.refl _) (.refl _) (S.push r)⟩
theorem R0 (h : δ[i]? = some (some t) := by rfl) : bS X CL b (.Name x pos) δ t (δ.set i none) := fun H Z σ ts vs Q S k => by
 obtain ⟨v, e, S'⟩ := S.move h
 exact bZ (eB hi hv hd j3) ⟨v, e, k v H Z (.refl _) (.refl _) S'⟩
theorem Xc (h : δ[i]? = some (some t) := by rfl) : eF X CL b (.Name x pos) δ t.aZ δ := fun H Z σ ts vs Q S k => by
 obtain ⟨v, e, r⟩ := S.look h
 exact bZ (eB hi hv hd j3) ⟨v, e, k v H Z (.refl _) (.refl _) S r⟩
end
def Rg : D -> Option V
 | .non => some .non
 | .bl b => some (.bl b)
 | .int i => some (.int i)
 | .str x => some (.str x)
 | _ => none
theorem bf.sc {d : D} {w : V} (r : bf K CL Z d v) (h : Rg d = some w) : v = w := by
 cases r <;> first | (exact ahP h) | (cases h)
theorem I0 {d : D} {w : V} (h : Rg d = some w) : bf K CL Z d w := by
 cases d <;> first | (cases h; constructor) | (cases h)
theorem qk {op : Operator} {r : R2} {w1 w2 w : V} (ho : u9 X (binaryOp op) r) (h1 : eF X CL b e1 δ d1 δ1) (h2 : eF X CL b e2 δ1 d2 δ2) (s1 : Rg d1 = some w1) (s2 : Rg d2 = some w2) (s3 : Rg d = some w)
   (hr : ∀ (H : Hp) (Q : VK), Q w H -> r w1 w2 H Q) : bS X CL b (.BinOp e1 op e2 pos) δ (.sh d) δ2 := fun H Z σ ts vs Q S k => by
 refine bZ (MN ho c7 c7) (h1 H Z σ ts vs _ S fun v1 H1 Z1 z1 k1 S1 r1 => h2 H1 Z1 σ ts vs _ S1 fun v2 H2 Z2 z2 k2 S2 r2 => ?_)
 rw [r1.sc s1, r2.sc s2]
 exact hr H2 Q (k w H2 Z2 (z1.trans z2) (k1.trans k2) (S2.push (I0 s3)))
theorem ql {i j : Int} (h1 : eF X CL b e1 δ (.int i) δ1) (h2 : eF X CL b e2 δ1 (.int j) δ2) : bS X CL b (.BinOp e1 .Add e2 pos) δ (.sh (.int (i + j))) δ2 := qk MP h1 h2 rfl rfl rfl fun _ _ q => ⟨i, j, rfl, rfl, q⟩
theorem Gw {i j : Int} (h1 : eF X CL b e1 δ (.int i) δ1) (h2 : eF X CL b e2 δ1 (.int j) δ2) : bS X CL b (.BinOp e1 .Sub e2 pos) δ (.sh (.int (i - j))) δ2 := qk MQ h1 h2 rfl rfl rfl fun _ _ q => ⟨i, j, rfl, rfl, q⟩
theorem Nx {i j : Int} (h1 : eF X CL b e1 δ (.int i) δ1) (h2 : eF X CL b e2 δ1 (.int j) δ2) (c : RB i j) : bS X CL b (.BinOp e1 .Mult e2 pos) δ (.sh (.int (i * j))) δ2 := qk WM h1 h2 rfl rfl rfl fun _ _ q => ⟨i, j, rfl, rfl, c, q⟩
theorem mX {i j : Int} (h1 : eF X CL b e1 δ (.int i) δ1) (h2 : eF X CL b e2 δ1 (.int j) δ2) (c : 0 < j) : bS X CL b (.BinOp e1 .Mod e2 pos) δ (.sh (.int (i % j))) δ2 := qk WN h1 h2 rfl rfl rfl fun _ _ q => ⟨i, j, rfl, rfl, c, q⟩
theorem Ja {i j : Int} (h1 : eF X CL b e1 δ (.int i) δ1) (h2 : eF X CL b e2 δ1 (.int j) δ2) (c : aaf i j) : bS X CL b (.BinOp e1 .FloorDiv e2 pos) δ (.sh (.int (i / j))) δ2 := qk RC h1 h2 rfl rfl rfl fun _ _ q => ⟨i, j, rfl, rfl, c, q⟩
theorem sQ {i j : Int} (h1 : eF X CL b e1 δ (.int i) δ1) (h2 : eF X CL b e2 δ1 (.int j) δ2) (c : aag i j) : bS X CL b (.BinOp e1 .Pow e2 pos) δ (.sh (.int (i ^ j.toNat))) δ2 := qk WO h1 h2 rfl rfl rfl fun _ _ q => ⟨i, j, rfl, rfl, c, q⟩
theorem Xd {x y : Str} (h1 : eF X CL b e1 δ (.str x) δ1) (h2 : eF X CL b e2 δ1 (.str y) δ2) (c : x.length + y.length <= sizeLine) : bS X CL b (.BinOp e1 .Add e2 pos) δ (.sh (.str (x ++ y))) δ2 := qk yg h1 h2 rfl rfl rfl fun _ _ q => ⟨x, y, rfl, rfl, c, q⟩
theorem BF {op : CmpOp} {r : R2} {p : Bool} {w1 w2 : V} (ho : u9 X (compareOp op) r) (h1 : eF X CL b e1 δ d1 δ1) (h2 : eF X CL b e2 δ1 d2 δ2) (s1 : Rg d1 = some w1) (s2 : Rg d2 = some w2)
   (hr : ∀ (H : Hp) (Q : VK), Q (.bl p) H -> r w1 w2 H Q) (hm : behindInMarks op e2 = false) : vg X CL b (.Compare e1 [op] [e2] pos) δ p δ2 /\ bS X CL b (.Compare e1 [op] [e2] pos) δ (.sh (.bl p)) δ2 := by
 constructor
 . intro H Z σ ts vs Q S k
   refine EA (tS ho c7 c7 hm) (h1 H Z σ ts vs _ S fun v1 H1 Z1 z1 k1 S1 r1 => h2 H1 Z1 σ ts vs _ S1 fun v2 H2 Z2 z2 k2 S2 r2 => ?_)
   rw [r1.sc s1, r2.sc s2]
   exact hr H2 _ ⟨p, rfl, k H2 Z2 (z1.trans z2) (k1.trans k2) S2⟩
 . intro H Z σ ts vs Q S k
   refine bZ (Cb ho c7 c7 hm) (h1 H Z σ ts vs _ S fun v1 H1 Z1 z1 k1 S1 r1 => h2 H1 Z1 σ ts vs _ S1 fun v2 H2 Z2 z2 k2 S2 r2 => ?_)
   rw [r1.sc s1, r2.sc s2]
   exact hr H2 _ (k _ H2 Z2 (z1.trans z2) (k1.trans k2) (S2.push (.bl p)))
theorem vh {i j : Int} (h1 : eF X CL b e1 δ (.int i) δ1) (h2 : eF X CL b e2 δ1 (.int j) δ2) : vg X CL b (.Compare e1 [.Eq] [e2] pos) δ (decide (i = j)) δ2 /\ bS X CL b (.Compare e1 [.Eq] [e2] pos) δ (.sh (.bl (decide (i = j)))) δ2 :=
 BF MS h1 h2 rfl rfl (fun _ _ q => ⟨rfl, by rw [show decide (V.int i = V.int j) = decide (i = j) by simp]; exact q⟩) (mU _)
theorem Xe {i j : Int} (h1 : eF X CL b e1 δ (.int i) δ1) (h2 : eF X CL b e2 δ1 (.int j) δ2) : vg X CL b (.Compare e1 [.NotEq] [e2] pos) δ (!decide (i = j)) δ2 /\ bS X CL b (.Compare e1 [.NotEq] [e2] pos) δ (.sh (.bl (!decide (i = j)))) δ2 :=
 BF aai h1 h2 rfl rfl (fun _ _ q => ⟨rfl, by rw [show decide (V.int i = V.int j) = decide (i = j) by simp]; exact q⟩) (mU _)
theorem j6 {i j : Str} (h1 : eF X CL b e1 δ (.str i) δ1) (h2 : eF X CL b e2 δ1 (.str j) δ2) : vg X CL b (.Compare e1 [.Eq] [e2] pos) δ (decide (i = j)) δ2 /\ bS X CL b (.Compare e1 [.Eq] [e2] pos) δ (.sh (.bl (decide (i = j)))) δ2 :=
 BF MS h1 h2 rfl rfl (fun _ _ q => ⟨rfl, by rw [show decide (V.str i = V.str j) = decide (i = j) by simp]; exact q⟩) (mU _)
theorem BG {i j : Int} (h1 : eF X CL b e1 δ (.int i) δ1) (h2 : eF X CL b e2 δ1 (.int j) δ2) : vg X CL b (.Compare e1 [.Lt] [e2] pos) δ (decide (i < j)) δ2 /\ bS X CL b (.Compare e1 [.Lt] [e2] pos) δ (.sh (.bl (decide (i < j)))) δ2 := BF aaj h1 h2 rfl rfl (fun _ _ q => ⟨i, j, rfl, rfl, q⟩) (mU _)
theorem aaF {i j : Int} (h1 : eF X CL b e1 δ (.int i) δ1) (h2 : eF X CL b e2 δ1 (.int j) δ2) : vg X CL b (.Compare e1 [.LtE] [e2] pos) δ (decide (i <= j)) δ2 /\ bS X CL b (.Compare e1 [.LtE] [e2] pos) δ (.sh (.bl (decide (i <= j)))) δ2 := BF aak h1 h2 rfl rfl (fun _ _ q => ⟨i, j, rfl, rfl, q⟩) (mU _)
theorem aaG {i j : Int} (h1 : eF X CL b e1 δ (.int i) δ1) (h2 : eF X CL b e2 δ1 (.int j) δ2) : vg X CL b (.Compare e1 [.Gt] [e2] pos) δ (decide (j < i)) δ2 /\ bS X CL b (.Compare e1 [.Gt] [e2] pos) δ (.sh (.bl (decide (j < i)))) δ2 := BF aal h1 h2 rfl rfl (fun _ _ q => ⟨i, j, rfl, rfl, q⟩) (mU _)
end
theorem aD.split : ∀ {as bs : List T} {us ws : List V} {gp : List Addr}, as.length = us.length -> aD K CL H Z (as ++ bs) (us ++ ws) gp -> ∃ g1 g2, gp = g1 ++ g2 /\ aD K CL H Z as us g1 /\ aD K CL H Z bs ws g2
 | [], _, [], _, gp, _, r => ⟨[], gp, rfl, .nil, r⟩
 | [], _, _ :: _, _, _, h, _ => by simp at h
 | _ :: _, _, [], _, _, h, _ => by simp at h
 | a :: as, bs, u :: us, ws, gp, h, r => by
   cases r with
   | @cons _ _ _ _ f1 f2 r1 r2 =>
     obtain ⟨g1, g2, e, h1, h2⟩ := aD.split (as := as) (us := us) (by simpa using h) r2
     exact ⟨f1 ++ g1, g2, by rw [e, ahv], .cons r1 h1, h2⟩
variable {us : List V}
theorem aD.app {as bs : List T} {ws : List V} {g1 g2 : List Addr} (h : aD K CL H Z as us g1) (q : aD K CL H Z bs ws g2) : aD K CL H Z (as ++ bs) (us ++ ws) (g1 ++ g2) :=
 aD.ind (P := fun as us g1 => aD K CL H Z (as ++ bs) (us ++ ws) (g1 ++ g2)) q (fun r _ i => by rw [ahv]; exact .cons r i) h
theorem aD.rev : ∀ {as : List T} {us : List V} {g : List Addr}, aD K CL H Z as.reverse us.reverse g -> ∃ g', aD K CL H Z as us g' /\ g'.Perm g
 | [], [], g, r => by
   have r' : aD K CL H Z [] [] g := r
   cases r'
   exact ⟨[], .nil, ajJ _⟩
 | [], u :: us, g, r => by have := r.length; simp at this
 | a :: as, [], g, r => by have := r.length; simp at this
 | a :: as, u :: us, g, r => by
   rw [aib, aib] at r
   have hl := r.length
   obtain ⟨g1, g2, e, r1, r2⟩ := aD.split (by simp at hl ⊢; omega) r
   subst e
   obtain ⟨g', r', p⟩ := aD.rev r1
   cases r2 with
   | @cons _ _ _ _ f1 f2 q1 q2 =>
     cases q2
     refine ⟨f1 ++ g', .cons q1 r', ?_⟩
     rw [ahJ]
     exact (ah6 f1 p).trans ahV
theorem aD.ofF : ∀ {ds : List D} {us : List V}, aI K CL Z ds us -> aD K CL H Z (ds.map T.sh) us []
 | _, _, .nil => .nil
 | _, _, .cons r t => .cons (fp := []) (gp := []) (.sh r) (aD.ofF t)
theorem aD.toF : ∀ {ds : List D} {us : List V} {g : List Addr}, aD K CL H Z (ds.map T.sh) us g -> aI K CL Z ds us /\ g = []
 | [], _, _, r => by
   have r' : aD K CL H Z [] _ _ := r
   cases r'
   exact ⟨.nil, rfl⟩
 | d :: ds, _, _, r => by
   have r' : aD K CL H Z (T.sh d :: ds.map T.sh) _ _ := r
   cases r' with
   | cons r1 r2 =>
     cases r1 with
     | sh h =>
       obtain ⟨q, e⟩ := aD.toF r2
       exact ⟨.cons h q, by rw [e]; rfl⟩
theorem iz : ∀ (ds : List D), T.c5 (ds.map T.sh) = ds
 | [] => rfl
 | d :: ds => by rw [ahO, T.c5, iz ds, T.aZ]
theorem EB : ∀ (ts : List T), (T.c5 ts).length = ts.length
 | [] => rfl
 | d :: ds => by rw [T.c5, ahY, ahY, EB ds]
variable {tl : List T}
theorem aL.Cu (S : aL K CL b H Z δ σ (tl.reverse ++ ts) (us.reverse ++ vs)) (hl : us.length = tl.length) (hp : H p = none) :
   aB Z (upd Z p (.tup us)) /\ aB H (upd H p (.tup us)) /\ aL K CL b (upd H p (.tup us)) (upd Z p (.tup us)) δ σ (.tup tl :: ts) (.ref p :: vs) := by
 obtain ⟨fp, gp, e, r, nd, k⟩ := S.rep
 obtain ⟨g1, g2, eg, r1, r2⟩ := aD.split (by simp [hl]) r
 subst eg
 obtain ⟨g', r', pm⟩ := r1.rev
 have zp : Z p = none := S.zh.free hp
 have sz : aB Z (upd Z p (.tup us)) := aB.upd zp
 have sh : aB H (upd H p (.tup us)) := aB.upd hp
 have keep : ∀ a ∈ fp ++ (g1 ++ g2), a ≠ p := fun a ha => by
   have : ∃ o, H a = some o := by
     rcases ahB.mp ha with h | h
     . exact e.there a h
     . exact r.there a h
   obtain ⟨o, q⟩ := this
   exact bC q hp
 have Jb : (fp ++ (g' ++ g2)).Perm (fp ++ (g1 ++ g2)) := (pm.append_right g2).append_left fp
 have kk : ∀ a ∈ fp ++ (g' ++ g2), a ≠ p := fun a ha => keep a (Jb.mem_iff.mp ha)
 refine ⟨sz, sh, ⟨⟨fp, g' ++ g2, e.mono sz (fun a ha => aj (keep a (ahy _ ha))), .cons (.tup aC (r'.mono sz fun a ha => aj (kk a (by simp [ha])))) (r2.mono sz fun a ha => aj (keep a (by simp [ha]))), Jb.nodup_iff.mpr nd, fun a ha => ?_⟩, S.bh.trans sh, S.zz.trans sz, fun a o q => ?_, fun a o q z => ?_, fun a o q i => ?_, S.tab⟩⟩
 . exact ⟨by rw [aj (kk a ha)]; exact (k a (Jb.mem_iff.mp ha)).1, (k a (Jb.mem_iff.mp ha)).2⟩
 . by_cases ha : a = p
   . subst ha; rw [aC] at q ⊢; exact q
   . rw [aj ha] at q ⊢; exact S.zh a o q
 . by_cases ha : a = p
   . subst ha; exact S.bh.free hp
   . rw [aj ha] at q; exact S.new a o q z
 . by_cases ha : a = p
   . subst ha; rw [aC] at q ⊢; exact q
   . rw [aj ha] at q ⊢; exact S.tp a o q i
theorem aL.oJ {g0 : List Addr} (S : aL K CL b H Z δ σ (tl.reverse ++ ts) (us.reverse ++ vs)) (hl : us.length = tl.length) (hp : H p = none) :
   aB H (upd H p (.lst us)) /\ aL K CL b (upd H p (.lst us)) Z δ σ (.lst tl :: ts) (.ref p :: vs) := by
 obtain ⟨fp, gp, e, r, nd, k⟩ := S.rep
 obtain ⟨g1, g2, eg, r1, r2⟩ := aD.split (by simp [hl]) r
 subst eg
 obtain ⟨g', r', pm⟩ := r1.rev
 have zp : Z p = none := S.zh.free hp
 have sh : aB H (upd H p (.lst us)) := aB.upd hp
 have keep : ∀ a ∈ fp ++ (g1 ++ g2), a ≠ p := fun a ha => by
   have : ∃ o, H a = some o := by
     rcases ahB.mp ha with h | h
     . exact e.there a h
     . exact r.there a h
   obtain ⟨o, q⟩ := this
   exact bC q hp
 have Jb : (fp ++ (g' ++ g2)).Perm (fp ++ (g1 ++ g2)) := (pm.append_right g2).append_left fp
 have kk : ∀ a ∈ fp ++ (g' ++ g2), a ≠ p := fun a ha => keep a (Jb.mem_iff.mp ha)
 have pm3 : (fp ++ ((p :: g') ++ g2)).Perm (p :: (fp ++ (g' ++ g2))) := by
   rw [ahT]; exact aiE
 refine ⟨sh, ⟨⟨fp, (p :: g') ++ g2, e.mono (.refl _) (fun a ha => aj (keep a (ahy _ ha))), .cons (.lst aC (r'.mono (.refl _) fun a ha => aj (kk a (by simp [ha])))) (r2.mono (.refl _) fun a ha => aj (keep a (by simp [ha]))), ?_, fun a ha => ?_⟩, S.bh.trans sh, S.zz, S.zh.trans sh, S.new, fun a o q i => ?_, S.tab⟩⟩
 . refine pm3.nodup_iff.mpr (aia.mpr ⟨fun h => kk p h rfl, Jb.nodup_iff.mpr nd⟩)
 . rcases ahH.mp (pm3.mem_iff.mp ha) with h | h
   . subst h; exact ⟨zp, S.bh.free hp⟩
   . exact k a (Jb.mem_iff.mp h)
 . by_cases ha : a = p
   . subst ha; rw [aC] at q; cases q; cases i
   . rw [aj ha] at q; exact S.tp a o q i
variable {δ1 δ2 : Q.f} {e1 e2 : Expr} {p q : Bool} {pos : Pos} {d : D} {ds : List D}
theorem bA : Ec X CL b [] δ [] δ := fun H Z σ ts vs Q S k => Cq dF (k [] H Z rfl (.refl _) (.refl _) S)
theorem aE (h1 : bS X CL b e δ t δ1) (h2 : Ec X CL b es δ1 tl δ2) (hs : Q.r := by exact aV rfl) : Ec X CL b (e :: es) δ (t :: tl) δ2 := fun H Z σ ts vs Q S k =>
 Cq (bI c7 Cp hs) (h1 H Z σ ts vs _ S fun v H1 Z1 z1 k1 S1 => h2 H1 Z1 σ _ _ _ S1 fun us H2 Z2 hl z2 k2 S2 => k (v :: us) H2 Z2 (by simp [hl]) (z1.trans z2) (k1.trans k2) (by
   rw [aib, aib, ahv, ahv]
   exact S2))
theorem cU : Mu X CL b [] δ [] δ := fun H Z σ ts vs Q S k => Cq dF (k [] H Z (.refl _) (.refl _) S .nil)
theorem aJ (h1 : eF X CL b e δ d δ1) (h2 : Mu X CL b es δ1 ds δ2) (hs : Q.r := by exact aV rfl) : Mu X CL b (e :: es) δ (d :: ds) δ2 := fun H Z σ ts vs Q S k =>
 Cq (bI c7 Cp hs) (h1 H Z σ ts vs _ S fun v H1 Z1 z1 k1 S1 r1 => h2 H1 Z1 σ _ _ _ S1 fun us H2 Z2 z2 k2 S2 r2 => k (v :: us) H2 Z2 (z1.trans z2) (k1.trans k2) S2 (.cons (r1.mono k2) r2))
variable {j : Nat}
theorem oK (h : Ec X CL b es δ tl δ1) (hl : tl.length <= sizeLine) : bS X CL b (.Tuple es j pos) δ (.tup tl) δ1 := fun H Z σ ts vs Q S k =>
 bZ (MZ Cp) (h H Z σ ts vs _ S fun us H1 Z1 hu z1 k1 S1 => ⟨by rw [hu]; exact hl, fun p hp => by
   obtain ⟨a, c, S2⟩ := S1.Cu hu hp
   exact k _ _ _ (z1.trans a) (k1.trans c) S2⟩)
theorem cI (h : Ec X CL b es δ (ds.map T.sh) δ1) (hl : ds.length <= sizeLine) : bS X CL b (.Tuple es j pos) δ (.sh (.tup ds)) δ1 := by
 have := Ct (oK (pos := pos) (j := j) h (by simpa using hl))
 rwa [T.aZ, iz] at this
theorem dG (h : Ec X CL b es δ tl δ1) (hl : tl.length <= sizeLine) : bS X CL b (.List es pos) δ (.lst tl) δ1 := fun H Z σ ts vs Q S k =>
 bZ (M0 Cp) (h H Z σ ts vs _ S fun us H1 Z1 hu z1 k1 S1 => ⟨by rw [hu]; exact hl, fun p hp => by
   obtain ⟨c, S2⟩ := S1.oJ (g0 := []) hu hp
   exact k _ _ _ z1 (k1.trans c) S2⟩)
theorem Ny (h : bS X CL b e δ (.sh (.bl p)) δ1) (he : ∀ whole, isTrue e X.env whole = (do let v ← whole; standAt e.pos; holding [v] (truthy v)) := by intro _; rfl) : vg X CL b e δ p δ1 := fun H Z σ ts vs Q S k =>
 EA (Wm c7 he) (h H Z σ ts vs _ S fun v H1 Z1 z1 k1 S1 => ⟨p, by have := S1.view; rw [T.aZ] at this; exact this.sc rfl, k H1 Z1 z1 k1 S1.pop⟩)
theorem Nz (h : vg X CL b e δ p δ1) : vg X CL b (.UnaryOp .Not e pos) δ (!p) δ1 := fun H Z σ ts vs Q S k => EA (Wq Vz) (h H Z σ ts vs _ S fun H1 Z1 z1 k1 S1 => k H1 Z1 z1 k1 S1)
def Xf (X : Cx) (e : Expr) : TT := fun σ H Q => ∀ (whole : Sem Value) (pins : Q.i) (s : Shared), Inv X pins σ H s -> wpAny Q.d X.A (isTrue e X.env whole) (TP X pins σ Q) X.xe s
theorem pwS : PW X e (Xf X e) := fun whole pins s _ _ _ I h => h whole pins s I
def Xg (X : Cx) (CL : Q.e) (b : Bx) (e : Expr) (δ : Q.f) (p : Bool) (δ' : Q.f) : Prop :=
 ∀ (H Z : Hp) (σ : L2.St) (ts : List T) (vs : List V) (Q : Bool -> Hp -> Prop), aL X.K CL b H Z δ σ ts vs -> (∀ H' Z', aB Z Z' -> aB H H' -> aL X.K CL b H' Z' δ' σ ts vs -> Q p H') -> Xf X e σ H Q
theorem R1 {t : TT} (h : PW X e t) (q : t σ H Q) : Xf X e σ H Q := fun whole pins s I => h whole pins s σ H Q I q
theorem R3 (h : Xg X CL b e δ p δ1) : vg X CL b e δ p δ1 := fun H Z σ ts vs Q S k pins s I => h H Z σ ts vs Q S k _ pins s I
theorem Cv (h : vg X CL b e δ p δ1) : Xg X CL b (.BoolOp .And [e] pos) δ p δ1 := fun H Z σ ts vs Q S k => R1 (Ru Vz) (h H Z σ ts vs _ S k)
theorem Xh (h : vg X CL b e δ p δ1) : Xg X CL b (.BoolOp .Or [e] pos) δ p δ1 := fun H Z σ ts vs Q S k => R1 (Wn Vz) (h H Z σ ts vs _ S k)
theorem Gy (h : vg X CL b e δ p δ1) (h2 : p = true -> Xg X CL b (.BoolOp .And (e2 :: es) pos) δ1 q δ1) : Xg X CL b (.BoolOp .And (e :: e2 :: es) pos) δ (p && q) δ1 := fun H Z σ ts vs Q S k =>
 R1 (Wo Vz pwS) (h H Z σ ts vs _ S fun H1 Z1 z1 k1 S1 => by
   cases p with
   | true => exact Nk (h2 rfl H1 Z1 σ ts vs _ S1 fun H2 Z2 z2 k2 S2 => k H2 Z2 (z1.trans z2) (k1.trans k2) S2)
   | false => exact Nj (k H1 Z1 z1 k1 S1))
theorem aaH (h : vg X CL b e δ p δ1) (h2 : p = false -> Xg X CL b (.BoolOp .Or (e2 :: es) pos) δ1 q δ1) : Xg X CL b (.BoolOp .Or (e :: e2 :: es) pos) δ (p || q) δ1 := fun H Z σ ts vs Q S k =>
 R1 (ZW Vz pwS) (h H Z σ ts vs _ S fun H1 Z1 z1 k1 S1 => by
   cases p with
   | true => exact Nk (k H1 Z1 z1 k1 S1)
   | false => exact Nj (h2 rfl H1 Z1 σ ts vs _ S1 fun H2 Z2 z2 k2 S2 => k H2 Z2 (z1.trans z2) (k1.trans k2) S2))
variable {k : Int}
theorem xB (r : aI K CL Z ds vs) (h : wF ds k = some d) : ∃ v, wF vs k = some v /\ bf K CL Z d v := by
 unfold wF at h ⊢
 rw [← r.length]
 cases e : Ew ds.length k with
 | none => rw [e] at h; cases h
 | some j =>
   rw [e] at h
   exact r.get h
theorem cL (h1 : eF X CL b e1 δ (.tup ds) δ1) (h2 : eF X CL b e2 δ1 (.int k) δ2) (hk : wF ds k = some d) (hs : oG e2 := by exact fun _ _ => rfl) : eF X CL b (.Subscript e1 e2 pos) δ d δ2 := fun H Z σ ts vs Q S kk =>
 bZ (yk Ci c7 c7 hs) (h1 H Z σ ts vs _ S fun v1 H1 Z1 z1 k1 S1 r1 => h2 H1 Z1 σ ts vs _ S1 fun v2 H2 Z2 z2 k2 S2 r2 => by
   have r1' := r1.mono k2
   cases r1' with
   | tup hq rr =>
     obtain ⟨v, hv, rv⟩ := xB rr hk
     exact ⟨_, _, k, v, rfl, r2.sc rfl, hq, hv, kk v H2 Z2 (z1.trans z2) (k1.trans k2) S2 rv⟩)
theorem oM (h1 : eF X CL b e1 δ (.lst ds) δ1) (h2 : eF X CL b e2 δ1 (.int k) δ2) (hk : wF ds k = some d) (hs : oG e2 := by exact fun _ _ => rfl) : eF X CL b (.Subscript e1 e2 pos) δ d δ2 := fun H Z σ ts vs Q S kk =>
 bZ (yk Cg c7 c7 hs) (h1 H Z σ ts vs _ S fun v1 H1 Z1 z1 k1 S1 r1 => h2 H1 Z1 σ ts vs _ S1 fun v2 H2 Z2 z2 k2 S2 r2 => by
   have r1' := r1.mono k2
   cases r1' with
   | lst hq rr =>
     obtain ⟨v, hv, rv⟩ := xB rr hk
     exact ⟨_, _, k, v, rfl, r2.sc rfl, hq, hv, kk v H2 Z2 (z1.trans z2) (k1.trans k2) S2 rv⟩)
theorem yo (h1 : bS X CL b e1 δ (.sh (.tup ds)) δ1) (h2 : eF X CL b e2 δ1 (.int k) δ2) (hk : wF ds k = some d) (hs : oG e2 := by exact fun _ _ => rfl) : bS X CL b (.Subscript e1 e2 pos) δ (.sh d) δ2 := fun H Z σ ts vs Q S kk =>
 bZ (yk Ci c7 c7 hs) (h1 H Z σ ts vs _ S fun v1 H1 Z1 z1 k1 S1 => h2 H1 Z1 σ _ _ _ S1 fun v2 H2 Z2 z2 k2 S2 r2 => by
   obtain ⟨fp, gp, _, r, _, _⟩ := S2.rep
   cases r with
   | cons r _ =>
     cases r with
     | sh r =>
       cases r with
       | tup hq rr =>
         obtain ⟨v, hv, rv⟩ := xB rr hk
         exact ⟨_, _, k, v, rfl, r2.sc rfl, aB.Gs S2.zh hq, hv, kk v H2 Z2 (z1.trans z2) (k1.trans k2) (S2.pop.push rv)⟩)
theorem aL.tZ : ∀ {ds : List D} {us : List V} {ts : List T} {vs : List V}, aI K CL Z ds us -> aL K CL b H Z δ σ ts vs -> aL K CL b H Z δ σ ((ds.map T.sh).reverse ++ ts) (us.reverse ++ vs)
 | _, _, _, _, .nil, S => S
 | _, _, ts, vs, .cons (d := d) (v := v) (ds := ds) (vs := us) r t, S => by
   rw [ahO, aib, aib, ahv, ahv]
   exact aL.tZ t (S.push r)
theorem aL.drops (S : aL K CL b H Z δ σ (tl ++ ts) (us ++ vs)) (hl : us.length = tl.length) : aL K CL b H Z δ σ ts vs := by
 induction tl generalizing us with
 | nil =>
   cases us with
   | nil => exact S
   | cons _ _ => simp at hl
 | cons t tl ih =>
   cases us with
   | nil => simp at hl
   | cons u us => exact ih S.pop (by simpa using hl)
theorem aL.R4 {ds : List D} (S : aL K CL b H Z δ σ ((ds.map T.sh).reverse ++ ts) (us.reverse ++ vs)) (hl : us.length = ds.length) : aI K CL Z ds us := by
 obtain ⟨fp, gp, e, r, nd, k⟩ := S.rep
 obtain ⟨g1, g2, eg, r1, r2⟩ := aD.split (by simp [hl]) r
 obtain ⟨g', r', pm⟩ := r1.rev
 exact r'.toF.1
section
variable {pp : Pos} {ds : List D}
theorem xC (hm : X.mg "len" = none) (h : eF X CL b e δ (.lst ds) δ1) (hg : Gl X "len" := by rfl) (hs : Q.y := by exact aV rfl) (hpl : (backTo pos (starEach ([] : List Expr) X.env)).any (·.1) = false := by rfl) : bS X CL b (.Call (.Name "len" pp) [e] [] pos) δ (.sh (.int ds.length)) δ1 := fun H Z σ ts vs Q S k =>
 bZ (tU Cm hg hm PySem.boot_len (bI c7 dF hs) (he := hs)) (h H Z σ ts vs _ S fun v H1 Z1 z1 k1 S1 r => by
   cases r with
   | lst hq rr => exact ⟨_, _, rfl, .inl hq, by rw [← rr.length]; exact k _ H1 Z1 z1 k1 (S1.push (.int _))⟩)
theorem nL (hm : X.mg "list" = none) (h : bS X CL b e δ (.sh (.lst ds)) δ1) (hg : Gl X "list" := by rfl) (hv : bootBuiltins "list" = some (.type "list") := by rfl) (hs : Q.y := by exact aV rfl) : bS X CL b (.Call (.Name "list" pp) [e] [] pos) δ (.lst (ds.map T.sh)) δ1 := fun H Z σ ts vs Q S k =>
 bZ (ic oH hg hm hv (bI c7 dF hs) (he := hs)) (h H Z σ ts vs _ S fun v H1 Z1 z1 k1 S1 => by
   obtain ⟨fp, gp, _, r, _, _⟩ := S1.rep
   cases r with
   | cons r _ =>
     cases r with
     | sh r =>
       cases r with
       | lst hq rr =>
         refine ⟨_, _, rfl, .inl (S1.zh.seq hq), fun l hl => ?_⟩
         obtain ⟨c, S2⟩ := (aL.tZ rr S1.pop).oJ (g0 := []) (by simp [rr.length]) hl
         exact k _ _ _ z1 (k1.trans c) S2)
theorem Ku (hm : X.mg "list" = none) (h : bS X CL b e δ (.sh (.tup ds)) δ1) (hg : Gl X "list" := by rfl) (hv : bootBuiltins "list" = some (.type "list") := by rfl) (hs : Q.y := by exact aV rfl) : bS X CL b (.Call (.Name "list" pp) [e] [] pos) δ (.lst (ds.map T.sh)) δ1 := fun H Z σ ts vs Q S k =>
 bZ (ic oH hg hm hv (bI c7 dF hs) (he := hs)) (h H Z σ ts vs _ S fun v H1 Z1 z1 k1 S1 => by
   obtain ⟨fp, gp, _, r, _, _⟩ := S1.rep
   cases r with
   | cons r _ =>
     cases r with
     | sh r =>
       cases r with
       | tup hq rr =>
         refine ⟨_, _, rfl, .inr (aB.Gs S1.zh hq), fun l hl => ?_⟩
         obtain ⟨c, S2⟩ := (aL.tZ rr S1.pop).oJ (g0 := []) (by simp [rr.length]) hl
         exact k _ _ _ z1 (k1.trans c) S2)
theorem eZ (hm : X.mg "list" = none) (h : eF X CL b e δ (.lst ds) δ1) (hi : D.bJ ds = true) (hg : Gl X "list" := by rfl) (hv : bootBuiltins "list" = some (.type "list") := by rfl) (hs : Q.y := by exact aV rfl) : bS X CL b (.Call (.Name "list" pp) [e] [] pos) δ (.lst (ds.map T.sh)) δ1 := fun H Z σ ts vs Q S k =>
 bZ (ic oH hg hm hv (bI c7 dF hs) (he := hs)) (h H Z σ ts vs _ S fun v H1 Z1 z1 k1 S1 r => by
   cases r with
   | lst hq rr =>
     refine ⟨_, _, rfl, .inl hq, fun l hl => ?_⟩
     obtain ⟨c, S2⟩ := (aL.tZ (aI.mq S1.tp hi rr) S1).oJ (g0 := []) (by simp [rr.length]) hl
     exact k _ _ _ z1 (k1.trans c) S2)
def AG (K : Q.h) (CL : Q.e) {A : Type} (n : Nat) (arg : A -> List D) (Pre : A -> Prop) (res : A -> T) : Sp := fun vs H Q _ =>
 ∃ (W : Hp) (a : A), aB W H /\ (∀ c o, H c = some o -> jU o = true -> W c = some o) /\ aI K CL W (arg a) vs /\ (arg a).length = n /\ Pre a /\ mW CL W ∧
   ∀ v H' W' fp, aB H H' -> aB W W' -> aB W' H' -> (∀ c o, W' c = some o -> W c = none -> H c = none) -> (∀ c o, H' c = some o -> jU o = true -> W' c = some o) →
     aU K CL H' W' (res a) v fp -> fp.Nodup -> (∀ c ∈ fp, W' c = none /\ H c = none) -> Q v H'
variable {A : Type} {k n : Nat} {f : Addr} {fd : FuncData} {ps : List Str} {x : Str} {arg : A -> List D} {Pre : A -> Prop} {res : A -> T}
theorem R5 (a : A) (F : cJ X.prog X.w X.K X.mg X.base lu k f fd ps (AG X.K CL n arg Pre res)) (hr : c6 k X.A) (hm : X.mg x = some (.ref f)) (hk : PySem.W.keepIn X.K (.ref f) = true) (hb : Binds X.K fd ps [])
   (h : Mu X CL b (e :: es) δ (arg a) δ1) (hn : (arg a).length = n) (hp : Pre a) (hc : (res a).clean = true) (hg : Gl X x)
   (qg : Q.m := by decide) (he : Q.r := by exact aV rfl) (hpl : Q.w := by rfl) :
   bS X CL b (.Call (.Name x pp) (e :: es) [] pos) δ (res a) δ1 := fun H Z σ ts vs Q S kk =>
 bZ (Ce F hr hg hm hk hb .nil qh Cp qg he hpl) (h H Z σ ts vs _ S fun us H1 Z1 z1 k1 S1 r => by
   rw [ahJ]
   refine ⟨H1, a, .refl _, fun _ _ q _ => q, r, hn, hp, S1.Kq, fun v H' W' fp hh ww wh nw tp rt nd own => ?_⟩
   obtain ⟨Z', z', S'⟩ := S1.back hh S1.zh ww wh nw tp rt nd own (.inr hc)
   exact kk v H' Z' (z1.trans z') (k1.trans hh) S')
variable {D D' : c9} {st : Stmt} {dm aaI : List Stmt}
theorem Meets.to {E : Ends} (M : Meets K CL b Z ts vs D E) (h1 : ∀ δ, D'.nx δ -> D.nx δ) (h2 : ∀ t δ, D'.rt t δ -> D.rt t δ) (h3 : ∀ δ, D'.bk δ -> D.bk δ) (h4 : ∀ δ, D'.ct δ -> D.ct δ) : Meets K CL b Z ts vs D' E :=
 ⟨fun _ _ _ _ s S k => M.nx _ _ _ _ s S (h1 _ k), fun _ _ _ _ _ _ s S k => M.rt _ _ _ _ _ _ s S (h2 _ _ k), fun _ _ _ _ s S k => M.bk _ _ _ _ s S (h3 _ k), fun _ _ _ _ s S k => M.ct _ _ _ _ s S (h4 _ k)⟩
theorem aF (h : D.nx δ) : cH X CL b [] δ D := fun H Z σ ts vs E S M => W9 Rx (M.nx δ σ H Z (.refl _) S h)
theorem aY (h : Ks X CL b st δ { D with nx := fun δ1 => cH X CL b dm δ1 D }) : cH X CL b (st :: dm) δ D := fun H Z σ ts vs E S M =>
 W9 (En psS IV) (h H Z σ ts vs _ S ⟨fun δ' σ' H' Z' s S' k => k H' Z' σ' ts vs E S' (M.mono s), M.rt, M.bk, M.ct⟩)
theorem Xi (h : bS X CL b e δ t δ1) (k : D.rt t δ1) : Ks X CL b (.Return (some e) pos) δ D := fun H Z σ ts vs E S M => kL (MD c7) (h H Z σ ts vs _ S fun v H1 Z1 z1 k1 S1 => M.rt t v H1 Z1 δ1 σ z1 S1 k)
theorem aaJ (h : vg X CL b e δ p δ1) (h1 : p = true -> cH X CL b dm δ1 D) (h2 : p = false -> cH X CL b aaI δ1 D) : Ks X CL b (.If e dm aaI pos) δ D := fun H Z σ ts vs E S M =>
 kL (Vs Vz IV IV) (h H Z σ ts vs _ S fun H1 Z1 z1 k1 S1 => by
   cases p with
   | true => exact Nk (h1 rfl H1 Z1 σ ts vs E S1 (M.mono z1))
   | false => exact Nj (h2 rfl H1 Z1 σ ts vs E S1 (M.mono z1)))
theorem Cw (i : Nat) {pos' : Pos} (h : bS X CL b e δ t δ1) (k : D.nx (δ1.set i (some t))) (hl : i < δ1.length := by decide) (hN : X.N.Nodup := by assumption) (hi : X.N[i]? = some x := by rfl) (hx : Loc X.env.scope x := by first | exact .inl rfl | exact .inr rfl)
   (hs : swapsWith e (some (.Name x pos')) pos.line X.env = pure false := by rfl) (hf : X.fn x = true \/ X.env.scope.names.lookup x = some .local := by first | exact .inl rfl | exact .inr rfl | assumption) : Ks X CL b (.Assign [.Name x pos'] e pos) δ D := fun H Z σ ts vs E S M =>
 kL (MH hN hi hx c7 hs hf) (h H Z σ ts vs _ S fun v H1 Z1 z1 k1 S1 => M.nx _ _ H1 Z1 z1 (S1.set hl) k)
end
def entry (N : List Str) (ds : List D) : List (Option T) := ds.map (fun d => some (T.sh d)) ++ List.replicate (N.length - ds.length) none
theorem jn {K : Q.h} {CL : Q.e} {H Z : Hp} : ∀ {ds : List D} {vs : List V} (n : Nat), aI K CL Z ds vs -> cF K CL H Z (ds.map (fun d => some (T.sh d)) ++ List.replicate n none) (vs.map some ++ List.replicate n none) []
 | _, _, 0, .nil => .nil
 | _, _, n + 1, .nil => .skip (jn (ds := []) (vs := []) n .nil)
 | _, _, n, .cons r t => .cons (fp := []) (gp := []) (.sh r) (jn n t)
variable {w : World} {x : Str} {st : Stmt} {f : Addr} {fd : FuncData} {N ps : List Str} {A : Type}
theorem mw {P : Program} {mg : Q.p} {base : Heap} {qual : Str} {k : Nat} {arg : A -> List D} {Pre : A -> Prop} {res : A -> T} (F : nG K x qual st f fd) (S : aP N ps (ak st))
   (hb : ∀ (gn : Value) (Ar : Around) (outer : List Env) (s : Shared) (H : Hp) (E : XK) (b : Bx) (a : A), c6 k (Ar.deeper (envOfC qual (ak st) s.heap.objs.size f gn)) -> Pre a →
     cH (ve lu P w K mg base N qual (ak st) f gn Ar outer s H E).Rw CL b (b9 st) (entry N (arg a)) { nx := fun _ => res a = .sh .non, rt := fun t _ => t = res a }) :
   cJ P w K mg base lu (k + 1) f fd ps (AG K CL ps.length arg Pre res) := by
 refine F.ok S (fun vs H Q E h => ?_) (fun gn Ar outer s H vs Q E hr h => ?_)
 . obtain ⟨W, a, _, _, r, hl, _⟩ := h
   rw [← r.length]; exact hl
 . obtain ⟨W, a, wh, tp, r, hl, hp, tb, kk⟩ := h
   refine ⟨_, IV, hb gn Ar outer s H E ⟨H, W⟩ a hr hp H W _ [] [] _ ⟨⟨[], [], ?_, .nil, aiZ, fun a ha => by cases ha⟩, .refl _, .refl _, wh, fun a o q z => ?_, tp, tb⟩ ⟨fun δ' σ' H' Z' s' S' e => ?_, fun t v H' Z' δ' σ' s' S' e => ?_, fun _ _ _ _ _ _ e => e.elim, fun _ _ _ _ _ _ e => e.elim⟩⟩
   . unfold entry L2.start
     rw [← r.length]
     exact jn _ r
   . have q' : W a = some o := q
     have z' : W a = none := z
     rw [q'] at z'; cases z'
   . exact kk .non H' Z' [] S'.bh S'.zz S'.zh S'.new S'.tp (by rw [show res a = .sh .non from e]; exact .sh .non) aiZ fun a ha => by cases ha
   . have e' : t = res a := e
     subst e'
     obtain ⟨fp, gp, _, r', nd, own⟩ := S'.rep
     cases r' with
     | @cons _ _ _ _ f1 f2 r1 r2 =>
       have h1 := (ah3.mp nd).2.1
       exact kk v H' Z' f1 S'.bh S'.zz S'.zh S'.new S'.tp r1 (ah3.mp h1).1 fun a ha => own a (ahu _ (ahy _ ha))
variable {prog : Program} {A : Around} {R : Result -> Shared -> Prop} {s : Shared} {elt iter : Expr} {ifs : List Expr} {scope : Scope}
theorem t6 {target : Expr} {it acc : Value} (I : Nat -> Shared -> Prop)
   (turn : ∀ n s, I n s -> wpAny (model prog w) A (pyNext it) (fun r s₁ => match r with
     | none => R (.ok .next) s₁
     | some v => wpAny (model prog w) A (letOwnedTupleGo target it v) (fun _ VB => wpAny (model prog w) A (assign target env v) (fun _ s₂ =>
         wpAny (model prog w) A (forIn ifs true fun c r => if r = true then do let ok ← isTrue c env (eval c env); pure (ForInStep.yield ok) else pure (ForInStep.yield r)) (fun ok s₃ =>
           if ok = true then wpAny (model prog w) A (eval elt env) (fun x s₄ =>
             wpAny (model prog w) A (call (.builtin "list.append") [acc, x]) (fun _ s₅ => ∃ m, m < n /\ I m s₅) (fun _ _ => False) s₄) (fun _ _ => False) s₃
           else ∃ m, m < n /\ I m s₃) (fun _ _ => False) s₂) (fun _ _ => False) VB) (fun _ _ => False) s₁) (fun _ _ => False) s)
   (n : Nat) (h : I n s) :
   codeAny (model prog w) A (.compLoop (.ListComp elt [⟨target, iter, ifs, 0⟩] scope pos) 0 it acc env) R s := by
 refine codeAny_loop rfl I (fun n s hI => ?_) n h
 show wpAny _ A ((compTurn (.ListComp elt [⟨target, iter, ifs, 0⟩] scope pos) 0 it acc env).onRaise (fun x => do noteFrame x env; theTreesLotGoes x)) _ _ s
 refine wpAny_noted ?_
 rw [compTurn_list]
 refine aht (wpAny_standAt (aht (aik (turn n s hI) (fun r s₁ h₁ => ?_) fun _ _ h' => h'.elim)))
 cases r with
 | none => exact ahF h₁
 | some v =>
   refine aht (aik h₁ (fun _ VB h₁' => ?_) fun _ _ h' => h'.elim)
   refine aht (aik h₁' (fun _ s₂ h₂ => aht (aik h₂ (fun ok s₃ h₃ => ?_) fun _ _ h' => h'.elim)) fun _ _ h' => h'.elim)
   cases ok with
   | false => exact ahF ⟨rfl, h₃⟩
   | true =>
     exact aht (aht (aik h₃ (fun x s₄ h₄ => aht (aik h₄ (fun _ s₅ h₅ => ahF (ahF ⟨rfl, h₅⟩)) fun _ _ h' => h'.elim)) fun _ _ h' => h'.elim))
def fO (env : Env) : List (Str × NameKind) -> List (Str × Addr) -> List (Str × Addr)
 | [], cs => cs
 | (n, k) :: r, cs => fO env r (if k == .free then (n, (env.cells.lookup n).getD 0) :: cs else cs)
theorem se (h : ∀ x ∈ scope.names, x.2 = .free -> ∃ c, env.cells.lookup x.1 = some c) : closureFor scope env = pure (fO env scope.names []) := by
 have go : ∀ (l : List (Str × NameKind)) (cs : List (Str × Addr)), (∀ x ∈ l, x.2 = .free -> ∃ c, env.cells.lookup x.1 = some c) →
     (forIn l cs fun x r => match x with | (name, kind) => if (kind == NameKind.free) = true then do let a ← cellOf env name; pure (ForInStep.yield ((name, a) :: r)) else pure (ForInStep.yield r) : Sem (List (Str × Addr))) = pure (fO env l cs) := by
   intro l
   induction l with
   | nil => intro cs _; rfl
   | cons x r ih =>
     intro cs hx
     obtain ⟨n, k⟩ := x
     rw [List.forIn_cons]
     by_cases hk : k = .free
     . subst hk
       obtain ⟨c, hc⟩ := hx (n, .free) ahw rfl
       have e : cellOf env n = pure c := by unfold cellOf; rw [hc]
       simp only [ajq, ajw, e, pure_bind]
       rw [ih _ fun y hy => hx y (ahz _ hy)]
       simp only [fO, ajq, ajw]
       rw [hc]; rfl
     . have hb : (k == NameKind.free) = false := by simpa using hk
       simp only [hb, ajF, ajp, pure_bind]
       rw [ih _ fun y hy => hx y (ahz _ hy)]
       simp only [fO, hb, ajF, ajp]
 unfold closureFor
 have := go scope.names [] h
 simp only [bind_pure] at this ⊢
 exact this
theorem lz {env : Env} : ∀ {l : List (Str × NameKind)} {cs : List (Str × Addr)} {y : Str} {c : Addr}, (∀ x ∈ l, x.2 = .free -> ∃ c, env.cells.lookup x.1 = some c) -> (∀ y c, cs.lookup y = some c -> env.cells.lookup y = some c) →
   (fO env l cs).lookup y = some c -> env.cells.lookup y = some c
 | [], cs, y, c, _, h, e => h y c e
 | (n, k) :: r, cs, y, c, hx, h, e => by
   refine lz (l := r) (fun z hz => hx z (ahz _ hz)) (fun z d hz => ?_) e
   by_cases hk : k = .free
   . subst hk
     obtain ⟨c', hc⟩ := hx (n, .free) ahw rfl
     simp only [ajq, ajw, hc, Option.getD_some, ah1] at hz
     by_cases hzn : (z == n) = true
     . rw [hzn] at hz
       have : z = n := by simpa using hzn
       subst this
       cases hz
       exact hc
     . have : (z == n) = false := by simpa using hzn
       rw [this] at hz
       exact h z d hz
   . have hb : (k == NameKind.free) = false := by simpa using hk
     rw [hb] at hz
     exact h z d hz
theorem wH {env : Env} {y : Str} : ∀ {l : List (Str × NameKind)} {cs : List (Str × Addr)}, (∃ c, cs.lookup y = some c) -> ∃ c, (fO env l cs).lookup y = some c
 | [], cs, h => h
 | (n, k) :: r, cs, h => by
   refine wH (l := r) ?_
   by_cases hk : (k == NameKind.free) = true
   . rw [ahN hk, ah1]
     by_cases hy : (y == n) = true
     . rw [hy]; exact ⟨_, rfl⟩
     . have : (y == n) = false := by simpa using hy
       rw [this]; exact h
   . rw [ahC hk]; exact h
theorem lA {env : Env} {y : Str} : ∀ {l : List (Str × NameKind)} {cs : List (Str × Addr)}, l.lookup y = some .free -> ∃ c, (fO env l cs).lookup y = some c
 | [], _, h => by simp at h
 | (n, k) :: r, cs, h => by
   rw [ah1] at h
   by_cases hy : (y == n) = true
   . rw [hy] at h
     cases h
     refine wH (l := r) ?_
     rw [ahN (by rfl), ah1, hy]
     exact ⟨_, rfl⟩
   . have : (y == n) = false := by simpa using hy
     rw [this] at h
     exact lA (l := r) h
def bH (X : Cx) (scope : Scope) (Nc : List Str) (C : Addr) (s : Shared) (H : Hp) (fp : List Addr) : Cx where
 prog := X.prog
 w := X.w
 K := X.K
 mg := X.mg
 base := X.base
 A := X.A
 N := Nc
 s₀ := s
 H₀ := H
 env := compEnvC scope (fO X.env scope.names []) C X.env
 outer := X.stack
 stack := X.stack
 ex := fp
 fn := fun _ => false
 calm := X.calm
 pn := []
 xe := fun _ _ => False
structure gu (X : Cx) (scope : Scope) (x : Str) (Nc : List Str) (ix : List Nat) : Prop where
 kind : scope.kind = .function
 vm : ∀ y ∈ scope.names, y.2 ≠ .cell
 nd : Nc.Nodup
 names : ∀ y ∈ scope.names, y.2 = .local -> scope.names.lookup y.1 = some .local
 own : scope.names.lookup x = some .local
 frees : ∀ y ∈ scope.names, y.2 = .free -> scope.names.lookup y.1 = some .free /\ (X.env.kindOf y.1 = some .cell \/ X.env.kindOf y.1 = some .free)
 hd : Nc = x :: ix.filterMap (X.N[·]?)
 VC : ∀ i ∈ ix, ∃ y, X.N[i]? = some y /\ scope.names.lookup y = some .free
theorem dH {env : Env} : ∀ {names : List (Str × NameKind)} {x : Str} {k : NameKind}, names.lookup x = some k -> 
   (names.map fun (n, k) => if (k == NameKind.free && env.scope.kind == .function && env.kindOf n == some .cell) then (n, NameKind.cell) else (n, k)).lookup x = some (if (k == NameKind.free && env.scope.kind == .function && env.kindOf x == some .cell) then .cell else k)
 | [], _, _, h => by simp at h
 | (n, k') :: r, x, k, h => by
   have ih := @dH env r x k
   show List.lookup x ((if (k' == NameKind.free && env.scope.kind == .function && env.kindOf n == some .cell) = true then (n, NameKind.cell) else (n, k')) :: _) = _
   cases hx : x == n with
   | true =>
     simp only [ah1, hx] at h
     cases h
     have e : x = n := by simpa using hx
     subst e
     split <;> simp [ah1]
   | false =>
     simp only [ah1, hx] at h
     split
     . simp only [ah1, hx]; exact ih h
     . simp only [ah1, hx]; exact ih h
theorem gJ {env : Env} : ∀ {names : List (Str × NameKind)} {x : Str}, names.lookup x = none -> 
   (names.map fun (n, k) => if (k == NameKind.free && env.scope.kind == .function && env.kindOf n == some .cell) then (n, NameKind.cell) else (n, k)).lookup x = none
 | [], _, _ => rfl
 | (n, k') :: r, x, h => by
   have ih := @gJ env r x
   show List.lookup x ((if (k' == NameKind.free && env.scope.kind == .function && env.kindOf n == some .cell) = true then (n, NameKind.cell) else (n, k')) :: _) = _
   cases hx : x == n with
   | true => simp only [ah1, hx] at h; cases h
   | false =>
     simp only [ah1, hx] at h
     split
     . simp only [ah1, hx]; exact ih h
     . simp only [ah1, hx]; exact ih h
variable {Nc : List Str} {ix : List Nat} {pins : Q.i}
def lB (σ : L2.St) (ix : List Nat) (o : Option V) : L2.St := o :: ix.map fun i => (σ[i]?).getD none
theorem Gz (sc : gu X scope x Nc ix) (I : Q.g) (kM : ∀ b ∈ fp, rW X pins H b /\ b < s.heap.objs.size) {h' : Heap} {m : Q.p} {tk : Nat}
   (hn : h'.Ns s.heap.objs.size m) (hk : ∀ b o, s.heap.get? b = some o -> h'.get? b = some o) :
   Inv (bH X scope Nc s.heap.objs.size s H fp) [] (lB σ ix none) H { s with heap := h', toks := tk } := by
 have frees : ∀ y ∈ scope.names, y.2 = .free -> ∃ c, X.env.cells.lookup y.1 = some c := fun y hy e => I.ok.has y.1 (sc.frees y hy e).2
 have sub : ∀ {y : Str} {c : Addr}, (fO X.env scope.names []).lookup y = some c -> X.env.cells.lookup y = some c := fun {y c} e => lz frees (fun _ _ z => by cases z) e
 have hlen : (lB σ ix none).length = Nc.length := by
   have all : ∀ l : List Nat, (∀ i ∈ l, ∃ y, X.N[i]? = some y /\ scope.names.lookup y = some .free) -> (l.filterMap (X.N[·]?)).length = l.length := by
     intro l
     induction l with
     | nil => intro _; rfl
     | cons i r ih =>
       intro h
       obtain ⟨y, e, _⟩ := h i ahw
       rw [ah9, e]
       show _ + 1 = _ + 1
       rw [ih fun j hj => h j (ahz _ hj)]
   unfold lB
   rw [sc.hd, ahY, ahY, ahx, all ix sc.VC]
 have C0 : s.heap.get? s.heap.objs.size = none := Heap.get?_none_of_le (ahG _)
 refine ⟨⟨I.ok.mod, sc.kind, I.ok.glob, I.ok.blt, ahG _, fun y z c h1 h2 => I.ok.inj y z c (sub h1) (sub h2), fun y hy => ?_, fun y c hf _ => (by cases (show false = true from hf)), I.ok.hd, I.ok.frames, .inl rfl, fun b hb => ⟨aid (kM b hb).2, fun y c e => (kM b hb).1.2.2.2.2.1 y c (sub e)⟩, I.bs, ain I.ok.Iu I.sz, fun b o e hb => ?_, fun b hb hf => ?_, I.stack, I.xA⟩,
   rfl, I.bare, Un.kept hk, ⟨m, hn, fun i y v h1 h2 h3 => ?_⟩, fun y c e => ?_, I.bY.fresh (ahG _), fun y c e => I.jT y c (sub e), fun p hp => absurd (show p ∈ ([] : List (Addr × Obj)) from hp) (by simp), I.bY.kept hk, hlen⟩
 . 
   have W2 : (relabel scope X.env).names.lookup y = some .cell \/ (relabel scope X.env).names.lookup y = some .free := hy
   cases e : scope.names.lookup y with
   | none => 
     have := gJ (env := X.env) e
     rcases W2 with q | q <;> (rw [show (relabel scope X.env).names.lookup y = none from this] at q; cases q)
   | some k =>
     have q := dH (env := X.env) e
     have hk : k = .free := by
       by_cases hk : k = .free
       . exact hk
       . have hb : (k == NameKind.free) = false := by simpa using hk
         rw [ahC (by rw [hb]; simp)] at q
         have nc : k ≠ .cell := fun z => by
           subst z
           exact sc.vm _ (aiq e) rfl
         rcases W2 with z | z
         . rw [show (relabel scope X.env).names.lookup y = some k from q] at z
           exact absurd (ahP z) nc
         . rw [show (relabel scope X.env).names.lookup y = some k from q] at z
           exact absurd (ahP z) hk
     subst hk
     exact lA e
 . 
   rcases (kM b hb).1.2.2.2.1 with z | z
   . exact I.ok.Ek b o e z
   . exact absurd (ah4 (ahR e) (ain I.ok.Iu z)) (ajb _)
 . rcases ahH.mp (I.uX b hf) with z | z
   . exact (kM b hb).1.2.1 z
   . exact (kM b hb).1.2.2.1 z
 . 
   unfold lB at h2
   cases i with
   | zero => cases h2
   | succ i =>
     rw [ajK, ahW] at h2
     cases ei : ix[i]? with
     | none => rw [ei] at h2; cases h2
     | some j =>
       rw [ei] at h2
       have R6 : (σ[j]?).getD none = some v := ahP h2
       have hj : σ[j]? = some (some v) := by
         cases q : σ[j]? with
         | none => rw [q] at R6; cases R6
         | some o => rw [q] at R6; exact congrArg some R6
       obtain ⟨y', hy1, Xj⟩ := sc.VC j (aih ei)
       have hNc : Nc[i + 1]? = some y' := by
         have all : ∀ (l : List Nat) (i : Nat), (∀ j ∈ l, ∃ y, X.N[j]? = some y /\ scope.names.lookup y = some .free) -> l[i]? = some j -> (l.filterMap (X.N[·]?))[i]? = some y' := by
           intro l
           induction l with
           | nil => intro i _ h; simp at h
           | cons a r ih =>
             intro i h hi
             obtain ⟨ya, ea, _⟩ := h a ahw
             rw [ah9, ea]
             cases i with
             | zero =>
               simp at hi
               subst hi
               rw [hy1] at ea
               cases ea
               rfl
             | succ i => exact ih i (fun j hj => h j (List.mem_cons_of_mem _ hj)) (by simpa using hi)
         rw [sc.hd, ajK]
         exact all ix i sc.VC ei
       have ey : y' = y := by
         have h1' : Nc[i + 1]? = some y := h1
         rw [hNc] at h1'
         exact ahP h1'
       subst ey
       have yi := (sc.frees (y', .free) (aiq Xj) rfl).2
       have Xk : Vm X.env.scope y' := yi.elim (fun z => .inr (.inl z)) (fun z => .inr (.inr z))
       obtain ⟨m0, hn0, Xl⟩ := I.loc
       obtain ⟨u, ru, lk⟩ := Xl j y' v hy1 hj Xk
       refine ⟨u, ru, ?_⟩
       rcases lk with ⟨kk, _⟩ | ⟨_, c, hc, pR⟩
       . rcases yi with z | z
         . rw [kk] at z; cases z
         . rw [kk] at z; cases z
       . obtain ⟨c', Vq⟩ := lA (env := X.env) (cs := []) Xj
         have : c' = c := by
           have := sub Vq
           rw [hc] at this
           exact (ahP this).symm
         subst this
         obtain ⟨o, ho, hd⟩ := pR
         refine .inr ⟨?_, c', Vq, o, hk _ _ ho, hd⟩
         have q := dH (env := X.env) Xj
         show (relabel scope X.env).names.lookup y' = some .cell \/ (relabel scope X.env).names.lookup y' = some .free
         rw [show (relabel scope X.env).names.lookup y' = _ from q]
         split
         . exact .inl rfl
         . exact .inr rfl
 . obtain ⟨v, o, ho, hd⟩ := I.cell y c (sub e)
   exact ⟨v, o, hk _ _ ho, hd⟩
theorem BH {El : Q.i} {σ' : L2.St} {s' : Shared} {Zq : Heap} (I : Q.g) (kM : ∀ b ∈ fp, rW X pins H b)
   (J : Inv (bH X scope Nc s.heap.objs.size s H fp) El σ' H' s') (hs : Heap.SameBut s.heap.objs.size s'.heap Zq) : Inv X pins σ H' { s' with heap := Zq } := by
 have un : Un (qW X.stack) fp H H' s.heap s'.heap := J.base
 have un2 : Un (qW X.stack) fp H H' s.heap Zq := by
   have ne : ∀ b o, s.heap.get? b = some o -> b ≠ s.heap.objs.size := fun b o e => aid (ahR e)
   refine ⟨fun b o e n hb hx => (hs.2 b (ne b o e)).trans (un.keep b o e n hb hx), fun b o e n hb hx => ?_, un.free, fun b o e hx => ?_, un.yb, un.c5, un.yc⟩
   . obtain ⟨sl, q⟩ := un.slot b o e n hb hx
     exact ⟨sl, (hs.2 b (ne b o e)).trans q⟩
   . obtain ⟨o', q⟩ := un.there b o e hx
     exact ⟨o', (hs.2 b (ne b o e)).trans q⟩
 have nC : H' s.heap.objs.size = none := J.free
 have bY : qV X.prog X.w H' Zq := fun b u e => by
   refine (J.bY b u e).x9 (fun c v hc q => (hs.2 c ?_).trans q) (fun _ q => q) fun _ _ q => q
   rintro rfl
   rcases hc with z | z
   . subst z; rw [nC] at e; cases e
   . rw [nC] at z; cases z
 obtain ⟨hh, g, d, t, Zn⟩ := s'
 obtain rfl : Zn = s.os := J.os
 show L2.Inv X pins σ H' { s with heap := Zq, gens := g, drawn := d, toks := t }
 exact I.call (h' := Zq) (g' := g) (d' := d) (t' := t) (ch := fp) un2 bY J.bare fun b hb => ⟨(kM b hb).2.2.2.1, (kM b hb).2.1, (kM b hb).2.2.2.2.1, (kM b hb).2.2.2.2.2⟩
def NB (X : Cx) : List Expr -> TT
 | [] => fun _ H Q => Q true H
 | [c] => Nt X c
 | _ => fun _ _ _ => False
theorem EC (I : Q.g) (h : NB X ifs σ H Q) (hx : X.xe = fun _ _ => False) :
   wpAny Q.d X.A (forIn ifs true fun c r => if r = true then do let ok ← isTrue c X.env (eval c X.env); pure (ForInStep.yield ok) else pure (ForInStep.yield r)) (TP X pins σ Q) (fun _ _ => False) s := by
 match ifs, h with
 | [], h => exact wpAny_tests_nil ⟨H, I, h⟩
 | [c], h =>
   have := h pins s I
   rw [hx] at this
   exact wpAny_tests_one this
variable {px : Pos} {it : Addr} {E : Q.l}
theorem Kv {J : It} {tn : Nat -> Heap -> Prop} {G : Addr -> Hp -> Prop} {RR : Value -> Addr -> Result -> Shared -> Prop}
   (sc : gu X scope x Nc ix) (hc : X.calm = true) (I : Q.g) (Tn : Turn X.prog X.w X.K (.Name x px) J fp it tn) (st : tn 0 s.heap) (hf : ∀ b ∈ fp, rW X pins H b)
   (loop : ∀ D, H D = none -> ∃ W : Nat -> Nat -> Hp -> Prop, (∃ m, W 0 m (upd H D (.lst []))) /\ ∀ i m H2, W i m H2 -> (J.stop i H2 /\ G D H2) ∨
     (J.go i H2 /\ ∃ N : Hp -> Prop, (∀ H', N H' -> ∃ m', m' < m /\ W (i + 1) m' H') /\ ∀ xv H3, J.Rc i H2 xv H3 -> ∀ C s0 H0 f0, NB (bH X scope Nc C s0 H0 f0) ifs (lB σ ix (some xv)) H3 fun ok H4 =>
       if ok = true then pZ (bH X scope Nc C s0 H0 f0) elt (lB σ ix (some xv)) H4 fun y H5 => ∃ acc, H5 D = some (.lst acc) /\ acc.length < sizeLine /\ N (upd H5 D (.lst (acc ++ [y]))) else N H4))
   (hRR : ∀ D C s' H', (∃ m, s'.heap.Ns C m) -> (∃ o, s'.heap.get? C = some o /\ ∀ v, o.data ≠ .cell v) -> H' C = none -> (C ≠ X.env.locals /\ C ∉ X.fs /\ X.s₀.heap.objs.size <= C /\ (∀ y c, X.env.cells.lookup y = some c -> c ≠ C) /\ ∀ q ∈ X.pn ++ pins, q.1 ≠ C) -> (∀ h', Heap.SameBut C s'.heap h' -> Inv X pins σ H' { s' with heap := h' }) -> G D H' -> RR (.ref D) C (.ok .next) s') :
   wpAny Q.d X.A (newList []) (fun acc s₃ => wpAny Q.d X.A (newFunctionEnv scope X.env.globals (fO X.env scope.names []) [] X.env.qual none .none (some X.env)) (fun ED s₄ =>
     codeAny Q.d X.A (.compStart (.ListComp elt [⟨.Name x px, iter, ifs, 0⟩] scope pos) 0 (.ref it) acc { ED with scope := relabel scope X.env }) (RR acc ED.locals) s₄) E s₃) E s := by
 refine aiy ?_
 have I3 : Inv X pins σ (upd H s.heap.objs.size (.lst [])) { s with heap := s.heap.push { cls := .type "list", dict := none, data := .seq ([] : List Value).toArray } } :=
   I.laid (t' := s.toks) (fun b u e => ahE _ e) (ahG _) ⟨by show 0 <= sizeLine; exact ah8 _, [], 0, .nil, ahU _ rfl⟩
 have hD : H s.heap.objs.size = none := I.bY.fresh (ahG _)
 obtain ⟨W, ⟨m0, w0⟩, turn⟩ := loop _ hD
 have yp : ∀ b ∈ fp, rW X pins (upd H s.heap.objs.size (.lst [])) b /\ b < (s.heap.push { cls := .type "list", dict := none, data := .seq ([] : List Value).toArray }).objs.size := fun b hb => by
   obtain ⟨f0, f1⟩ := hf b hb
   obtain ⟨o, ho, _⟩ := Tn.obj 0 _ st b hb
   have nJ := ahR ho
   refine ⟨⟨by rw [aj (aid nJ)]; exact f0, f1⟩, ?_⟩
   rw [ajI]; exact Nat.lt_succ_of_lt nJ
 have Vt : tn 0 (s.heap.push { cls := .type "list", dict := none, data := .seq ([] : List Value).toArray }) := Tn.keep 0 _ _ st fun b _ o e => ahE _ e
 generalize hs3 : ({ s with heap := s.heap.push { cls := .type "list", dict := none, data := .seq ([] : List Value).toArray } } : Shared) = s3 at I3 ⊢
 have R7 : s3.heap = s.heap.push { cls := .type "list", dict := none, data := .seq ([] : List Value).toArray } := by rw [← hs3]
 rw [← R7] at yp Vt
 refine wpAny_newFunctionEnv sc.vm (by intro y hy; simp at hy) (fun h₁ GA GB => ?_) sc.kind
 have old : ∀ b o, s3.heap.get? b = some o -> h₁.get? b = some o := fun b o e => (GB.2 b (aid (ahR e))).trans (ahE _ e)
 have J0 := Gz (tk := s3.toks + ([] : List (Str × Value)).length) sc I3 yp GA old
 have st4 : tn 0 h₁ := Tn.keep 0 _ _ Vt fun b _ o e => old b o e
 have EE : ∀ s4 : Shared, s4 = { s3 with heap := h₁, toks := s3.toks + ([] : List (Str × Value)).length } -> codeAny Q.d X.A (.compLoop (.ListComp elt [⟨.Name x px, iter, ifs, 0⟩] scope pos) 0 (.ref it) (.ref s.heap.objs.size) (compEnvC scope (fO X.env scope.names []) s3.heap.objs.size X.env)) (RR (.ref s.heap.objs.size) s3.heap.objs.size) s4 := by
   rintro s4 rfl
   have stat : ∀ {H' : Hp}, (∀ b ∈ fp, H' b = none) -> ∀ b ∈ fp, rW Q.B [] H' b := fun {H'} hn b hb => by
     obtain ⟨⟨f0, f1, f2, f3, f4, f5⟩, nJ⟩ := yp b hb
     refine ⟨hn b hb, aid nJ, fun z => ?_, .inl hb, fun y c e => f4 y c (lz (fun y hy e => I.ok.has y.1 (sc.frees y hy e).2) (fun _ _ z => by cases z) e), fun p hp => absurd (show p ∈ ([] : List (Addr × Obj)) from hp) (by simp)⟩
     rcases ahH.mp (I3.uX b z) with q | q
     . exact f1 q
     . exact f2 q
   refine t6 (fun n s' => ∃ i o H', Inv Q.B [] (lB σ ix o) H' s' /\ tn i s'.heap /\ (∀ b ∈ fp, H' b = none) /\ W i n H') ?_ m0 ⟨0, none, _, J0, st4, fun b hb => (yp b hb).1.1, w0⟩
   rintro n s5 ⟨i, o5, H5, I5, RA, WG, w5⟩
   rcases turn i n H5 w5 with ⟨stop, g⟩ | ⟨go, N, hN, step⟩
   . refine di (Tn.done Q.B rfl rfl rfl hc i [] s5 _ H5 _ I5 (stat WG) RA stop) fun r s6 zz => ?_
     obtain ⟨hr, I6⟩ := zz
     subst hr
     obtain ⟨m6, hn6, _⟩ := I6.loc
     obtain ⟨oc, esc, epc, Vr, hdc, _⟩ := id hn6
     have R8 := I3.Er (ahG s3.heap.objs.size) (H' := fun _ => none) rfl
     refine hRR _ _ s6 H5 ⟨m6, hn6⟩ ⟨oc, Vr, fun v z => by rw [hdc] at z; cases z⟩ I6.free ⟨R8.2.1, R8.2.2.1, ?_, R8.2.2.2.2.1, R8.2.2.2.2.2⟩ (fun h' GC => BH I3 (fun b hb => (yp b hb).1) I6 GC) g
     exact I3.sz
   . refine di (Tn.item Q.B rfl rfl rfl hc i [] s5 _ H5 _ I5 (stat WG) RA go) fun r s6 zz => ?_
     obtain ⟨u, hr, h6⟩ := zz
     subst hr
     refine di h6 fun _ s7 zz => ?_
     obtain ⟨xv, H7, I7, r7, y7, Xm, fr7⟩ := zz
     have I7' := I7.pinned (stat fr7) (Tn.obj _ _ Xm)
     have hg : PG Q.B (.Name x px) (sd 0) := kK sc.nd (by show Nc[0]? = some x; rw [sc.hd]; rfl) (.inl (ai5 sc.own)) (.inr (ai5 sc.own))
     refine di (hg _ s7 _ H7 xv u (fun σ8 H8 => σ8 = lB σ ix (some xv) /\ H8 = H7) I7' r7 ⟨rfl, rfl⟩) fun _ s8 zz => ?_
     obtain ⟨σ8, H8, I8, e8, e8'⟩ := zz
     subst e8
     subst e8'
     have h8 := step xv _ y7 s3.heap.objs.size s3 (upd H s.heap.objs.size (.lst [])) fp
     refine di (EC I8 h8 rfl) fun ok s9 zz => ?_
     obtain ⟨H9, I9, q9⟩ := zz
     have again : ∀ {Ha : Hp} {sa : Shared}, Inv Q.B ([] ++ uZ fp s7.heap) (lB σ ix (some xv)) Ha sa -> N Ha -> ∃ m, m < n /\ ∃ i o H', Inv Q.B [] (lB σ ix o) H' sa /\ tn i sa.heap /\ (∀ b ∈ fp, H' b = none) /\ W i m H' := fun {Ha sa} Ia na => by
       obtain ⟨m', hm, wa⟩ := hN Ha na
       refine ⟨m', hm, i + 1, some xv, Ha, Ia.qf, Tn.keep _ _ _ Xm fun b hb o e => (Ia.pin (b, o) (ahu _ (ahu _ (jk hb e)))).1, fun b hb => ?_, wa⟩
       obtain ⟨o, e, d⟩ := Tn.obj _ _ Xm b hb
       exact (Ia.pin (b, o) (ahu _ (ahu _ (jk hb e)))).2.1
     cases ok with
     | false =>
       rw [ahC ahI] at q9 ⊢
       exact again I9 q9
     | true =>
       rw [ahN rfl] at q9 ⊢
       refine di (q9 _ s9 I9) fun v sa zz => ?_
       obtain ⟨y, Ha, Ia, ra, acc, Xn, hlen, na⟩ := zz
       refine di (nK (X := bH X scope Nc s3.heap.objs.size s3 (upd H s.heap.objs.size (.lst [])) fp) _ sa _ Ha (.ref s.heap.objs.size) [y] (.ref s.heap.objs.size) [v] (fun _ Hb => Hb = upd Ha s.heap.objs.size (.lst (acc ++ [y]))) Ia rfl (.cons ra .nil) ⟨_, acc, y, rfl, rfl, Xn, hlen, rfl⟩) fun _ sb zz => ?_
       obtain ⟨_, Hb, Ib, _, eb⟩ := zz
       subst eb
       exact again Ib na
 exact codeAny_compStart_list (EE _ rfl) (Tn.self _ 0 _ _ _ st4 (EE _ rfl))
def TIv (X : Cx) (CL : Q.e) (b : Bx) (ifs : List Expr) (δ : Q.f) (p : Bool) : Prop :=
 match ifs with
 | [] => p = true
 | [c] => vg X CL b c δ p δ
 | _ => False
theorem TIv.sem (h : TIv X CL b ifs δ p) (S : aL X.K CL b H Z δ σ [] [])
   (k : ∀ H' Z', aB Z Z' -> aB H H' -> aL X.K CL b H' Z' δ σ [] [] -> Q p H') : NB X ifs σ H Q := by
 match ifs, h with
 | [], h =>
   have e : p = true := h
   subst e
   exact k H Z (.refl _) (.refl _) S
 | [c], h => exact (show vg X CL b c δ p δ from h) H Z σ [] [] Q S k
theorem jo : (T.lst ts).clean = T.bR ts := by rw [T.clean]
theorem yq {g : D -> T} : ∀ {ds : List D}, (∀ d ∈ ds, (g d).clean = true) -> T.bR (ds.map g) = true
 | [], _ => by rw [ai0, T.bR]
 | d :: ds, h => by
   rw [ahO, T.bR, h d ahw, yq fun e he => h e (ahz _ he)]
   rfl
theorem aD.at : ∀ {tl : List T} {us : List V} {fp : List Addr} {j : Nat} {t : T}, aD K CL H Z tl us fp -> tl[j]? = some t -> ∃ v f1 f2 f3, us[j]? = some v /\ fp = f1 ++ (f2 ++ f3) /\ aU K CL H Z t v f2 ∧
   ∀ {H' : Hp} {t' : T} {v' : V} {g : List Addr}, (∀ a ∈ f1 ++ f3, H' a = H a) -> aU K CL H' Z t' v' g -> aD K CL H' Z (tl.set j t') (us.set j v') (f1 ++ (g ++ f3))
 | _, _, _, _, _, .nil, e => by simp at e
 | _, _, _, 0, _, .cons (fp := fp) (gp := gp) r q, e => by
   simp at e
   subst e
   exact ⟨_, [], fp, gp, rfl, rfl, r, fun {H' t' v' g} k r' => aD.cons (fp := g) (gp := gp) r' (aD.mono (fp := gp) (.refl _) (fun a ha => k a (by simpa using ha)) q)⟩
 | _, _, _, j + 1, t, .cons (fp := fp) (gp := gp) r q, e => by
   obtain ⟨v, f1, f2, f3, h1, h2, h3, h4⟩ := aD.at (j := j) (t := t) q (by simpa using e)
   refine ⟨v, fp ++ f1, f2, f3, by simpa using h1, by rw [h2, List.append_assoc], h3, fun k r' => ?_⟩
   rw [ahv]
   exact .cons (r.mono (.refl _) fun a ha => k a (by simp [ha])) (h4 (fun a ha => k a (by rw [ahv]; exact ahu _ ha)) r')
variable {α : Type}
theorem cK {l : List α} {x : α} (h : l[i]? = some x) : l.set i x = l := by
 apply List.ext_getElem?
 intro j
 rw [List.getElem?_set]
 split
 . rename_i e; subst e
   split
   . exact h.symm
   . rename_i h2; rw [ais Q.c]
 . rfl
variable {gp : List Addr}
theorem aL.write {f1 f2 f3 g Jc : List Addr} (S : Q.q) (nd : ((f1 ++ (f2 ++ f3)) ++ gp).Nodup) (own : ∀ c ∈ (f1 ++ (f2 ++ f3)) ++ gp, Z c = none /\ b.B c = none) (ha : a ∈ f2)
   (hH : ∃ o, H a = some o) (e' : cF K CL (upd H a (.lst xs)) Z δ2 σ (f1 ++ (g ++ f3))) (r' : aD K CL (upd H a (.lst xs)) Z tl us Jc) (pm : ((f1 ++ (g ++ f3)) ++ Jc).Nodup) (sub : ∀ c ∈ (f1 ++ (g ++ f3)) ++ Jc, c ∈ (f1 ++ (f2 ++ f3)) ++ gp) :
   aL K CL b (upd H a (.lst xs)) Z δ2 σ tl us := by
 have oa := own a (by simp [ha])
 refine ⟨⟨_, _, e', r', pm, fun c hc => own c (sub c hc)⟩, fun c o q => ?_, S.zz, fun c o q => ?_, S.new, fun c o q i => ?_, S.tab⟩
 . rw [aj (bC q oa.2)]; exact S.bh c o q
 . rw [aj (bC q oa.1)]; exact S.zh c o q
 . by_cases hc : c = a
   . subst hc; rw [aC] at q; cases q; cases i
   . rw [aj hc] at q; exact S.tp c o q i
theorem aL.append (S : aL K CL b H Z δ σ (t :: ts) (v :: vs)) (hi : δ[i]? = some (some (.lst tl))) :
   ∃ a us, σ[i]? = some (some (.ref a)) /\ H a = some (.lst us) /\ us.length = tl.length /\ aL K CL b (upd H a (.lst (us ++ [v]))) Z (δ.set i (some (.lst (tl ++ [t])))) σ ts vs := by
 obtain ⟨fp, gp, e, r, nd, k⟩ := S.rep
 obtain ⟨v0, f1, f2, f3, hv, kM, rt, put, _⟩ := e.get hi
 subst kM
 cases rt with
 | @lst a us _ g ha rs =>
   cases r with
   | @cons _ _ _ _ ft gr q1 q2 =>
     have ne : ∀ c ∈ (f1 ++ (g ++ f3)) ++ (ft ++ gr), c ≠ a := fun c hc e => by
       subst e
       have hp : ((f1 ++ ((c :: g) ++ f3)) ++ (ft ++ gr)).Perm (c :: ((f1 ++ (g ++ f3)) ++ (ft ++ gr))) := by
         rw [ahT, ← ahT]
         exact (aiE.append_right _)
       exact (aia.mp (hp.nodup_iff.mp nd)).1 hc
     refine ⟨a, us, hv, ha, rs.length.symm, ?_⟩
     have r1 : aU K CL (upd H a (.lst (us ++ [v]))) Z (.lst (tl ++ [t])) (.ref a) (a :: (g ++ (ft ++ []))) :=
       .lst aC (aD.app (rs.mono (.refl _) fun c hc => aj Q.n) (.cons (q1.mono (.refl _) fun c hc => aj Q.n) .nil))
     have e2 := put (H' := upd H a (.lst (us ++ [v]))) (.refl _) (fun c hc => aj (ne c (by
       rcases ahB.mp hc with h | h
       . simp [h]
       . simp [h]))) r1
     rw [cK hv] at e2
     have hp : ((f1 ++ ((a :: (g ++ (ft ++ []))) ++ f3)) ++ gr).Perm ((f1 ++ ((a :: g) ++ f3)) ++ (ft ++ gr)) := by
       simp only [ahJ, ahT, ahv]
       refine ah6 f1 (List.Perm.cons a (ah6 g ?_))
       rw [← ahv, ← ahv]
       exact ahV.append_right gr
     exact S.write nd k (ahw) ⟨_, ha⟩ e2 (q2.mono (.refl _) fun c hc => aj Q.n) (hp.nodup_iff.mpr nd) fun c hc => hp.mem_iff.mp hc
theorem aL.setAt (S : aL K CL b H Z δ σ (t :: ts) (v :: vs)) (hi : δ[i]? = some (some (.lst tl))) (hj : j < tl.length) :
   ∃ a us, σ[i]? = some (some (.ref a)) /\ H a = some (.lst us) /\ us.length = tl.length /\ aL K CL b (upd H a (.lst (us.set j v))) Z (δ.set i (some (.lst (tl.set j t)))) σ ts vs := by
 obtain ⟨fp, gp, e, r, nd, k⟩ := S.rep
 obtain ⟨v0, f1, f2, f3, hv, kM, rt, put, _⟩ := e.get hi
 subst kM
 cases rt with
 | @lst a us _ g ha rs =>
   cases r with
   | @cons _ _ _ _ ft gr q1 q2 =>
     have ne : ∀ c ∈ (f1 ++ (g ++ f3)) ++ (ft ++ gr), c ≠ a := fun c hc e => by
       subst e
       have hp : ((f1 ++ ((c :: g) ++ f3)) ++ (ft ++ gr)).Perm (c :: ((f1 ++ (g ++ f3)) ++ (ft ++ gr))) := by
         rw [ahT, ← ahT]
         exact (aiE.append_right _)
       exact (aia.mp (hp.nodup_iff.mp nd)).1 hc
     refine ⟨a, us, hv, ha, rs.length.symm, ?_⟩
     obtain ⟨vj, g1, g2, g3, _, hg, _, set⟩ := rs.at (ahQ hj)
     subst hg
     have r1 : aU K CL (upd H a (.lst (us.set j v))) Z (.lst (tl.set j t)) (.ref a) (a :: (g1 ++ (ft ++ g3))) :=
       .lst aC (set (fun c hc => aj (ne c (by
         rcases ahB.mp hc with h | h
         . simp [h]
         . simp [h]))) (q1.mono (.refl _) fun c hc => aj Q.n))
     have e2 := put (H' := upd H a (.lst (us.set j v))) (.refl _) (fun c hc => aj (ne c (by
       rcases ahB.mp hc with h | h
       . simp [h]
       . simp [h]))) r1
     rw [cK hv] at e2
     have hp : ((f1 ++ ((a :: (g1 ++ (ft ++ g3))) ++ f3)) ++ gr).Perm ((f1 ++ ((a :: (g1 ++ g3)) ++ f3)) ++ (ft ++ gr)) := by
       simp only [ahT, ahv]
       refine ah6 f1 (List.Perm.cons a (ah6 g1 ?_))
       have := (ahV (l₁ := ft) (l₂ := g3 ++ f3)).append_right gr
       simp only [ahv] at this
       exact this
     have sb : ((f1 ++ ((a :: (g1 ++ g3)) ++ f3)) ++ (ft ++ gr)).Sublist ((f1 ++ ((a :: (g1 ++ (g2 ++ g3))) ++ f3)) ++ (ft ++ gr)) := by
       refine ah2 (ah2 (ah5 _) (ah2 (List.Sublist.cons₂ a ?_) (ah5 _))) (ah5 _)
       exact ah2 (ah5 _) (aij _ _)
     exact S.write nd k (ahw) ⟨_, ha⟩ e2 (q2.mono (.refl _) fun c hc => aj Q.n) (hp.nodup_iff.mpr (nd.sublist sb)) fun c hc => sb.subset (hp.mem_iff.mp hc)
section
variable {Rh : List T} {D : c9} {pp pa pb : Pos}
theorem Xo (i : Nat) (h0 : δ[i]? = some (some (.lst Rh))) (h : bS X CL b e δ t δ1) (h1 : δ1[i]? = some (some (.lst tl))) (hl : tl.length < sizeLine) (k : D.nx (δ1.set i (some (.lst (tl ++ [t])))))
   (hi : X.N[i]? = some x := by rfl) (hv : Vm X.env.scope x := by first | exact Or.inl rfl | exact Or.inr (Or.inl rfl) | exact Or.inr (Or.inr rfl)) (hd : Q.m := by decide) (j3 : (x == ("__classdict__" : Str)) = false := by decide)
   (eV : attributeBase (.Name x pp) "append" X.env (eval (.Name x pp) X.env) = eval (.Name x pp) X.env := by rfl)
   (sP : Q.G := by rfl)
   (hline : (pa.endLine == pb.line) = true := by rfl) (hs : Q.y := by exact aV rfl) (t7 : swapsWith (.Call (.Attribute (.Name x pp) "append" pa) [e] [] pb) none pos.line X.env = pure false := by rfl) :
   Ks X CL b (.Expr (.Call (.Attribute (.Name x pp) "append" pa) [e] [] pb) pos) δ D := fun H Z σ ts vs E S M =>
 kL (oE (Bv aiu ajG ajH nK (eB hi hv hd j3) (bI c7 dF hs) eV sP hline hs rfl) t7) (by
   obtain ⟨v0, e0, r0⟩ := S.look h0
   refine ⟨v0, e0, ?_, ?_⟩
   . rw [T.aZ] at r0
     cases r0 with
     | lst hq _ => exact .inl ⟨rfl, _, hq⟩
   . refine h H Z σ ts vs _ S fun v H1 Z1 z1 k1 S1 => ?_
     obtain ⟨a, us, ea, ha, hu, S2⟩ := S1.append h1
     rw [e0] at ea
     cases ea
     exact ⟨a, us, v, rfl, rfl, ha, by rw [hu]; exact hl, M.nx _ σ _ Z1 z1 S2 k⟩)
end
def aaS : Option (Option T) -> Option T
 | some (some t) => some (.sh t.aZ)
 | _ => none
def Xp : Option (Option T) -> Option T
 | some (some (T.sh d)) => some (.sh d)
 | _ => none
def yr (δ : Q.f) (ix : List Nat) : List (Option T) := ix.map fun i => aaS δ[i]?
def t8 (δ : Q.f) (ix : List Nat) : List (Option T) := ix.map fun i => Xp δ[i]?
theorem EF (S : Q.q) : ∀ (ix : List Nat) (H' : Hp), cF K CL H' H (yr δ ix) (ix.map fun i => (σ[i]?).getD none) []
 | [], _ => .nil
 | i :: r, H' => by
   have ih := EF S r H'
   show cF K CL H' H (aaS δ[i]? :: yr δ r) (((σ[i]?).getD none) :: r.map fun i => (σ[i]?).getD none) []
   cases e : δ[i]? with
   | none => exact .skip ih
   | some o =>
     cases o with
     | none => exact .skip ih
     | some t =>
       obtain ⟨v, hv, rv⟩ := S.look e
       rw [hv]
       exact .cons (fp := []) (gp := []) (.sh rv) ih
theorem yt (S : Q.q) : ∀ (ix : List Nat) (H' : Hp), cF K CL H' Z (t8 δ ix) (ix.map fun i => (σ[i]?).getD none) []
 | [], _ => .nil
 | i :: r, H' => by
   have ih := yt S r H'
   show cF K CL H' Z (Xp δ[i]? :: t8 δ r) (((σ[i]?).getD none) :: r.map fun i => (σ[i]?).getD none) []
   cases e : δ[i]? with
   | none => exact .skip ih
   | some o =>
     cases o with
     | none => exact .skip ih
     | some t =>
       cases t with
       | sh d =>
         obtain ⟨v, hv, rv⟩ := S.IX e
         rw [hv]
         exact .cons (fp := []) (gp := []) (.sh rv) ih
       | tup _ => exact .skip ih
       | lst _ => exact .skip ih
       | ins _ _ => exact .skip ih
       | q8 _ => exact .skip ih
       | dct _ => exact .skip ih
       | pin _ _ => exact .skip ih
section
variable {ds : List D}
structure Comes (X : Cx) (CL : Q.e) (b : Bx) (δ1 : Q.f) (σ : L2.St) (ts : List T) (vs : List V) (Z H : Hp) (ds : List D) (J : It) (H1 : Hp) : Prop where
 ex : ∃ Z1 us, aB Z Z1 /\ aB H H1 /\ aL X.K CL b H1 Z1 δ1 σ ts vs /\ aI X.K CL Z1 ds us /\ (∀ i H2, aB Z1 H2 -> i < ds.length -> J.go i H2) ∧
   (∀ i H2 x H', aB Z1 H2 -> i < ds.length -> J.Rc i H2 x H' -> H' = H2 /\ us[i]? = some x) /\ (∀ H2, aB Z1 H2 -> J.stop ds.length H2)
def NC (X : Cx) (CL : Q.e) (b : Bx) (tg e : Expr) (δ : Q.f) (ds : List D) (δ1 : Q.f) : Prop :=
 ∃ wi, PI X tg e wi /\ ∀ (H Z : Hp) (σ : L2.St) (ts : List T) (vs : List V) (R : It -> Hp -> Prop), aL X.K CL b H Z δ σ ts vs -> (∀ J H1, Comes X CL b δ1 σ ts vs Z H ds J H1 -> R J H1) -> wi σ H R
theorem qm {tg : Expr} (h : bS X CL b iter δ (.sh (.lst ds)) δ1) : NC X CL b tg iter δ ds δ1 := by
 refine ⟨_, Rz c7, fun H Z σ ts vs R S k => h H Z σ ts vs _ S fun v H1 Z1 z1 k1 S1 => ?_⟩
 obtain ⟨fp, gp, _, r, _, _⟩ := S1.rep
 cases r with
 | cons r _ =>
   cases r with
   | sh r =>
     cases r with
     | @lst a us _ hq rr =>
       refine ⟨a, rfl, ⟨us, S1.zh.seq hq⟩, k _ _ ⟨Z1, us, z1, k1, S1.pop, rr, fun i H2 s hi => ?_, fun i H2 y H' s hi hy => ⟨hy.1, hy.2 us (s.seq hq)⟩, fun H2 s => ⟨us, s.seq hq, by rw [rr.length]; exact ahG _⟩⟩⟩
       have hi' : i < us.length := by rw [← rr.length]; exact hi
       exact ⟨us, us[i], s.seq hq, by simp [hi']⟩
theorem GD {tg : Expr} (h : bS X CL b iter δ (.sh (.tup ds)) δ1) : NC X CL b tg iter δ ds δ1 := by
 refine ⟨_, WC c7, fun H Z σ ts vs R S k => h H Z σ ts vs _ S fun v H1 Z1 z1 k1 S1 => ?_⟩
 obtain ⟨fp, gp, _, r, _, _⟩ := S1.rep
 cases r with
 | cons r _ =>
   cases r with
   | sh r =>
     cases r with
     | @tup a us _ hq rr =>
       refine ⟨a, rfl, ⟨us, aB.Gs S1.zh hq⟩, k _ _ ⟨Z1, us, z1, k1, S1.pop, rr, fun i H2 s hi => ?_, fun i H2 y H' s hi hy => ⟨hy.1, hy.2 us (aB.Gs s hq)⟩, fun H2 s => ⟨us, aB.Gs s hq, by rw [rr.length]; exact ahG _⟩⟩⟩
       have hi' : i < us.length := by rw [← rr.length]; exact hi
       exact ⟨us, us[i], aB.Gs s hq, by simp [hi']⟩
def f9 (lo : Int) (n : Nat) : List D := (List.range n).map fun (i : Nat) => D.int (lo + i)
theorem NF (lo : Int) (n : Nat) : aI K CL Z (f9 lo n) ((List.range n).map fun (i : Nat) => V.int (lo + i)) := by
 unfold f9
 generalize List.range n = l
 induction l with
 | nil => exact .nil
 | cons i r ih => exact .cons (.int _) ih
theorem qo {tg : Expr} {pr pc : Pos} {n : Int} (hm : X.mg "range" = none) (h : eF X CL b iter δ (.int n) δ1) (hn : -(2 ^ 62) <= n /\ n < 2 ^ 62) (hg : Gl X "range") (kG : starEach [iter] X.env = [(false, eval iter X.env)] := by rfl) (GF : starEach [iter] X.env = (false, eval iter X.env) :: starEach [] X.env := by exact aV rfl) :
   NC X CL b tg (.Call (.Name "range" pr) [iter] [] pc) δ (f9 0 n.toNat) δ1 := by
 refine ⟨_, uY hg hm (bI c7 dF GF) kG, fun H Z σ ts vs R S k => h H Z σ ts vs _ S fun v H1 Z1 z1 k1 S1 r => ⟨n, by rw [r.sc rfl], hn.1, hn.2, k _ _ ⟨Z1, _, z1, k1, S1, NF 0 n.toNat, fun i H2 s hi => ?_, fun i H2 y H' s hi hy => ?_, fun H2 s => ?_⟩⟩⟩
 . show i < n.toNat
   have : (f9 0 n.toNat).length = n.toNat := by simp [f9]
   omega
 . have hi' : i < n.toNat := by simpa [f9] using hi
   refine ⟨hy.1, ?_⟩
   rw [ahW, List.getElem?_range hi', hy.2]
   rfl
 . show n.toNat <= (f9 0 n.toNat).length
   simp [f9]
theorem Xq {D : c9} {dm : List Stmt} (i : Nat) {pos' : Pos} (P : Nat -> List (Option T) -> Prop) (h : NC X CL b (.Name x pos') iter δ ds δ1) (h0 : P 0 δ1) (hl : ∀ j δ, P j δ -> i < δ.length)
   (hs : ∀ j d δ, ds[j]? = some d -> P j δ -> cH X CL b dm (δ.set i (some (.sh d))) { nx := P (j + 1), rt := D.rt, bk := D.nx, ct := P (j + 1) }) (hd : ∀ δ, P ds.length δ -> D.nx δ)
   (hp : PassesOwn Q.d X.A X.env X.xe) (hc : X.calm = true) (hN : X.N.Nodup) (hi : X.N[i]? = some x) (hx : Loc X.env.scope x) (hf : X.fn x = true \/ X.env.scope.names.lookup x = some .local) (hq : ∀ x, foldedSetIterable iter X.env x = pure x := by intro _; rfl) :
   Ks X CL b (.For (.Name x pos') iter dm [] pos) δ D := fun H Z σ ts vs E S M => by
 obtain ⟨wi, pi, hw⟩ := h
 refine kL (Gb hp hc pi (kK hN hi hx hf) IV hq) (hw H Z σ ts vs _ S fun J H1 zz => ?_)
 obtain ⟨Z1, us, z1, k1, S1, rr, go, yl, st⟩ := zz
 refine ⟨fun j m σ H2 => m = ds.length - j /\ j <= ds.length /\ ∃ Z2 δ2, aB Z1 Z2 /\ aL X.K CL b H2 Z2 δ2 σ ts vs /\ P j δ2, ⟨_, rfl, ah8 _, Z1, δ1, .refl _, S1, h0⟩, ?_⟩
 rintro j m σ H2 ⟨rfl, hj, Z2, δ2, s, S2, p2⟩
 by_cases nJ : j < ds.length
 . refine .inr ⟨go j H2 (s.trans S2.zh) nJ, fun σ' H' => ∃ Z2 δ2, aB Z1 Z2 /\ aL X.K CL b H' Z2 δ2 σ' ts vs /\ P (j + 1) δ2, fun σ' H' h => ⟨ds.length - (j + 1), by omega, rfl, nJ, h⟩, fun y H' hy => ?_⟩
   obtain ⟨e, hu⟩ := yl j H2 y H' (s.trans S2.zh) nJ hy
   subst e
   obtain ⟨d, Rt, rd⟩ := rr.W8 hu
   have S3 := (S2.push (rd.mono s)).set (hl j δ2 p2)
   exact hs j d δ2 Rt p2 _ Z2 _ ts vs _ S3 ⟨fun δ' σ' H' Z' s' S' k => ⟨Z', δ', s.trans s', S', k⟩, fun t v H' Z' δ' σ' s' S' k => M.rt t v H' Z' δ' σ' (z1.trans (s.trans s')) S' k, fun δ' σ' H' Z' s' S' k => M.nx δ' σ' H' Z' (z1.trans (s.trans s')) S' k, fun δ' σ' H' Z' s' S' k => ⟨Z', δ', s.trans s', S', k⟩⟩
 . have e : j = ds.length := by omega
   subst e
   exact .inl ⟨st H2 (s.trans S2.zh), M.nx δ2 σ H2 Z2 (z1.trans s) S2 (hd δ2 p2)⟩
def Block (X : Cx) (CL : Q.e) (scope : Scope) (Nc : List Str) (ifs : List Expr) (elt : Expr) (δc : Q.f) (ds : List D) (p : D -> Bool) (g : D -> T) : Prop :=
 ∀ C s0 H0 f0 b' d, d ∈ ds -> TIv (bH X scope Nc C s0 H0 f0) CL b' ifs (some (.sh d) :: δc) (p d) /\ (p d = true -> bS (bH X scope Nc C s0 H0 f0) CL b' elt (some (.sh d) :: δc) (g d) (some (.sh d) :: δc))
variable {δc : Q.f} {p : D -> Bool} {g : D -> T}
end
theorem GH (sc : gu X scope x Nc ix) (I : L2.Inv X pins σ H s) : closureFor scope X.env = pure (fO X.env scope.names []) :=
 se fun y hy e => I.ok.has y.1 (sc.frees y hy e).2
variable {n : Nat}
theorem ay (h : Nat.ble n 1000 = true) : n <= sizeLine := aiC (jl (ahA h))
structure Vn (X : Cx) (i : Nat) (x : Str) : Prop where
 hi : X.N[i]? = some x
 hv : Vm X.env.scope x
 hd : (x == ("__debug__" : Str)) = false
 j3 : (x == ("__classdict__" : Str)) = false
structure Ln (X : Cx) (i : Nat) (x : Str) : Prop extends Vn X i x where
 loc : Loc X.env.scope x
 hf : X.fn x = true \/ X.env.scope.names.lookup x = some .local
structure Gx (X : Cx) : Prop where
 nd : X.N.Nodup
 calm : X.calm = true
 xe : PassesOwn Q.d X.A X.env X.xe
structure Fc (X : Cx) (CL : Q.e) (x : Str) (k n : Nat) {A : Type} (arg : A -> List D) (Pre : A -> Prop) (res : A -> T) : Prop where
 ex : ∃ f fd ps, cJ X.prog X.w X.K X.mg X.base lu k f fd ps (AG X.K CL n arg Pre res) /\ X.mg x = some (.ref f) /\ PySem.W.keepIn X.K (.ref f) = true /\ Binds X.K fd ps []
 room : c6 k X.A
section
variable {d : L3.D} {pp : Pos} {D : c9} {dm : List Stmt} {ds : List L3.D}
theorem v_ (n : Vn X i x) (h : δ[i]? = some (some (.sh d)) := by rfl) : bS X CL b (.Name x pos) δ (.sh d) δ := Xb i n.hi n.hv n.hd n.j3 h
theorem vM (n : Vn X i x) (h : δ[i]? = some (some t) := by rfl) : bS X CL b (.Name x pos) δ t (δ.set i none) := R0 i n.hi n.hv n.hd n.j3 h
theorem vB (n : Vn X i x) (h : δ[i]? = some (some t) := by rfl) : eF X CL b (.Name x pos) δ t.aZ δ := Xc i n.hi n.hv n.hd n.j3 h
theorem yu (h : eF X CL b e δ (.int k) δ1) : bS X CL b (.UnaryOp .USub e pos) δ (.sh (.int (-k))) δ1 := fun H Z σ ts vs Q S kk =>
 bZ (aac WQ c7) (h H Z σ ts vs _ S fun v H1 Z1 z1 k1 S1 r => ⟨k, r.sc rfl, kk _ H1 Z1 z1 k1 (S1.push (.int _))⟩)
theorem vL (n : Vn X i x) (h : δ[i]? = some (some (.lst (ds.map T.sh))) := by rfl) : eF X CL b (.Name x pos) δ (.lst ds) δ := by
 have := vB (CL := CL) (b := b) (pos := pos) n h
 rwa [T.aZ, iz] at this
theorem c_ {k : Nat} {A : Type} {arg : A -> List L3.D} {Pre : A -> Prop} {res : A -> T} (a : A) (F : Fc X CL x k n arg Pre res) (hg : Gl X x) (h : Mu X CL b (e :: es) δ (arg a) δ1) (hp : Pre a) (hc : (res a).clean = true) (hn : (arg a).length = n := by rfl)
   (qg : Q.m := by decide) (he : Q.r := by exact aV rfl) (hpl : Q.w := by rfl) :
   bS X CL b (.Call (.Name x pp) (e :: es) [] pos) δ (res a) δ1 := by
 obtain ⟨f, fd, ps, F1, m, k, b⟩ := F.ex
 exact R5 a F1 F.room m k b h hn hp hc hg qg he hpl
theorem bE {pos' : Pos} (g : Gx X) (n : Ln X i x) (h : bS X CL b e δ t δ1) (k : cH X CL b dm (δ1.set i (some t)) D) (hl : i < δ1.length := by exact ahA rfl) (hs : swapsWith e (some (.Name x pos')) pos.line X.env = pure false := by rfl) :
   cH X CL b (.Assign [.Name x pos'] e pos :: dm) δ D := aY (Cw i h k hl g.nd n.hi n.loc hs n.hf)
theorem cO (h : bS X CL b e δ t δ1) (k : D.rt t δ1) : cH X CL b (.Return (some e) pos :: dm) δ D := aY (Xi h k)
theorem iu {a c : List Stmt} (h : vg X CL b e δ p δ1) (h1 : p = true -> cH X CL b a δ1 { D with nx := fun δ2 => cH X CL b dm δ2 D }) (h2 : p = false -> cH X CL b c δ1 { D with nx := fun δ2 => cH X CL b dm δ2 D }) : cH X CL b (.If e a c pos :: dm) δ D := aY (aaJ h h1 h2)
theorem cH.to {D' : c9} (h : cH X CL b dm δ D') (h1 : ∀ δ, D'.nx δ -> D.nx δ) (h2 : ∀ t δ, D'.rt t δ -> D.rt t δ) (h3 : ∀ δ, D'.bk δ -> D.bk δ) (h4 : ∀ δ, D'.ct δ -> D.ct δ) : cH X CL b dm δ D := fun H Z σ ts vs E S M => h H Z σ ts vs E S (M.to h1 h2 h3 h4)
theorem aaU {a c : List Stmt} (J : List (Option T) -> Prop) (h : vg X CL b e δ p δ1) (h1 : p = true -> cH X CL b a δ1 { D with nx := J }) (h2 : p = false -> cH X CL b c δ1 { D with nx := J }) (k : ∀ δ2, J δ2 -> cH X CL b dm δ2 D) : cH X CL b (.If e a c pos :: dm) δ D :=
 iu h (fun hp => cH.to (h1 hp) k (fun _ _ q => q) (fun _ q => q) (fun _ q => q)) (fun hp => cH.to (h2 hp) k (fun _ _ q => q) (fun _ q => q) (fun _ q => q))
theorem t9 {body : List Stmt} {pos' : Pos} (g : Gx X) (n : Ln X i x) (P : Nat -> List (Option T) -> Prop) (h : NC X CL b (.Name x pos') e δ ds δ1) (h0 : P 0 δ1) (hl : ∀ j δ, P j δ -> i < δ.length)
   (hs : ∀ j d δ, ds[j]? = some d -> P j δ -> cH X CL b body (δ.set i (some (.sh d))) { nx := P (j + 1), rt := D.rt, bk := fun δ2 => cH X CL b dm δ2 D, ct := P (j + 1) }) (hd : ∀ δ, P ds.length δ -> cH X CL b dm δ D) (hq : ∀ x, foldedSetIterable e X.env x = pure x := by intro _; rfl) :
   cH X CL b (.For (.Name x pos') e body [] pos :: dm) δ D :=
 aY (Xq (D := { D with nx := fun δ1 => cH X CL b dm δ1 D }) i P h h0 hl hs hd g.xe g.calm g.nd n.hi n.loc n.hf hq)
theorem yw {o : Option Expr} {l : Nat} (h : ∃ c, swapsWith e o l env = pure c) : swapsWith e o l env = pure true \/ swapsWith e o l env = pure false := by
 obtain ⟨c, h⟩ := h
 cases c
 . exact .inr h
 . exact .inl h
theorem j7 {C : Addr} (h1 : Nc[i]? = some x) (h2 : scope.names.lookup x = some .local) (hd : Q.m := by decide) (j3 : (x == ("__classdict__" : Str)) = false := by decide) : Vn (bH X scope Nc C s H fp) i x :=
 ⟨h1, .inl (ai5 h2), hd, j3⟩
theorem sR {C : Addr} (h1 : Nc[i]? = some x) (h2 : scope.names.lookup x = some .free) (hd : Q.m := by decide) (j3 : (x == ("__classdict__" : Str)) = false := by decide) : Vn (bH X scope Nc C s H fp) i x := by
 refine ⟨h1, ?_, hd, j3⟩
 have q := dH (env := X.env) h2
 show (relabel scope X.env).names.lookup x = some .local \/ (relabel scope X.env).names.lookup x = some .cell \/ (relabel scope X.env).names.lookup x = some .free
 rw [show (relabel scope X.env).names.lookup x = _ from q]
 split
 . exact .inr (.inl rfl)
 . exact .inr (.inr rfl)
theorem ua {C : Addr} (h2 : scope.names.lookup x = some .globalImplicit) : Gl (bH X scope Nc C s H fp) x := by
 have q := dH (env := X.env) h2
 show (relabel scope X.env).names.lookup x = some .globalImplicit
 rw [show (relabel scope X.env).names.lookup x = _ from q]
 rfl
theorem R9 {C : Addr} (g : Gx X) (h : Nc.Nodup) : Gx (bH X scope Nc C s H fp) := ⟨h, g.calm, .never⟩
theorem Sb {C : Addr} {k : Nat} {A : Type} {arg : A -> List L3.D} {Pre : A -> Prop} {res : A -> T} (F : Fc X CL x k n arg Pre res) : Fc (bH X scope Nc C s H fp) CL x k n arg Pre res := ⟨F.ex, F.room⟩
end
variable {ds : List L3.D}
theorem Sd (h : Ec X CL b es δ (ds.map T.sh) δ1) (hl : ds.length <= sizeLine := by exact ay rfl) : bS X CL b (.List es pos) δ (.sh (.lst ds)) δ1 := by
 have := Ct (dG (pos := pos) h (by simpa using hl))
 rwa [T.aZ, iz] at this
theorem bu : bootBuiltins "list" = some (.type "list") := Q.j
theorem qp : bootBuiltins "tuple" = some (.type "tuple") := Q.j
def qa (sc : Scope) (l : List (Str × NameKind)) : Bool := l.all fun p => sc.names.lookup p.1 == some p.2
theorem jG {sc : Scope} {l : List (Str × NameKind)} (h : qa sc l = true) (i : Nat) {k : NameKind} (hi : l[i]? = some (x, k)) : sc.names.lookup x = some k := by
 unfold qa at h
 rw [aiP] at h
 exact ajd.mp (h _ (aih hi))
inductive NK (X : Cx) : List Nat -> List Str -> Prop where
 | nil : NK X [] []
 | cons {i : Nat} {y : Str} {ix : List Nat} {ys : List Str} (n : Vn X i y) (k : X.env.kindOf y = some .cell \/ X.env.kindOf y = some .free) (r : NK X ix ys) : NK X (i :: ix) (y :: ys)
def NP (scope : Scope) (x : Str) (qq : List Str) : Bool :=
 scope.kind == .function && scope.names.lookup x == some .local && qq.all (fun y => scope.names.lookup y == some .free) && decide ((x :: qq).Nodup) &&
   scope.names.all fun y => y.2 != .cell && (y.2 != .local || scope.names.lookup y.1 == some .local) && (y.2 != .free || (qq.contains y.1 && scope.names.lookup y.1 == some .free))
theorem lC {qq : List Str} (c : NK X ix qq) (ok : NP scope x qq = true) : gu X scope x (x :: qq) ix := by
 unfold NP at ok
 simp only [ah0, aiP, ajk, ajd] at ok
 obtain ⟨⟨⟨⟨h1, h2⟩, h3⟩, h4⟩, h5⟩ := ok
 have kc : ∀ y ∈ qq, X.env.kindOf y = some .cell \/ X.env.kindOf y = some .free := by
   clear h3 h4 h5
   induction c with
   | nil => intro y hy; cases hy
   | cons n k r ih =>
     intro y hy
     rcases ahH.mp hy with e | hy
     . subst e; exact k
     . exact ih y hy
 refine ⟨h1, fun y hy e => ?_, h4, fun y hy e => ?_, h2, fun y hy e => ?_, ?_, fun i hi => ?_⟩
 . have := (h5 y hy).1.1
   rw [e] at this
   simp at this
 . have := (h5 y hy).1.2
   rw [e] at this
   simpa using this
 . have := (h5 y hy).2
   rw [e] at this
   simp at this
   exact ⟨this.2, kc _ this.1⟩
 . congr 1
   clear h3 h4 h5 kc
   induction c with
   | nil => rfl
   | cons n k r ih => rw [ah9, n.hi, ← ih]
 . clear h4 h5 kc
   induction c with
   | nil => cases hi
   | @cons i' y ix ys n k r ih =>
     rcases ahH.mp hi with e | hi
     . subst e; exact ⟨y, n.hi, h3 y ahw⟩
     . exact ih (fun z hz => h3 z (ahz _ hz)) hi
def D.NQ : D -> Int
 | .int i => i
 | _ => 0
theorem Cy {bs : List Int} (h0 : 0 <= k) (h1 : k < bs.length) : wF (bs.map D.int) k = some (.int (bs.getD k.toNat 0)) := by
 obtain ⟨j, rfl⟩ : ∃ j : Nat, k = j := ⟨k.toNat, by omega⟩
 refine fS ?_
 have hl : j < bs.length := by omega
 rw [ahW, ahQ hl]
 simp [List.getD, hl]
theorem lD : ∀ (bs : List Int), D.bJ (bs.map D.int) = true
 | [] => rfl
 | i :: r => by rw [ahO, D.bJ, lD r]; rfl
theorem EG {lo : Int} {d : D} (h : (f9 lo n)[j]? = some d) : d = .int (lo + j) /\ j < n := by
 have hl : j < n := by
   have := (aii.mp h).1
   simpa [f9] using this
 refine ⟨?_, hl⟩
 unfold f9 at h
 rw [ahW, List.getElem?_range hl] at h
 exact (ahP h).symm
theorem ig (l : List α) : l.filter (fun _ => true) = l := by simp
theorem EH {K : Q.h} {CL : Q.e} {Z : Hp} : ∀ (ns : List Int), aI K CL Z (ns.map D.int) (ns.map V.int)
 | [] => .nil
 | n :: r => .cons (.int n) (EH r)
theorem Xr {arg : List Int -> List D} {pre : List Int -> Prop} {res : List Int -> T} {ns : List Int} (ha : arg ns = [.lst (ns.map D.int)]) (hp : pre ns) (hr : res ns = .sh (.bl true)) (hS : oB K H a (ns.map V.int)) (h0 : ∀ x, IW x = true -> CL x = 0 := by intros; rfl) :
   AG K CL 1 arg pre res [.ref a] H (fun v _ => v = .bl true) fun _ _ _ => False :=
 ⟨H, ns, .refl _, fun _ _ q _ => q, by rw [ha]; exact .cons (.lst hS (EH ns)) .nil, by rw [ha]; rfl, hp, fun x hx e => absurd (h0 x hx) e, fun v H' W' fp _ _ _ _ _ r _ _ => by
   rw [hr] at r
   cases r with
   | sh r => exact r.sc rfl⟩
mutual
def D.toPy : D -> PyData
 | .non => .none
 | .bl b => .bool b
 | .int i => .int i
 | .str x => .str x
 | .tup ds => .tuple (D.nM ds)
 | .lst ds => .list (D.nM ds)
 | .ins _ _ => .none
 | .q8 _ => .none
 | .dct _ => .none
 | .any => .none
 | .val _ => .none
def D.nM : List D -> List PyData
 | [] => []
 | d :: ds => d.toPy :: D.nM ds
end
inductive gI : Nat -> D -> Prop where
 | non (n : Nat) : gI n .non
 | bl (n : Nat) (b : Bool) : gI n (.bl b)
 | int (n : Nat) (i : Int) : gI n (.int i)
 | str (n : Nat) (x : Str) (h : PyData.strOk x = true) : gI n (.str x)
 | tup {n : Nat} {ds : List D} (h : ∀ d ∈ ds, gI n d) : gI (n + 1) (.tup ds)
 | lst {n : Nat} {ds : List D} (h : ∀ d ∈ ds, gI n d) : gI (n + 1) (.lst ds)
def FY (a b : D) : Bool := PyData.eqv a.toPy b.toPy
theorem gI.Xs {n : Nat} : ∀ {ds : List D}, (∀ d ∈ ds, d.toPy.canLay0 = true /\ d.toPy.depth <= n) -> PyData.canLayAll0 (D.nM ds) = true /\ PyData.depthAll (D.nM ds) <= n
 | [], _ => ⟨by rw [D.nM, PyData.canLayAll0], by rw [D.nM, PyData.depthAll]; exact ah8 _⟩
 | d :: ds, h => by
   have h1 := h d ahw
   have h2 := gI.Xs (ds := ds) fun e he => h e (ahz _ he)
   rw [D.nM, PyData.canLayAll0, PyData.depthAll, h1.1, h2.1]
   exact ⟨rfl, Nat.max_le.mpr ⟨h1.2, h2.2⟩⟩
theorem gI.lay {d : D} (h : gI n d) : d.toPy.canLay0 = true /\ d.toPy.depth <= n := by
 induction h with
 | non n => exact ⟨by rw [D.toPy, PyData.canLay0], by rw [D.toPy, PyData.depth]; exact ah8 _⟩
 | bl n b => exact ⟨by rw [D.toPy, PyData.canLay0], by rw [D.toPy, PyData.depth]; exact ah8 _⟩
 | int n i => exact ⟨by rw [D.toPy, PyData.canLay0], by rw [D.toPy, PyData.depth]; exact ah8 _⟩
 | str n x hx => exact ⟨by rw [D.toPy, PyData.canLay0]; exact hx, by rw [D.toPy, PyData.depth]; exact ah8 _⟩
 | @tup n ds _ ih =>
   have := gI.Xs ih
   rw [D.toPy, PyData.canLay0, PyData.depth]
   exact ⟨this.1, by omega⟩
 | @lst n ds _ ih =>
   have := gI.Xs ih
   rw [D.toPy, PyData.canLay0, PyData.depth]
   exact ⟨this.1, by omega⟩
theorem uc {d : D} (h : gI n d) : FY d d = true := SeqAt.eqv_refl _ h.lay.1
theorem Cz (I : L2.Inv X pins σ H s) {d : D} {u : Value} (hd : gI n d) (q : bf X.K CL H d v) (r : RelV v u) : ∃ as, Reads s.heap u d.toPy as := by
 refine bf.rec (motive_1 := fun d v _ => ∀ (n : Nat) (u : Value), gI n d -> RelV v u -> ∃ as, Reads s.heap u d.toPy as)
   (motive_2 := fun ds vs _ => ∀ (n : Nat) (us : List Value), (∀ d ∈ ds, gI n d) -> Vals vs us -> ∃ as, ReadsAll s.heap us (D.nM ds) as) (motive_3 := fun _ _ _ => True) (motive_4 := fun _ _ _ => True) (motive_5 := fun _ _ _ => True)
   (fun _ _ _ r => ?non) (fun b _ _ _ r => ?bl) (fun i _ _ _ r => ?int) (fun x _ _ _ r => ?str) (fun _ _ _ hd _ => by cases hd) (fun _ _ _ hd _ => by cases hd) (fun hq _ ih n u hd r => ?tup) (fun hq _ ih n u hd r => ?lst) (fun _ _ _ _ _ hd _ => by cases hd) (fun _ _ _ _ _ hd _ => by cases hd) (fun _ _ _ _ _ hd _ => by cases hd)
   (fun _ _ _ r => ?nil) (fun _ _ ih ihs n us h r => ?cons) trivial Q.u trivial Q.u trivial Q.u q n u hd r
 case non => cases r; rw [D.toPy]; exact ⟨[], .none⟩
 case bl => cases r; rw [D.toPy]; exact ⟨[], .bool b⟩
 case int => obtain ⟨t, rfl⟩ := r; rw [D.toPy]; exact ⟨[], .int i t⟩
 case str => obtain ⟨t, rfl⟩ := r; rw [D.toPy]; exact ⟨[], .str x t⟩
 case tup =>
   cases hd with
   | tup hd =>
     cases r
     obtain ⟨its, rv, ⟨o, e, c, k, dt⟩, _⟩ := I.tuple hq
     obtain ⟨as, ra⟩ := ih _ _ hd rv
     rw [D.toPy]
     exact ⟨as, .tuple e c dt (by simpa using ra)⟩
 case lst =>
   cases hd with
   | lst hd =>
     cases r
     obtain ⟨its, rv, ⟨o, k, e, c, _, dt⟩, _⟩ := I.list hq
     obtain ⟨as, ra⟩ := ih _ _ hd rv
     rw [D.toPy]
     exact ⟨_, .list e c dt (by simpa using ra)⟩
 case nil => cases r; rw [D.nM]; exact ⟨[], .nil⟩
 case cons =>
   cases r with
   | cons r rs =>
     obtain ⟨as, ra⟩ := ih n _ (h _ ahw) r
     obtain ⟨bs, rb⟩ := ihs n _ (fun e he => h e (ahz _ he)) rs
     rw [D.nM]
     exact ⟨as ++ bs, .cons ra rb⟩
variable {pp : Pos} {dm : List Stmt} {DD : c9} {d1 d2 : D} {ds : List D}
theorem Xu (hu : X.A.units + 64 < cLine) : u9 X (compareOp .Eq) (fun x y H Q => ∃ a c, bf X.K CL H a x /\ bf X.K CL H c y /\ gI 60 a /\ gI 60 c /\ Q (.bl (FY a c)) H) := by
 intro pins s σ H x y v u Q I rx ry h
 obtain ⟨a, c, ra, rc, da, dc, q⟩ := h
 obtain ⟨as, r1⟩ := Cz I da ra rx
 obtain ⟨bs, r2⟩ := Cz I dc rc ry
 exact SeqAt.rcAt_reads r1 r2 da.lay.1 dc.lay.1 (by have := da.lay.2; omega) X.prog X.w X.xe _ ⟨.bl _, H, I, rfl, q⟩
theorem NR (hu : X.A.units + 64 < cLine) : u9 X (compareOp .NotEq) (fun x y H Q => ∃ a c, bf X.K CL H a x /\ bf X.K CL H c y /\ gI 60 a /\ gI 60 c /\ Q (.bl (!FY a c)) H) := by
 intro pins s σ H x y v u Q I rx ry h
 obtain ⟨a, c, ra, rc, da, dc, q⟩ := h
 obtain ⟨as, r1⟩ := Cz I da ra rx
 obtain ⟨bs, r2⟩ := Cz I dc rc ry
 exact SeqAt.rcNeAt_reads r1 r2 da.lay.1 dc.lay.1 (by have := da.lay.2; omega) X.prog X.w X.xe _ ⟨.bl _, H, I, rfl, q⟩
theorem aaV {op : CmpOp} {f : Bool -> Bool} (ho : u9 X (compareOp op) (fun x y H Q => ∃ a c, bf X.K CL H a x /\ bf X.K CL H c y /\ gI 60 a /\ gI 60 c /\ Q (.bl (f (FY a c))) H)) (h1 : eF X CL b e1 δ d1 δ1) (h2 : eF X CL b e2 δ1 d2 δ2) (k1 : gI 60 d1) (k2 : gI 60 d2)
   (hm : behindInMarks op e2 = false) : vg X CL b (.Compare e1 [op] [e2] pos) δ (f (FY d1 d2)) δ2 /\ bS X CL b (.Compare e1 [op] [e2] pos) δ (.sh (.bl (f (FY d1 d2)))) δ2 := by
 constructor
 . intro H Z σ ts vs Q S k
   refine EA (tS ho c7 c7 hm) (h1 H Z σ ts vs _ S fun v1 H1 Z1 z1 k1' S1 r1 => h2 H1 Z1 σ ts vs _ S1 fun v2 H2 Z2 z2 k2' S2 r2 => ?_)
   exact ⟨d1, d2, r1.mono k2', r2, k1, k2, _, rfl, k H2 Z2 (z1.trans z2) (k1'.trans k2') S2⟩
 . intro H Z σ ts vs Q S k
   refine bZ (Cb ho c7 c7 hm) (h1 H Z σ ts vs _ S fun v1 H1 Z1 z1 k1' S1 r1 => h2 H1 Z1 σ ts vs _ S1 fun v2 H2 Z2 z2 k2' S2 r2 => ?_)
   exact ⟨d1, d2, r1.mono k2', r2, k1, k2, k _ H2 Z2 (z1.trans z2) (k1'.trans k2') (S2.push (.bl _))⟩
theorem NS (hu : X.A.units + 64 < cLine) (h1 : eF X CL b e1 δ d1 δ1) (h2 : eF X CL b e2 δ1 d2 δ2) (k1 : gI 60 d1) (k2 : gI 60 d2) : vg X CL b (.Compare e1 [.Eq] [e2] pos) δ (FY d1 d2) δ2 /\ bS X CL b (.Compare e1 [.Eq] [e2] pos) δ (.sh (.bl (FY d1 d2))) δ2 :=
 aaV (f := fun b => b) (Xu hu) h1 h2 k1 k2 (mU _)
theorem GJ (hu : X.A.units + 64 < cLine) (h1 : eF X CL b e1 δ d1 δ1) (h2 : eF X CL b e2 δ1 d2 δ2) (k1 : gI 60 d1) (k2 : gI 60 d2) : vg X CL b (.Compare e1 [.NotEq] [e2] pos) δ (!FY d1 d2) δ2 /\ bS X CL b (.Compare e1 [.NotEq] [e2] pos) δ (.sh (.bl (!FY d1 d2))) δ2 :=
 aaV (f := fun b => !b) (NR hu) h1 h2 k1 k2 (mU _)
def cutD (xs : List α) (lo hi : Option Int) : List α := (xs.drop (HT.AA xs.length 0 lo)).take (HT.AA xs.length xs.length hi - HT.AA xs.length 0 lo)
theorem aI.drop {K : Q.h} {Z : Hp} : ∀ {ds : List L3.D} {vs : List V} (n : Nat), aI K CL Z ds vs -> aI K CL Z (ds.drop n) (vs.drop n)
 | _, _, 0, r => r
 | _, _, _ + 1, .nil => .nil
 | _, _, n + 1, .cons _ t => aI.drop n t
theorem aI.take {K : Q.h} {Z : Hp} : ∀ {ds : List L3.D} {vs : List V} (n : Nat), aI K CL Z ds vs -> aI K CL Z (ds.take n) (vs.take n)
 | _, _, 0, _ => .nil
 | _, _, _ + 1, .nil => .nil
 | _, _, n + 1, .cons r t => .cons r (aI.take n t)
theorem aI.cut {ds : List L3.D} (r : aI K CL Z ds vs) (lo hi : Option Int) : aI K CL Z (cutD ds lo hi) (Kc vs lo hi) := by
 unfold cutD Kc
 rw [r.length]
 exact (r.drop _).take _
theorem gb : ∀ {ds : List L3.D}, D.bJ ds = true -> ∀ d ∈ ds, d.mq = true
 | [], _, _, h => by cases h
 | d :: ds, k, e, h => by
   rw [D.bJ, ah0] at k
   rcases ahH.mp h with h | h
   . subst h; exact k.1
   . exact gb k.2 e h
theorem oN : ∀ {ds : List L3.D}, (∀ d ∈ ds, d.mq = true) -> D.bJ ds = true
 | [], _ => rfl
 | d :: ds, h => by rw [D.bJ, h d ahw, oN fun e he => h e (ahz _ he)]; rfl
theorem Se {xs : List α} {lo hi : Option Int} {x : α} (h : x ∈ cutD xs lo hi) : x ∈ xs := List.mem_of_mem_drop (ajr h)
def TOv (X : Cx) (CL : Q.e) (b : Bx) (e : Option Expr) (δ : Q.f) (k : Option Int) (δ' : Q.f) : Prop :=
 ∃ t, PO X e t /\ ∀ (H Z : Hp) (σ : L2.St) (ts : List T) (vs : List V) (Q : Option Int -> Hp -> Prop), aL X.K CL b H Z δ σ ts vs -> (∀ H' Z', aB Z Z' -> aB H H' -> aL X.K CL b H' Z' δ' σ ts vs -> Q k H') -> t σ H Q
theorem Sf : TOv X CL b none δ none δ := ⟨_, IG, fun H Z σ ts vs Q S k => k H Z (.refl _) (.refl _) S⟩
theorem Jd (h : eF X CL b e δ (.int k) δ1) : TOv X CL b (some e) δ (some k) δ1 := ⟨_, II c7, fun H Z σ ts vs Q S kk => h H Z σ ts vs _ S fun v H1 Z1 z1 k1 S1 r => ⟨k, r.sc rfl, kk H1 Z1 z1 k1 S1⟩⟩
theorem Kw (hm : X.mg "tuple" = none) (h : eF X CL b e δ (.lst ds) δ1) (hi : D.bJ ds = true) (hg : Gl X "tuple") (hs : Q.y := by exact aV rfl) : bS X CL b (.Call (.Name "tuple" pp) [e] [] pos) δ (.sh (.tup ds)) δ1 := fun H Z σ ts vs Q S k =>
 bZ (ic mV hg hm qp (bI c7 dF hs) (he := hs)) (h H Z σ ts vs _ S fun v H1 Z1 z1 k1 S1 r => by
   cases r with
   | lst hq rr =>
     refine ⟨_, _, rfl, .inl ⟨hq, fun l hl => ?_⟩⟩
     obtain ⟨a, c, S2⟩ := (aL.tZ (aI.mq S1.tp hi rr) S1).Cu (by simp [rr.length]) hl
     obtain ⟨Z3, z3, S3⟩ := S2.Cr
     rw [T.aZ, iz] at S3
     exact k _ _ Z3 (z1.trans (a.trans z3)) (k1.trans c) S3)
variable {pa pb : Pos}
theorem sf {Rh : List T} (n : Vn X i x) (h0 : δ[i]? = some (some (.lst Rh))) (h : bS X CL b e δ t δ1) (h1 : δ1[i]? = some (some (.lst tl))) (hl : tl.length <= 1000000) (k : cH X CL b dm (δ1.set i (some (.lst (tl ++ [t])))) DD)
   (eV : attributeBase (.Name x pp) "append" X.env (eval (.Name x pp) X.env) = eval (.Name x pp) X.env := by rfl)
   (sP : Q.G := by rfl)
   (hline : (pa.endLine == pb.line) = true := by rfl) (hs : Q.y := by exact aV rfl) (t7 : swapsWith (.Call (.Attribute (.Name x pp) "append" pa) [e] [] pb) none pos.line X.env = pure false := by rfl) :
   cH X CL b (.Expr (.Call (.Attribute (.Name x pp) "append" pa) [e] [] pb) pos :: dm) δ DD :=
 aY (Xo i h0 h h1 (aiD hl (by rw [aix]; decide)) k n.hi n.hv n.hd n.j3 eV sP hline hs t7)
theorem aaY {ps : Pos} (n : Vn X i x) (h : bS X CL b e δ t δ1) (h2 : eF X CL b e2 δ1 (.int k) δ1) (h1 : δ1[i]? = some (some (.lst tl))) (hk : Ew tl.length k = some j) (kk : cH X CL b dm (δ1.set i (some (.lst (tl.set j t)))) DD)
   (ha : ∀ v, assign (.Subscript (.Name x pp) e2 ps) X.env v = (do
     let ov ← holding [v] (eval (.Name x pp) X.env)
     let iv ← holding [v, ov] (eval e2 X.env)
     standAt ps
     holding [v, ov, iv] (setItem ov iv v)
     release [v, ov, iv] []) := by intro _; rfl)
   (hs : swapsWithSole [.Subscript (.Name x pp) e2 ps] e pos.line X.env = pure false := by rfl) (hw : swappedStores [.Subscript (.Name x pp) e2 ps] e X.env = pure none := by rfl) (Sg : (assignEach [.Subscript (.Name x pp) e2 ps] X.env).map (·.2) = [assign (.Subscript (.Name x pp) e2 ps) X.env] := by rfl) :
   cH X CL b (.Assign [.Subscript (.Name x pp) e2 ps] e pos :: dm) δ DD := by
 refine aY fun H Z σ ts vs E S M => kL (MG c7 (MF (eB n.hi n.hv n.hd n.j3) c7 set_list ha) hs hw Sg) (h H Z σ ts vs _ S fun v H1 Z1 z1 k1 S1 => ?_)
 have hj : j < tl.length := (qZ hk).2.1
 obtain ⟨v0, e0, _⟩ := S1.look h1
 refine ⟨v0, e0, ?_⟩
 refine h2 H1 Z1 σ _ _ _ S1 fun v2 H2 Z2 z2 k2 S2 r2 => ?_
 obtain ⟨a, us, ea, Kr, hu, S3⟩ := S2.setAt h1 hj
 rw [e0] at ea
 cases ea
 exact ⟨a, us, k, j, rfl, r2.sc rfl, Kr, by rw [hu]; exact hk, M.nx _ σ _ Z2 (z1.trans z2) S3 kk⟩
theorem ud (hn : ds.length = n) (hm : X.mg "len" = none) (h : eF X CL b e δ (.lst ds) δ1) (hg : Gl X "len") (hs : Q.y := by exact aV rfl) : bS X CL b (.Call (.Name "len" pp) [e] [] pos) δ (.sh (.int n)) δ1 := by
 subst hn
 exact xC hm h hg hs
theorem vn (h : bS X CL b e δ (.lst (ds.map T.sh)) δ1) : eF X CL b e δ (.lst ds) δ1 := by
 have := VA h
 rwa [T.aZ, iz] at this
theorem yx {f : α -> D} {l : List α} (z : α) (h0 : 0 <= k) (h1 : k < l.length) : wF (l.map f) k = some (f (l.getD k.toNat z)) := by
 obtain ⟨j, rfl⟩ : ∃ j : Nat, k = j := ⟨k.toNat, by omega⟩
 refine fS ?_
 have hl : j < l.length := by omega
 rw [ahW, ahQ hl]
 simp [List.getD, hl]
def wV (l : Bool) (ds : List D) : D := match l with
 | true => .lst ds
 | false => .tup ds
theorem bF {α : Type} {f : α -> D} (h : ∀ a, (f a).mq = true) : ∀ (l : List α), D.bJ (l.map f) = true
 | [] => rfl
 | a :: l => by rw [ahO, D.bJ, h a, bF h l]; rfl
variable {d : D}
theorem Sh {u : Tok} (hm : X.mg x = some (.int k u)) (hg : Gl X x) (hd : Q.m := by decide) : bS X CL b (.Name x pos) δ (.sh (.int k)) δ := fun H Z σ ts vs Q S kk =>
 bZ (Ca (v := .int k) hg hm ⟨u, rfl⟩ hd) (kk _ H Z (.refl _) (.refl _) (S.push (.int k)))
theorem EI (hm : ∃ u, X.mg x = some (.int k u)) (hg : Gl X x) (hd : Q.m := by decide) : bS X CL b (.Name x pos) δ (.sh (.int k)) δ := by
 obtain ⟨u, hm⟩ := hm
 exact Sh hm hg hd
theorem vE (n : Vn X i x) (h : δ[i]? = some (some t)) (e : t.aZ = d) : eF X CL b (.Name x pos) δ d δ := e ▸ vB n h
theorem CB (x : Str) : ∀ l : List Str, inV (.str x) (l.map V.str) = decide (x ∈ l)
 | [] => by simp [inV]
 | y :: l => by
   have ih := CB x l
   unfold inV at ih ⊢
   rw [ahO, aju, ih]
   have e : ∀ a c : Str, RM (.str a) (.str c) = (a == c) := fun _ _ => rfl
   rw [e]
   by_cases h : y = x
   . subst h; simp
   . have h' : ¬ x = y := fun e => h e.symm
     simp [h, h']
theorem aI.strs {K : Q.h} {Z : Hp} : ∀ {l : List Str} {vs : List V}, aI K CL Z (l.map D.str) vs -> vs = l.map V.str
 | [], _, r => by
   have r' : aI K CL Z [] _ := r
   cases r'; rfl
 | y :: l, _, r => by
   have r' : aI K CL Z (D.str y :: l.map D.str) _ := r
   cases r' with
   | cons r1 r2 => rw [r1.sc rfl, aI.strs r2]; rfl
theorem oO : ∀ l : List Str, (l.map V.str).all tV = true
 | [] => rfl
 | y :: l => by rw [ahO, List.all_cons, oO l]; rfl
def yz : Expr -> Option Str
 | .Constant (.str x) _ _ => some x
 | _ => none
def vo : List Expr -> Option (List Str)
 | [] => some []
 | e :: es => (yz e).bind fun x => (vo es).map (x :: ·)
theorem EJ (h : yz e = some x) : ∃ j p, e = .Constant (.str x) j p := by
 unfold yz at h
 split at h
 . cases h; exact ⟨_, _, rfl⟩
 . cases h
theorem xD : ∀ {es : List Expr} {l : List Str}, vo es = some l -> Ec X CL b es δ ((l.map D.str).map T.sh) δ
 | [], l, h => by
   have e : l = [] := (ahP h).symm
   subst e
   exact bA
 | e :: es, l, h => by
   rw [vo] at h
   obtain ⟨x, hx, h⟩ := Option.bind_eq_some_iff.mp h
   obtain ⟨l', hl, rfl⟩ := aif.mp h
   obtain ⟨j, p, rfl⟩ := EJ hx
   exact aE bW (xD hl)
theorem Xv (h0 : 0 <= k) (h1 : k < n) : Ew n k = some k.toNat := by
 unfold Ew
 rw [ahN h0, ahN h1]
theorem qt (l : List Int) : T.bR ((l.map D.int).map T.sh) = true := by
 rw [aie]
 induction l with
 | nil => rfl
 | cons i r ih => rw [ahO, T.bR, ih]; rfl
variable {tt : List T}
theorem aL.Xw (S : Q.q) (hi : δ[i]? = some (some (.tup tt))) (hj : tt[j]? = some t) :
   ∃ a0 Zr v, σ[i]? = some (some (.ref a0)) /\ Z a0 = some (.tup Zr) /\ Zr[j]? = some v /\ aL K CL b H Z (δ.set i (some (.tup (tt.set j (.sh .any))))) σ (t :: ts) (v :: vs) := by
 obtain ⟨fp, gp, e, r, nd, k⟩ := S.rep
 obtain ⟨v0, f1, f2, f3, hv, kM, rt, put, _⟩ := e.get hi
 subst kM
 cases rt with
 | @tup a0 Zr _ _ hq r0 =>
   obtain ⟨vj, g1, g2, g3, hvj, hg, rj, set⟩ := r0.at hj
   subst hg
   have r2 := set (H' := H) (t' := .sh .any) (v' := vj) (g := []) (fun _ _ => rfl) (.sh (.any vj))
   rw [cK hvj] at r2
   have e2 := put (H' := H) (.refl _) (fun _ _ => rfl) (aU.tup hq r2)
   rw [cK hv] at e2
   have hp : ((f1 ++ ((g1 ++ ([] ++ g3)) ++ f3)) ++ (g2 ++ gp)).Perm ((f1 ++ ((g1 ++ (g2 ++ g3)) ++ f3)) ++ gp) := by
     simp only [ajf, ahv]
     refine ah6 f1 (ah6 g1 ?_)
     have := (ahV (l₁ := g3 ++ f3) (l₂ := g2)).append_right gp
     simp only [ahv] at this
     exact this
   exact ⟨a0, Zr, vj, hv, hq, hvj, ⟨⟨_, g2 ++ gp, e2, .cons rj r, hp.nodup_iff.mpr nd, fun a ha => k a (hp.mem_iff.mp ha)⟩, S.bh, S.zz, S.zh, S.new, S.tp, S.tab⟩⟩
variable {pc ps : Pos} {kj : Nat}
theorem jH (j : Nat) (n : Vn X i x) (h : δ[i]? = some (some (.tup tt))) (hj : tt[j]? = some t) : bS X CL b (.Subscript (.Name x pp) (.Constant (.int j) kj pc) ps) δ t (δ.set i (some (.tup (tt.set j (.sh .any))))) := fun H Z σ ts vs Q S k => by
 obtain ⟨a0, Zr, v, hv, hq, hvj, S'⟩ := S.Xw h hj
 exact bZ (yk Ci (eB n.hi n.hv n.hd n.j3) F7 (fun _ _ => rfl)) ⟨_, hv, a0, Zr, j, v, rfl, rfl, sO.of (S.zh _ _ hq), fS hvj, k v H Z (.refl _) (.refl _) S'⟩
theorem gH.get : ∀ {fs : List (Str × D)} {gs : List (Str × V)} {f : Str} {d : D}, gH K CL Z fs gs -> fs.lookup f = some d -> ∃ v, gs.lookup f = some v /\ bf K CL Z d v
 | _, _, _, _, .nil, e => by simp at e
 | _, _, f, d, .cons (x := x) r t, e => by
   rw [ah1] at e ⊢
   cases h : f == x with
   | true => rw [h] at e; cases e; exact ⟨_, rfl, r⟩
   | false => rw [h] at e; exact gH.get t e
def iA (f : Str) (t : T) : List (Str × T) -> List (Str × T)
 | [] => [(f, t)]
 | (g, x) :: r => if g = f then (g, t) :: r else (g, x) :: iA f t r
variable {fs : List (Str × T)}
theorem cT.length {gs : List (Str × V)} (h : cT K CL H Z fs gs fp) : fs.length = gs.length :=
 cT.ind (P := fun d v _ => d.length = v.length) rfl (fun _ _ i => congrArg (· + 1) i) h
theorem cT.put {f : Str} {g : List Addr} (q : aU K CL H Z t v g) : ∀ {fs : List (Str × T)} {gs : List (Str × V)} {fp : List Addr}, cT K CL H Z fs gs fp →
   ∃ Zt f', cT K CL H Z (iA f t fs) (lq f v gs) Zt /\ f'.Sublist fp /\ Zt.Perm (g ++ f')
 | _, _, _, .nil => ⟨g ++ [], [], .cons q .nil, ah5 _, ajJ _⟩
 | _, _, _, .cons (x := x) (fp := fp) (gp := gp) r rs => by
   rw [iA, lq]
   by_cases h : x = f
   . rw [ahN h, ahN h]
     exact ⟨g ++ gp, gp, .cons q rs, aij _ _, ajJ _⟩
   . rw [ahC h, ahC h]
     obtain ⟨p, p', h1, h2, h3⟩ := cT.put (f := f) q rs
     refine ⟨fp ++ p, fp ++ p', .cons r h1, ah2 (ah5 _) h2, (ah6 fp h3).trans ?_⟩
     rw [← ahv, ← ahv]
     exact ahV.append_right p'
theorem aL.CD {o : HO} {Zt Jc : List Addr} (hm : jU o = false) (S : Q.q) (own : ∀ c ∈ fp ++ gp, Z c = none /\ b.B c = none) (ha : a ∈ fp ++ gp)
   (e' : cF K CL (upd H a o) Z δ2 σ Zt) (r' : aD K CL (upd H a o) Z tl us Jc) (pm : (Zt ++ Jc).Nodup) (sub : ∀ c ∈ Zt ++ Jc, c ∈ fp ++ gp) :
   aL K CL b (upd H a o) Z δ2 σ tl us := by
 have oa := own a ha
 refine ⟨⟨_, _, e', r', pm, fun c hc => own c (sub c hc)⟩, fun c u q => ?_, S.zz, fun c u q => ?_, S.new, fun c u q i => ?_, S.tab⟩
 . rw [aj (bC q oa.2)]; exact S.bh c u q
 . rw [aj (bC q oa.1)]; exact S.zh c u q
 . by_cases hc : c = a
   . subst hc; rw [aC] at q; cases q; rw [hm] at i; cases i
   . rw [aj hc] at q; exact S.tp c u q i
variable {c : Str}
theorem aL.setField {x : Addr} {f : Str} (S : aL K CL b H Z δ σ (t :: ts) (v :: vs)) (hi : δ[i]? = some (some (.pin x (.ins c fs)))) :
   ∃ dx gs, σ[i]? = some (some (.ref x)) /\ H x = some (.ins (CL c) dx gs) /\ gs.length = fs.length /\ aL K CL b (upd H x (.ins (CL c) dx (lq f v gs))) Z (δ.set i (some (.pin x (.ins c (iA f t fs))))) σ ts vs := by
 obtain ⟨fp, gp, e, r, nd, k⟩ := S.rep
 obtain ⟨v0, f1, f2, f3, hv, kM, rt, put, _⟩ := e.get hi
 subst kM
 cases rt with
 | pin rt =>
 cases rt with
 | @ins a dx _ gs _ g ha rs =>
   cases r with
   | @cons _ _ _ _ ft gr q1 q2 =>
     have ne : ∀ c ∈ (f1 ++ (g ++ f3)) ++ (ft ++ gr), c ≠ x := fun c hc e => by
       subst e
       have hp : ((f1 ++ ((c :: g) ++ f3)) ++ (ft ++ gr)).Perm (c :: ((f1 ++ (g ++ f3)) ++ (ft ++ gr))) := by
         rw [ahT, ← ahT]
         exact (aiE.append_right _)
       exact (aia.mp (hp.nodup_iff.mp nd)).1 hc
     refine ⟨dx, gs, hv, ha, rs.length.symm, ?_⟩
     have q1' := q1.mono (H' := upd H x (.ins (CL c) dx (lq f v gs))) (.refl _) fun c hc => aj Q.n
     have rs' := rs.mono (H' := upd H x (.ins (CL c) dx (lq f v gs))) (.refl _) fun c hc => aj Q.n
     obtain ⟨p, p', h1, h2, h3⟩ := cT.put (f := f) q1' rs'
     have r1 : aU K CL (upd H x (.ins (CL c) dx (lq f v gs))) Z (.pin x (.ins c (iA f t fs))) (.ref x) (x :: p) := .pin (.ins aC h1)
     have e2 := put (H' := upd H x (.ins (CL c) dx (lq f v gs))) (.refl _) (fun c hc => aj (ne c (by
       rcases ahB.mp hc with h | h
       . simp [h]
       . simp [h]))) r1
     rw [cK hv] at e2
     have hp : ((f1 ++ ((x :: p) ++ f3)) ++ gr).Perm ((f1 ++ ((x :: p') ++ f3)) ++ (ft ++ gr)) := by
       have h4 : ((f1 ++ ((x :: p) ++ f3)) ++ gr).Perm ((f1 ++ ((x :: (ft ++ p')) ++ f3)) ++ gr) := ((h3.cons x).append_right f3).append_left f1 |>.append_right gr
       refine h4.trans ?_
       simp only [ahT, ahv]
       refine ah6 f1 (List.Perm.cons x ?_)
       have := (ahV (l₁ := ft) (l₂ := p' ++ f3)).append_right gr
       simp only [ahv] at this
       exact this
     have sb : ((f1 ++ ((x :: p') ++ f3)) ++ (ft ++ gr)).Sublist ((f1 ++ ((x :: g) ++ f3)) ++ (ft ++ gr)) :=
       ah2 (ah2 (ah5 _) (ah2 (List.Sublist.cons₂ x h2) (ah5 _))) (ah5 _)
     exact S.CD rfl k (by simp) e2 (q2.mono (.refl _) fun c hc => aj Q.n) (hp.nodup_iff.mpr (nd.sublist sb)) fun c hc => sb.subset (hp.mem_iff.mp hc)
variable {f : Str} {d : D} {fs : List (Str × D)}
theorem jq (hc : j5 X.K (CL c)) (n : aG X.K (CL c) f) (h : eF X CL b e δ (.ins c fs) δ1) (hl : fs.lookup f = some d) (hb : attributeBase e f X.env (eval e X.env) = eval e X.env := by rfl) :
   eF X CL b (.Attribute e f pos) δ d δ1 := fun H Z σ ts vs Q S k =>
 bZ (Gh c7 hb) (h H Z σ ts vs _ S fun v H' Z' z s S' r => by
   cases r with
   | @ins a dx _ gs _ ha rf =>
     obtain ⟨w, hw, Gk⟩ := rf.get hl
     exact ⟨a, CL c, dx, gs, w, rfl, ha, hc, n, hw, k w H' Z' z s S' Gk⟩)
theorem gK (hc : j5 X.K (CL c)) (n : aG X.K (CL c) f) (h : bS X CL b e δ (.sh (.ins c fs)) δ1) (hl : fs.lookup f = some d) (hb : attributeBase e f X.env (eval e X.env) = eval e X.env := by rfl) :
   bS X CL b (.Attribute e f pos) δ (.sh d) δ1 := fun H Z σ ts vs Q S k =>
 bZ (Gh c7 hb) (h H Z σ ts vs _ S fun v H' Z' z s S' => by
   obtain ⟨fp, gp, _, r, _, _⟩ := S'.rep
   cases r with
   | cons r _ =>
     cases r with
     | sh r =>
       cases r with
       | @ins a dx _ gs _ ha rf =>
         obtain ⟨w, hw, Gk⟩ := rf.get hl
         exact ⟨a, CL c, dx, gs, w, rfl, S'.zh _ _ ha, hc, n, hw, k w H' Z' z s (S'.pop.push Gk)⟩)
theorem nO {gs : List (Str × T)} (hc : j5 X.K (CL c)) (n : aG X.K (CL c) f) (nm : Vn X i x) (h : bS X CL b e δ t δ1) (h1 : δ1[i]? = some (some (.pin a (.ins c gs)))) (hl : gs.length < 1000)
   (k : cH X CL b dm (δ1.set i (some (.pin a (.ins c (iA f t gs))))) DD) (hs : swapsWith e (some (.Attribute (.Name x pa) f pb)) pc.line X.env = pure false := by rfl) :
   cH X CL b (.Assign [.Attribute (.Name x pa) f pb] e pc :: dm) δ DD := aY fun H Z σ ts vs E S M =>
 kL (MY (eB nm.hi nm.hv nm.hd nm.j3) c7 hs) (h H Z σ ts vs _ S fun v H' Z' z s S' => by
   obtain ⟨dx, ws, hv, hx, hlen, S2⟩ := S'.setField (f := f) h1
   exact ⟨.ref a, hv, a, CL c, dx, ws, rfl, hx, hc, n, by rw [hlen]; exact hl, M.nx _ σ _ Z' z S2 k⟩)
def Zu (K : Q.h) (CL : Q.e) {A : Type} (c : Str) (n : Nat) (arg : A -> List D) (Pre : A -> Prop) (res : A -> List (Str × T)) : Sp := fun vs H Q _ =>
 ∃ (W H0 : Hp) (a : A) (x dx : Addr) (us : List V), vs = .ref x :: us /\ H0 x = none /\ H0 dx = none /\ dx ≠ x /\ H = upd (upd H0 dx (.own x)) x (.ins (CL c) dx []) ∧
   aB W H0 /\ (∀ c o, H0 c = some o -> jU o = true -> W c = some o) /\ aI K CL W (arg a) us /\ (arg a).length + 1 = n /\ Pre a /\ mW CL W ∧
   ∀ H' W' fp, aB H0 H' -> aB W W' -> aB W' H' -> (∀ c o, W' c = some o -> W c = none -> H0 c = none) -> (∀ c o, H' c = some o -> jU o = true -> W' c = some o) →
     aU K CL H' W' (.ins c (res a)) (.ref x) fp -> fp.Nodup -> (∀ c ∈ fp, W' c = none /\ H0 c = none) -> Q .non H'
section
variable {o : Expr} {apos : Pos} {A : Type} {k : Nat} {f : Addr} {ps : List Str} {m : Str} {arg : A -> List D} {Pre : A -> Prop}
theorem Si {res : A -> List (Str × T)} (a : A) (M : Mk X.K (CL c) f) (F : cJ X.prog X.w X.K X.mg X.base lu k f fd ps (Zu X.K CL c n arg Pre res)) (hr : c6 (k + 1) X.A) (hm : X.mg x = some (.ref (CL c))) (hb : Binds X.K fd ps [])
   (h : Mu X CL b (e :: es) δ (arg a) δ1) (hn : (arg a).length + 1 = n) (hp : Pre a) (hc : T.jm (res a) = true) (hg : Gl X x)
   (qg : Q.m := by decide) (he : Q.r := by exact aV rfl) (hpl : Q.w := by rfl) :
   bS X CL b (.Call (.Name x pp) (e :: es) [] pos) δ (.ins c (res a)) δ1 := fun H Z σ ts vs Q S kk =>
 bZ (IE M F hr hg hm hb .nil qh Cp qg he hpl) (h H Z σ ts vs _ S fun us H1 Z1 z1 k1 S1 r x dx hx hdx ne => by
   rw [ahJ]
   refine ⟨H1, H1, a, x, dx, us, rfl, hx, hdx, ne, rfl, .refl _, fun _ _ q _ => q, r, hn, hp, S1.Kq, fun H' W' fp hh ww wh nw tp rt nd own => ⟨rfl, ?_⟩⟩
   obtain ⟨Z', z', S'⟩ := S1.back hh S1.zh ww wh nw tp rt nd own (.inr (by rw [T.clean]; exact hc))
   exact kk _ H' Z' (z1.trans z') (k1.trans hh) S')
theorem NT {res : A -> List (Str × T)} (a : A) (M : Mk X.K (CL c) f) (F : cJ X.prog X.w X.K X.mg X.base lu k f fd ps (Zu X.K CL c n arg Pre res)) (hr : c6 (k + 1) X.A) (hm : X.mg x = some (.ref (CL c))) (hb : Binds X.K fd ps [])
   (h : Ec X CL b (e :: es) δ ((arg a).map T.sh) δ1) (hn : (arg a).length + 1 = n) (hp : Pre a) (hg : Gl X x)
   (qg : Q.m := by decide) (he : Q.r := by exact aV rfl) (hpl : Q.w := by rfl) :
   bS X CL b (.Call (.Name x pp) (e :: es) [] pos) δ (.ins c (res a)) δ1 := fun H Z σ ts vs Q S kk =>
 bZ (IE M F hr hg hm hb .nil qh Cp qg he hpl) (h H Z σ ts vs _ S fun us H1 Z1 hl z1 k1 S1 x dx hx hdx ne => by
   rw [ahJ]
   have Zv : us.length = (arg a).length := by rw [hl, ahx]
   have S2 := S1.drops (by simp [Zv])
   refine ⟨Z1, H1, a, x, dx, us, rfl, hx, hdx, ne, rfl, S1.zh, S1.tp, S1.R4 Zv, hn, hp, S1.Gu, fun H' W' fp hh ww wh nw tp rt nd own => ⟨rfl, ?_⟩⟩
   obtain ⟨Z', z', S'⟩ := S2.back hh (.refl _) ww wh nw tp rt nd own (.inl rfl)
   exact kk _ H' Z' (z1.trans z') (k1.trans hh) S')
theorem Sj {res : A -> T} {fs : List (Str × D)} {ds : List D} {pl : Sem Bool} (a : A) (cc : j5 X.K (CL c)) (hm : Meth X.K (CL c) m f) (F : cJ X.prog X.w X.K X.mg X.base lu k f fd ps (AG X.K CL n arg Pre res)) (hr : c6 k X.A) (hb : Binds X.K fd ps [])
   (ho : eF X CL b o δ (.ins c fs) δ1) (hf : fs.lookup m = none) (h : Mu X CL b (e :: es) δ1 ds δ2) (Sl : arg a = .ins c fs :: ds) (hn : (arg a).length = n) (hp : Pre a) (hc : (res a).clean = true)
   (he : Q.r := by exact aV rfl) (hpl : Q.w := by rfl)
   (ht : eval (.Call (.Attribute o m apos) (e :: es) [] pos) X.env = (do
     let ov ← eval o X.env
     standAt apos.atName
     let (f, first) ← holding [ov] (getMethod ov m pl)
     callWith pos f first (backTo pos (starEach (e :: es) X.env)) Q.A) := by rfl) :
   bS X CL b (.Call (.Attribute o m apos) (e :: es) [] pos) δ (res a) δ2 := fun H Z σ ts vs Q S kk =>
 bZ (IC c7 cc hm F hr hb .nil qh Cp he hpl ht) (ho H Z σ ts vs _ S fun v H1 Z1 z1 k1 S1 r1 => by
   cases r1 with
   | @ins aa dx _ gs _ ha rf =>
     have Ed : gs.lookup m = none := by
       have : ∀ {fs : List (Str × D)} {gs : List (Str × V)}, gH X.K CL H1 fs gs -> fs.lookup m = none -> gs.lookup m = none := by
         intro fs gs r
         induction fs generalizing gs with
         | nil => intro _; cases r; rfl
         | cons p fs ih =>
           cases r with
           | cons q r =>
             intro h
             rw [ah1] at h ⊢
             split at h
             . cases h
             . rename_i hh; exact ih r h
       exact this rf hf
     refine ⟨aa, dx, gs, rfl, ha, Ed, h H1 Z1 σ ts vs _ S1 fun us H2 Z2 z2 k2 S2 r2 => ?_⟩
     rw [ahJ]
     refine ⟨H2, a, .refl _, fun _ _ q _ => q, by rw [Sl]; exact .cons (.ins (k2 _ _ ha) (rf.mono k2)) r2, hn, hp, S2.Kq, fun v H' W' fp hh ww wh nw tp rt nd own => ?_⟩
     obtain ⟨Z', z', S'⟩ := S2.back hh S2.zh ww wh nw tp rt nd own (.inr hc)
     exact kk v H' Z' (z1.trans (z2.trans z')) (k1.trans (k2.trans hh)) S')
theorem NV {res : A -> T} {fs : List (Str × D)} {pl : Sem Bool} (a : A) (cc : j5 X.K (CL c)) (hm : Meth X.K (CL c) m f) (F : cJ X.prog X.w X.K X.mg X.base lu k f fd ps (AG X.K CL n arg Pre res)) (hr : c6 k X.A) (hb : Binds X.K fd ps [])
   (ho : eF X CL b o δ (.ins c fs) δ1) (hf : ∀ {H : Hp} {gs : List (Str × V)}, gH X.K CL H fs gs -> gs.lookup m = none) (Sl : arg a = [.ins c fs]) (hn : (arg a).length = n) (hp : Pre a) (hc : (res a).clean = true)
   (ht : eval (.Call (.Attribute o m apos) [] [] pos) X.env = (do
     let ov ← eval o X.env
     standAt apos.atName
     let (f, first) ← holding [ov] (getMethod ov m pl)
     callWith pos f first (backTo pos (starEach [] X.env)) Q.A) := by rfl) :
   bS X CL b (.Call (.Attribute o m apos) [] [] pos) δ (res a) δ1 := fun H Z σ ts vs Q S kk =>
 bZ (Es c7 cc hm F hr hb .nil qh ht) (ho H Z σ ts vs _ S fun v H1 Z1 z1 k1 S1 r1 => by
   cases r1 with
   | @ins aa dx _ gs _ ha rf =>
     refine ⟨aa, dx, gs, rfl, ha, hf rf, ?_⟩
     refine ⟨H1, a, .refl _, fun _ _ q _ => q, by rw [Sl]; exact .cons (.ins ha rf) .nil, hn, hp, S1.Kq, fun v H' W' fp hh ww wh nw tp rt nd own => ?_⟩
     obtain ⟨Z', z', S'⟩ := S1.back hh S1.zh ww wh nw tp rt nd own (.inr hc)
     exact kk v H' Z' (z1.trans z') (k1.trans hh) S')
end
theorem Je {P : Program} {mg : Q.p} {base : Heap} {qual : Str} {f : Addr} {ps : List Str} {k : Nat} {A : Type} {arg : A -> List D} {Pre : A -> Prop} {res : A -> List (Str × T)} (F : nG K x qual st f fd) (S : aP N ps (ak st))
   (hb : ∀ (gn : Value) (Ar : Around) (outer : List Env) (s : Shared) (H : Hp) (E : XK) (b : Bx) (a : A) (y : Addr), c6 k (Ar.deeper (envOfC qual (ak st) s.heap.objs.size f gn)) -> Pre a →
     cH (ve lu P w K mg base N qual (ak st) f gn Ar outer s H E).Rw CL b (b9 st) (some (.pin y (.ins c [])) :: ((arg a).map (fun d => some (T.sh d)) ++ List.replicate (N.length - ((arg a).length + 1)) none))
       { nx := fun δ => δ[0]? = some (some (.pin y (.ins c (res a)))), rt := fun _ _ => False }) :
   cJ P w K mg base lu (k + 1) f fd ps (Zu K CL c ps.length arg Pre res) := by
 refine F.ok S (fun vs H Q E h => ?_) (fun gn Ar outer s H vs Q E hr h => ?_)
 . obtain ⟨W, H0, a, y, dx, us, rfl, _, _, _, _, _, _, r, hl, _⟩ := h
   rw [ahY, ← r.length]; exact hl
 . obtain ⟨W, H0, a, y, dx, us, rfl, hy, hdx, ne, rfl, wh, tp, r, hl, hp, tb, kk⟩ := h
   have old : ∀ {d : Addr} {o : HO}, H0 d = some o -> upd (upd H0 dx (.own y)) y (.ins (CL c) dx []) d = some o := fun {d o} q => by
     rw [aj (bC q hy), aj (bC q hdx)]; exact q
   refine ⟨_, IV, hb gn Ar outer s _ E ⟨H0, W⟩ a y hr hp _ W _ [] [] _ ⟨⟨[y] ++ [], [], ?_, .nil, by simp, fun d hd => ?_⟩, fun d o q => old q, .refl _, fun d o q => old (wh d o q), fun d o q z => ?_, fun d o q i => ?_, tb⟩ ⟨fun δ' σ' H' Z' s' S' e => ?_, fun t v H' Z' δ' σ' s' S' e => e.elim, fun _ _ _ _ _ _ e => e.elim, fun _ _ _ _ _ _ e => e.elim⟩⟩
   . unfold L2.start
     rw [ahO, ahY, ahT, ← r.length]
     exact .cons (.pin (.ins aC .nil)) (jn _ r)
   . have : d = y := by simpa using hd
     subst this
     exact ⟨Gv wh hy, hy⟩
   . have q' : W d = some o := q
     have z' : W d = none := z
     rw [q'] at z'; cases z'
   . by_cases h1 : d = y
     . subst h1; rw [aC] at q; cases q; cases i
     . rw [aj h1] at q
       by_cases h2 : d = dx
       . subst h2; rw [aC] at q; cases q; cases i
       . rw [aj h2] at q; exact tp d o q i
   . obtain ⟨fp, gp, eE, _, nd, own⟩ := S'.rep
     obtain ⟨v, f1, f2, f3, hv, kM, rt, _, _⟩ := eE.get e
     subst kM
     cases rt with
     | pin rt =>
       refine kk H' Z' f2 S'.bh S'.zz S'.zh S'.new S'.tp rt ?_ fun d hd => own d (by simp [hd])
       have h1 := (ah3.mp nd).1
       exact (ah3.mp (ah3.mp h1).2.1).1
variable {body : List Stmt} {ds VD : List D}
theorem Sn (g : Gx X) (P : Nat -> List (Option T) -> Prop) (m : Nat) (h0 : P m δ)
   (hs : ∀ m δ, P m δ -> ∃ p δ1, vg X CL b e δ p δ1 ∧
     (p = true -> cH X CL b body δ1 { nx := fun δ2 => ∃ m', m' < m /\ P m' δ2, rt := DD.rt, bk := fun δ2 => cH X CL b dm δ2 DD, ct := fun δ2 => ∃ m', m' < m /\ P m' δ2 }) /\ (p = false -> cH X CL b dm δ1 DD)) :
   cH X CL b (.While e body [] pos :: dm) δ DD := aY fun H Z σ ts vs E S M =>
 kL (MJ g.xe Vz IV) (by
   refine ⟨fun m σ H => ∃ Z2 δ2, aB Z Z2 /\ aL X.K CL b H Z2 δ2 σ ts vs /\ P m δ2, ⟨m, Z, δ, .refl _, S, h0⟩, ?_⟩
   rintro m σ H ⟨Z2, δ2, z2, S2, p2⟩
   obtain ⟨p, δ3, ht, h1, h2⟩ := hs m δ2 p2
   refine ht H Z2 σ ts vs _ S2 fun H3 Z3 z3 k3 S3 => ?_
   cases p with
   | true =>
     rw [ahN rfl]
     refine ⟨fun σ' H' => ∃ m', m' < m /\ ∃ Z2 δ2, aB Z Z2 /\ aL X.K CL b H' Z2 δ2 σ' ts vs /\ P m' δ2, fun σ' H' q => q, ?_⟩
     refine h1 rfl H3 Z3 σ ts vs _ S3 ⟨fun δ' σ' H' Z' s' S' ⟨m', l, q⟩ => ⟨m', l, Z', δ', z2.trans (z3.trans s'), S', q⟩, fun t v H' Z' δ' σ' s' S' q => M.rt t v H' Z' δ' σ' (z2.trans (z3.trans s')) S' q,
       fun δ' σ' H' Z' s' S' q => M.nx δ' σ' H' Z' (z2.trans (z3.trans s')) S' q, fun δ' σ' H' Z' s' S' ⟨m', l, q⟩ => ⟨m', l, Z', δ', z2.trans (z3.trans s'), S', q⟩⟩
   | false =>
     rw [ahC Q.b]
     exact M.nx δ3 σ H3 Z3 (z2.trans z3) S3 (h2 rfl))
def aa0 (K : Q.h) : R2 := fun x y H Q => ∃ l b xs zs, x = .ref l /\ y = .ref b /\ oB K H l xs /\ oB K H b zs /\ xs.length + zs.length <= sizeLine /\ ∀ p, H p = none -> Q (.ref p) (upd H p (.lst (xs ++ zs)))
theorem Sq : u9 X (binaryOp .Add) (aa0 X.K) := by
 intro pins s σ H x y v u Q I rx ry h
 obtain ⟨l, b, xs, zs, rfl, rfl, hH, hB, hz, q⟩ := h
 cases rx
 cases ry
 obtain ⟨its, r, pl, _⟩ := I.list hH
 obtain ⟨vf, r2, pl2, _⟩ := I.list hB
 have e1 := r.length
 have e2 := r2.length
 obtain ⟨⟨c1, dd, da1, sl⟩, ho, hc, n, hd⟩ := pl.isList
 obtain ⟨⟨c2, dd2, da2, sl2⟩, ho2, hc2, n2, hd2⟩ := pl2.isList
 cases hc; cases hc2; cases hd; cases hd2
 refine concat_meets ⟨_, ho, rfl⟩ ⟨_, ho2, rfl⟩ noFill_list_add seq_list_add PySem.F.slot_list_add PySem.F.entry_list_add (PySem.F.args_list_add_2 (Value.ref l) (Value.ref b))
   (list_addW l b its.toArray vf.toArray n n2 dd dd2 sl sl2 (by rw [ahM, ahM]; omega)) ⟨ho, ho2, ?_⟩
 have ea : its.toArray ++ vf.toArray = (its ++ vf).toArray := by simp
 rw [ea]
 exact ⟨.ref _, _, I.adt (t' := s.toks) (r.append r2) (by rw [ahL]; omega), rfl, q _ I.fresh⟩
theorem aI.app {ds VD : List L3.D} {Zw : List V} (h : aI K CL Z ds vs) (r2 : aI K CL Z VD Zw) : aI K CL Z (ds ++ VD) (vs ++ Zw) :=
 aI.ind (P := fun ds vs => aI K CL Z (ds ++ VD) (vs ++ Zw)) r2 (fun r _ i => .cons r i) h
theorem boot_min : bootBuiltins "min" = some (.builtin "min") := Q.j
theorem boot_max : bootBuiltins "max" = some (.builtin "max") := Q.j
theorem boot_str : bootBuiltins "str" = some (.type "str") := Q.j
theorem Ss {i j : Int} (g : Gx X) (hm : X.mg "min" = none) (hg : Gl X "min") (h : Mu X CL b [e1, e2] δ [.int i, .int j] δ1) (hs : starEach [e1, e2] X.env = (false, eval e1 X.env) :: starEach [e2] X.env := by exact aV rfl) (hpl : (backTo pos (starEach [e2] X.env)).any (·.1) = false := by rfl) :
   bS X CL b (.Call (.Name "min" pp) [e1, e2] [] pos) δ (.sh (.int (if j < i then j else i))) δ1 := fun H Z σ ts vs Q S k =>
 bZ (tU (J6 g.calm) hg hm boot_min Cp (he := hs) (hpl := hpl)) (h H Z σ ts vs _ S fun us H1 Z1 z1 k1 S1 r => by
   cases r with
   | cons r1 r =>
     cases r with
     | cons r2 r =>
       cases r
       rw [r1.sc rfl, r2.sc rfl]
       exact ⟨i, j, rfl, k _ H1 Z1 z1 k1 (S1.push (.int _))⟩)
theorem Sv {i j : Int} (g : Gx X) (hm : X.mg "max" = none) (hg : Gl X "max") (h : Mu X CL b [e1, e2] δ [.int i, .int j] δ1) (hs : starEach [e1, e2] X.env = (false, eval e1 X.env) :: starEach [e2] X.env := by exact aV rfl) (hpl : (backTo pos (starEach [e2] X.env)).any (·.1) = false := by rfl) :
   bS X CL b (.Call (.Name "max" pp) [e1, e2] [] pos) δ (.sh (.int (if j > i then j else i))) δ1 := fun H Z σ ts vs Q S k =>
 bZ (tU (J5 g.calm) hg hm boot_max Cp (he := hs) (hpl := hpl)) (h H Z σ ts vs _ S fun us H1 Z1 z1 k1 S1 r => by
   cases r with
   | cons r1 r =>
     cases r with
     | cons r2 r =>
       cases r
       rw [r1.sc rfl, r2.sc rfl]
       exact ⟨i, j, rfl, k _ H1 Z1 z1 k1 (S1.push (.int _))⟩)
theorem Sw {i : Int} (hm : X.mg "str" = none) (hg : Gl X "str") (h : eF X CL b e δ (.int i) δ1) (hi : i.natAbs.log2 < 1920) (hs : Q.y := by exact aV rfl) :
   bS X CL b (.Call (.Name "str" pp) [e] [] pos) δ (.sh (.str (toString i))) δ1 := fun H Z σ ts vs Q S k =>
 bZ (ic tT hg hm boot_str (bI c7 dF hs) (he := hs)) (h H Z σ ts vs _ S fun v H1 Z1 z1 k1 S1 r => by
   rw [r.sc rfl]
   exact ⟨i, rfl, hi, k _ H1 Z1 z1 k1 (S1.push (.str _))⟩)
structure Fm (X : Cx) (CL : Q.e) (x : Str) (k n : Nat) {A : Type} (arg : A -> List D) (Pre : A -> Prop) (res : A -> List (Str × T)) : Prop where
 ex : ∃ f fd ps, Mk X.K (CL x) f /\ cJ X.prog X.w X.K X.mg X.base lu k f fd ps (Zu X.K CL x n arg Pre res) /\ X.mg x = some (.ref (CL x)) /\ Binds X.K fd ps []
 room : c6 (k + 1) X.A
structure Fq (X : Cx) (CL : Q.e) (c m : Str) (k n : Nat) {A : Type} (arg : A -> List D) (Pre : A -> Prop) (res : A -> T) : Prop where
 ex : ∃ f fd ps, Meth X.K (CL c) m f /\ cJ X.prog X.w X.K X.mg X.base lu k f fd ps (AG X.K CL n arg Pre res) /\ Binds X.K fd ps []
 room : c6 k X.A
 cls : j5 X.K (CL c)
def NW (N : List Str) (y : Addr) (c : Str) (ds : List D) : List (Option T) := some (.pin y (.ins c [])) :: (ds.map (fun d => some (T.sh d)) ++ List.replicate (N.length - (ds.length + 1)) none)
theorem Xx {CL' : Q.e} {arg : List Int -> List D} {pre : List Int -> Prop} {res : List Int -> T} (ha : ∀ a, arg a = [.lst (a.map .int)]) (hr : ∀ a, res a = .sh (.bl true)) (h0 : ∀ x, IW x = true -> CL x = 0) :
   ∀ (vs : List V) (H : Hp) (Q : VK) (E : XK), AG K CL' 1 arg pre res vs H Q E -> AG K CL 1 arg pre res vs H Q E := by
 rintro vs H Q E ⟨W, a, h1, h2, h3, h4, h5, _, k⟩
 have Xy : ∀ {l : List Int} {us : List V}, aI K CL' W (l.map .int) us -> aI K CL W (l.map .int) us := by
   intro l
   induction l with
   | nil => intro us r; cases r; exact .nil
   | cons i l ih =>
     intro us r
     cases r with
     | cons r t => cases r; exact .cons (.int i) (ih t)
 refine ⟨W, a, h1, h2, ?_, h4, h5, fun x hx e => absurd (h0 x hx) e, fun v H' W' fp a1 a2 a3 a4 a5 r nd own => k v H' W' fp a1 a2 a3 a4 a5 ?_ nd own⟩
 . rw [ha] at h3 ⊢
   cases h3 with
   | cons r t =>
     cases t
     cases r with
     | lst q rr => exact .cons (.lst q (Xy rr)) .nil
 . rw [hr] at r ⊢
   cases r with
   | sh r => cases r; exact .sh (.bl _)
section
variable {m : Str} {D : c9}
theorem mk_ {k : Nat} {A : Type} {arg : A -> List L3.D} {Pre : A -> Prop} {res : A -> List (Str × T)} (a : A) (F : Fm X CL x k n arg Pre res) (hg : Gl X x) (h : Mu X CL b (e :: es) δ (arg a) δ1) (hp : Pre a) (hc : T.jm (res a) = true) (hn : (arg a).length + 1 = n := by rfl)
   (qg : Q.m := by decide) (he : Q.r := by exact aV rfl) (hpl : Q.w := by rfl) :
   bS X CL b (.Call (.Name x pp) (e :: es) [] pos) δ (.ins x (res a)) δ1 := by
 obtain ⟨f, fd, ps, M, F1, m, b⟩ := F.ex
 exact Si a M F1 F.room m b h hn hp hc hg qg he hpl
theorem mkF {k : Nat} {A : Type} {arg : A -> List L3.D} {Pre : A -> Prop} {res : A -> List (Str × T)} (a : A) (F : Fm X CL x k n arg Pre res) (hg : Gl X x) (h : Ec X CL b (e :: es) δ ((arg a).map T.sh) δ1) (hp : Pre a) (hn : (arg a).length + 1 = n := by rfl)
   (qg : Q.m := by decide) (he : Q.r := by exact aV rfl) (hpl : Q.w := by rfl) :
   bS X CL b (.Call (.Name x pp) (e :: es) [] pos) δ (.ins x (res a)) δ1 := by
 obtain ⟨f, fd, ps, M, F1, m, b⟩ := F.ex
 exact NT a M F1 F.room m b h hn hp hg qg he hpl
end
theorem fU {d : α} {fs : List (Str × α)} : ((f, d) :: fs).lookup f = some d := by
 rw [ah1, ajq]
theorem aM {g : Str} {d : α} {fs : List (Str × α)} (h : (f == g) = false) : ((g, d) :: fs).lookup f = fs.lookup f := by
 rw [ah1, h]
theorem qu : iA f t [] = [(f, t)] := rfl
theorem aO {g : Str} {u : T} {fs : List (Str × T)} (h : ¬ g = f) : iA f t ((g, u) :: fs) = (g, u) :: iA f t fs := by
 rw [iA, ahC h]
theorem rg {u : T} {fs : List (Str × T)} : iA f t ((f, u) :: fs) = (f, t) :: fs := by
 rw [iA, ahN rfl]
variable {d : L3.D}
def NX (d : L3.D) : Option (List L3.D) := match d with
 | .lst ds => some ds
 | .tup ds => some ds
 | _ => none
theorem bf.NX {ds : List L3.D} (r : bf K CL Z d v) (h : L3.NX d = some ds) : ∃ p us, v = .ref p /\ (oB K Z p us \/ sO K Z p us) /\ aI K CL Z ds us := by
 cases r with
 | tup hq rr => cases h; exact ⟨_, _, rfl, .inr hq, rr⟩
 | lst hq rr => cases h; exact ⟨_, _, rfl, .inl hq, rr⟩
 | non => cases h
 | bl => cases h
 | int => cases h
 | str => cases h
 | any => cases h
 | val => cases h
 | q8 => cases h
 | dct => cases h
 | ins => cases h
theorem CF {l : List Str} (h1 : eF X CL b e1 δ (.str x) δ1) (h2 : eF X CL b e2 δ1 d δ2) (hd : L3.NX d = some (l.map .str)) (hm : behindInMarks .In e2 = false) :
   vg X CL b (.Compare e1 [.In] [e2] pos) δ (decide (x ∈ l)) δ2 /\ bS X CL b (.Compare e1 [.In] [e2] pos) δ (.sh (.bl (decide (x ∈ l)))) δ2 := by
 constructor
 . intro H Z σ ts vs Q S k
   refine EA (tS Bu c7 c7 hm) (h1 H Z σ ts vs _ S fun v1 H1 Z1 z1 k1 S1 r1 => h2 H1 Z1 σ ts vs _ S1 fun v2 H2 Z2 z2 k2 S2 r2 => ?_)
   obtain ⟨p, us, rfl, hq, rr⟩ := bf.NX r2 hd
   have e := rr.strs
   subst e
   refine ⟨_, _, rfl, hq, by rw [r1.sc rfl]; rfl, oO l, _, rfl, ?_⟩
   rw [ahC ahI, r1.sc rfl, CB]
   exact k H2 Z2 (z1.trans z2) (k1.trans k2) S2
 . intro H Z σ ts vs Q S k
   refine bZ (Cb Bu c7 c7 hm) (h1 H Z σ ts vs _ S fun v1 H1 Z1 z1 k1 S1 r1 => h2 H1 Z1 σ ts vs _ S1 fun v2 H2 Z2 z2 k2 S2 r2 => ?_)
   obtain ⟨p, us, rfl, hq, rr⟩ := bf.NX r2 hd
   have e := rr.strs
   subst e
   refine ⟨_, _, rfl, hq, by rw [r1.sc rfl]; rfl, oO l, ?_⟩
   rw [ahC ahI, r1.sc rfl, CB]
   exact k _ H2 Z2 (z1.trans z2) (k1.trans k2) (S2.push (.bl _))
variable {ds : List L3.D}
theorem e7 : Ec X CL b [] δ (([] : List L3.D).map T.sh) δ := bA
theorem aW (h1 : bS X CL b e δ (.sh d) δ1) (h2 : Ec X CL b es δ1 (ds.map T.sh) δ2) (hs : Q.r := by exact aV rfl) : Ec X CL b (e :: es) δ ((d :: ds).map T.sh) δ2 := aE h1 h2 hs
theorem CG (h : Ec X CL b es δ (ds.map T.sh) δ1) (hl : ds.length <= sizeLine) : bS X CL b (.List es pos) δ (.lst (ds.map T.sh)) δ1 := dG h (by simpa using hl)
theorem nP (l : List Str) : D.bJ (l.map L3.D.str) = true := bF (fun _ => rfl) _
theorem kN (h : bS X CL b e δ (.lst (ds.map T.sh)) δ1) : bS X CL b e δ (.sh (.lst ds)) δ1 := by
 have := Ct h
 rwa [T.aZ, iz] at this
theorem CH (h : bS X CL b e δ t δ1) (q : t.aZ = d) : bS X CL b e δ (.sh d) δ1 := q ▸ Ct h
theorem cP {t2 : T} (h : bS X CL b e δ t δ1) (q : t = t2) : bS X CL b e δ t2 δ1 := q ▸ h
structure EK (Z H Z' H' : Hp) : Prop where
 z : aB Z Z'
 h : aB H H'
 zh : aB Z' H'
 new : ∀ a o, Z' a = some o -> Z a = none -> H a = none
 tp : ∀ a o, H' a = some o -> jU o = true -> Z' a = some o
theorem EK.refl (zh : aB Z H) (tp : ∀ a o, H a = some o -> jU o = true -> Z a = some o) : EK Z H Z H := ⟨.refl _, .refl _, zh, fun a o q z => (by rw [q] at z; cases z), tp⟩
theorem EK.tup {p : Addr} (zh : aB Z H) (tp : ∀ a o, H a = some o -> jU o = true -> Z a = some o) (hp : H p = none) : EK Z H (upd Z p (.tup xs)) (upd H p (.tup xs)) := by
 have zp : Z p = none := zh.free hp
 refine ⟨aB.upd zp, aB.upd hp, fun a o q => ?_, fun a o q z => ?_, fun a o q i => ?_⟩
 . by_cases e : a = p
   . subst e; rw [aC] at q ⊢; exact q
   . rw [aj e] at q ⊢; exact zh a o q
 . by_cases e : a = p
   . subst e; exact hp
   . rw [aj e, z] at q; cases q
 . by_cases e : a = p
   . subst e; rw [aC] at q ⊢; exact q
   . rw [aj e] at q ⊢; exact tp a o q i
def aa2 (δ : Q.f) : List Nat -> List D -> List (Option T)
 | i :: is, d :: ds => aa2 (δ.set i (some (.sh d))) is ds
 | _, _ => δ
def BI (σ : L2.St) : List Nat -> List V -> L2.St
 | i :: is, v :: vs => BI (σ.set i (some v)) is vs
 | _, _ => σ
section
variable {tg : Expr} {ds : List D}
structure sS (X : Cx) (CL : Q.e) (b : Bx) (δ1 : Q.f) (σ : L2.St) (ts : List T) (vs : List V) (Z H : Hp) (ds : List D) (J : It) (H1 : Hp) : Prop where
 ex : ∃ Z1, aB Z Z1 /\ aB H H1 /\ aL X.K CL b H1 Z1 δ1 σ ts vs /\ (∀ i H2, aB Z1 H2 -> i < ds.length -> J.go i H2) ∧
   (∀ i Z2 H2 x H', aB Z1 Z2 -> aB Z2 H2 -> (∀ a o, H2 a = some o -> jU o = true -> Z2 a = some o) -> i < ds.length -> J.Rc i H2 x H' -> ∃ Z3 d, ds[i]? = some d /\ EK Z2 H2 Z3 H' /\ bf X.K CL Z3 d x) /\ (∀ H2, aB Z1 H2 -> J.stop ds.length H2)
def GIt (X : Cx) (CL : Q.e) (b : Bx) (tg e : Expr) (δ : Q.f) (ds : List D) (δ1 : Q.f) : Prop :=
 ∃ wi, PI X tg e wi /\ ∀ (H Z : Hp) (σ : L2.St) (ts : List T) (vs : List V) (R : It -> Hp -> Prop), aL X.K CL b H Z δ σ ts vs -> (∀ J H1, sS X CL b δ1 σ ts vs Z H ds J H1 -> R J H1) -> wi σ H R
theorem VF (h : NC X CL b tg iter δ ds δ1) : GIt X CL b tg iter δ ds δ1 := by
 obtain ⟨wi, pi, hw⟩ := h
 refine ⟨wi, pi, fun H Z σ ts vs R S k => hw H Z σ ts vs R S fun J H1 zz => ?_⟩
 obtain ⟨Z1, us, z1, k1, S1, rr, go, yl, st⟩ := zz
 refine k J H1 ⟨Z1, z1, k1, S1, go, fun i Z2 H2 x H' s1 s2 tp hi hy => ?_, st⟩
 obtain ⟨e, hu⟩ := yl i H2 x H' (s1.trans s2) hi hy
 subst e
 obtain ⟨d, hd, rd⟩ := rr.W8 hu
 exact ⟨Z2, d, hd, .refl s2 tp, rd.mono s1⟩
def Tgt (X : Cx) (CL : Q.e) (tg : Expr) (is : List Nat) (parts : D -> Option (List D)) : Prop :=
 ∃ t : TG, PG X tg t /\ ∀ (Z H : Hp) (d : D) (ps : List D) (x : V) (σ : L2.St) (Q : L2.St -> Hp -> Prop), aB Z H -> bf X.K CL Z d x -> parts d = some ps -> (∀ ys, aI X.K CL Z ps ys -> Q (BI σ is ys) H) -> t x σ H Q
def part1 (d : D) : Option (List D) := some [d]
def part2 : D -> Option (List D)
 | .tup [a, c] => some [a, c]
 | _ => none
theorem Kx {d : D} {ps : List D} (h : part2 d = some ps) : ∃ d1 d2, d = .tup [d1, d2] /\ ps = [d1, d2] := by
 unfold part2 at h
 split at h
 . cases h; exact ⟨_, _, rfl, rfl⟩
 . cases h
theorem GK {d : D} {ps : List D} {x : V} {Q : L2.St -> Hp -> Prop} (zh : aB Z H) (r : bf K CL Z d x) (e : part2 d = some ps) (k : ∀ ys, aI K CL Z ps ys -> Q (BI σ [i, j] ys) H) : Wu K 2 (Eo (sd i) (Eo (sd j) Wt)) x σ H Q := by
 obtain ⟨d1, d2, rfl, rfl⟩ := Kx e
 cases r with
 | tup hq rr =>
   cases rr with
   | cons r1 rr =>
     cases rr with
     | cons r2 rr =>
       cases rr
       exact ⟨_, _, rfl, aB.Gs zh hq, rfl, _, _, rfl, _, _, rfl, rfl, k _ (.cons r1 (.cons r2 .nil))⟩
theorem NZ (hN : X.N.Nodup) (n : Ln X i x) : Tgt X CL (.Name x px) [i] part1 :=
 ⟨sd i, kK hN n.hi n.loc n.hf, fun Z H d ps x σ Q zh r e k => by
   cases e
   exact k [x] (.cons r .nil)⟩
theorem Jf {k : Nat} {y : Str} {py pt : Pos} (hN : X.N.Nodup) (hc : X.calm = true) (n : Ln X i x) (m : Ln X j y) (hs : (assignEach [.Name x px, .Name y py] X.env).map (·.2) = assign (.Name x px) X.env :: (assignEach [.Name y py] X.env).map (·.2) := by rfl) (RH : (assignEach [.Name y py] X.env).map (·.2) = assign (.Name y py) X.env :: (assignEach [] X.env).map (·.2) := by rfl)
   (hn : (assignEach [.Name x px, .Name y py] X.env).length = 2 := by rfl) (kG : (assignEach [.Name x px, .Name y py] X.env).findIdx? (·.1) = none := by rfl) : Tgt X CL (.Tuple [.Name x px, .Name y py] k pt) [i, j] part2 :=
 ⟨Wu X.K 2 (Eo (sd i) (Eo (sd j) Wt)), Wv hc (Ep (kK hN n.hi n.loc n.hf) (Ep (kK hN m.hi m.loc m.hf) Ry RH) hs) hn kG, fun Z H d ps x σ Q zh r e k => GK zh r e k⟩
end
structure j8 (X : Cx) (scope : Scope) (xs : List Str) (Nc : List Str) (ix : List Nat) : Prop where
 kind : scope.kind = .function
 vm : ∀ y ∈ scope.names, y.2 ≠ .cell
 nd : Nc.Nodup
 names : ∀ y ∈ scope.names, y.2 = .local -> scope.names.lookup y.1 = some .local
 own : ∀ x ∈ xs, scope.names.lookup x = some .local
 frees : ∀ y ∈ scope.names, y.2 = .free -> scope.names.lookup y.1 = some .free /\ (X.env.kindOf y.1 = some .cell \/ X.env.kindOf y.1 = some .free)
 hd : Nc = xs ++ ix.filterMap (X.N[·]?)
 VC : ∀ i ∈ ix, ∃ y, X.N[i]? = some y /\ scope.names.lookup y = some .free
def Ky (σ : L2.St) (ix : List Nat) (os : List (Option V)) : L2.St := os ++ ix.map fun i => (σ[i]?).getD none
variable {xs : List Str}
theorem EL (sc : j8 X scope xs Nc ix) (I : Q.g) (kM : ∀ b ∈ fp, rW X pins H b /\ b < s.heap.objs.size) {h' : Heap} {m : Q.p} {tk : Nat}
   (hn : h'.Ns s.heap.objs.size m) (hk : ∀ b o, s.heap.get? b = some o -> h'.get? b = some o) :
   Inv (bH X scope Nc s.heap.objs.size s H fp) [] (Ky σ ix (List.replicate xs.length none)) H { s with heap := h', toks := tk } := by
 have frees : ∀ y ∈ scope.names, y.2 = .free -> ∃ c, X.env.cells.lookup y.1 = some c := fun y hy e => I.ok.has y.1 (sc.frees y hy e).2
 have sub : ∀ {y : Str} {c : Addr}, (fO X.env scope.names []).lookup y = some c -> X.env.cells.lookup y = some c := fun {y c} e => lz frees (fun _ _ z => by cases z) e
 have hlen : (Ky σ ix (List.replicate xs.length none)).length = Nc.length := by
   have all : ∀ l : List Nat, (∀ i ∈ l, ∃ y, X.N[i]? = some y /\ scope.names.lookup y = some .free) -> (l.filterMap (X.N[·]?)).length = l.length := by
     intro l
     induction l with
     | nil => intro _; rfl
     | cons i r ih =>
       intro h
       obtain ⟨y, e, _⟩ := h i ahw
       rw [ah9, e]
       show _ + 1 = _ + 1
       rw [ih fun j hj => h j (ahz _ hj)]
   unfold Ky
   rw [sc.hd, ahL, ahL, ahx, aiQ, all ix sc.VC]
 have C0 : s.heap.get? s.heap.objs.size = none := Heap.get?_none_of_le (ahG _)
 refine ⟨⟨I.ok.mod, sc.kind, I.ok.glob, I.ok.blt, ahG _, fun y z c h1 h2 => I.ok.inj y z c (sub h1) (sub h2), fun y hy => ?_, fun y c hf _ => (by cases (show false = true from hf)), I.ok.hd, I.ok.frames, .inl rfl, fun b hb => ⟨aid (kM b hb).2, fun y c e => (kM b hb).1.2.2.2.2.1 y c (sub e)⟩, I.bs, ain I.ok.Iu I.sz, fun b o e hb => ?_, fun b hb hf => ?_, I.stack, I.xA⟩,
   rfl, I.bare, Un.kept hk, ⟨m, hn, fun i y v h1 h2 h3 => ?_⟩, fun y c e => ?_, I.bY.fresh (ahG _), fun y c e => I.jT y c (sub e), fun p hp => absurd (show p ∈ ([] : List (Addr × Obj)) from hp) (by simp), I.bY.kept hk, hlen⟩
 . 
   have W2 : (relabel scope X.env).names.lookup y = some .cell \/ (relabel scope X.env).names.lookup y = some .free := hy
   cases e : scope.names.lookup y with
   | none => 
     have := gJ (env := X.env) e
     rcases W2 with q | q <;> (rw [show (relabel scope X.env).names.lookup y = none from this] at q; cases q)
   | some k =>
     have q := dH (env := X.env) e
     have hk : k = .free := by
       by_cases hk : k = .free
       . exact hk
       . have hb : (k == NameKind.free) = false := by simpa using hk
         rw [ahC (by rw [hb]; simp)] at q
         have nc : k ≠ .cell := fun z => by
           subst z
           exact sc.vm _ (aiq e) rfl
         rcases W2 with z | z
         . rw [show (relabel scope X.env).names.lookup y = some k from q] at z
           exact absurd (ahP z) nc
         . rw [show (relabel scope X.env).names.lookup y = some k from q] at z
           exact absurd (ahP z) hk
     subst hk
     exact lA e
 . 
   rcases (kM b hb).1.2.2.2.1 with z | z
   . exact I.ok.Ek b o e z
   . exact absurd (ah4 (ahR e) (ain I.ok.Iu z)) (ajb _)
 . rcases ahH.mp (I.uX b hf) with z | z
   . exact (kM b hb).1.2.1 z
   . exact (kM b hb).1.2.2.1 z
 . 
   unfold Ky at h2
   by_cases hi : i < xs.length
   . rw [List.getElem?_append_left (by rw [aiQ]; exact hi), List.getElem?_replicate, ahN hi] at h2
     cases h2
   . obtain ⟨n, rfl⟩ : ∃ n, i = xs.length + n := ⟨i - xs.length, by omega⟩
     rw [aiO (by rw [aiQ]; omega), aiQ, Nat.add_sub_cancel_left, ahW] at h2
     cases ei : ix[n]? with
     | none => rw [ei] at h2; cases h2
     | some j =>
       rw [ei] at h2
       have R6 : (σ[j]?).getD none = some v := ahP h2
       have hj : σ[j]? = some (some v) := by
         cases q : σ[j]? with
         | none => rw [q] at R6; cases R6
         | some o => rw [q] at R6; exact congrArg some R6
       obtain ⟨y', hy1, Xj⟩ := sc.VC j (aih ei)
       have hNc : Nc[xs.length + n]? = some y' := by
         have all : ∀ (l : List Nat) (i : Nat), (∀ j ∈ l, ∃ y, X.N[j]? = some y /\ scope.names.lookup y = some .free) -> l[i]? = some j -> (l.filterMap (X.N[·]?))[i]? = some y' := by
           intro l
           induction l with
           | nil => intro i _ h; simp at h
           | cons a r ih =>
             intro i h hi
             obtain ⟨ya, ea, _⟩ := h a ahw
             rw [ah9, ea]
             cases i with
             | zero =>
               simp at hi
               subst hi
               rw [hy1] at ea
               cases ea
               rfl
             | succ i => exact ih i (fun j hj => h j (List.mem_cons_of_mem _ hj)) (by simpa using hi)
         rw [sc.hd, aiO Q.c, Nat.add_sub_cancel_left]
         exact all ix n sc.VC ei
       have ey : y' = y := by
         have h1' : Nc[xs.length + n]? = some y := h1
         rw [hNc] at h1'
         exact ahP h1'
       subst ey
       have yi := (sc.frees (y', .free) (aiq Xj) rfl).2
       have Xk : Vm X.env.scope y' := yi.elim (fun z => .inr (.inl z)) (fun z => .inr (.inr z))
       obtain ⟨m0, hn0, Xl⟩ := I.loc
       obtain ⟨u, ru, lk⟩ := Xl j y' v hy1 hj Xk
       refine ⟨u, ru, ?_⟩
       rcases lk with ⟨kk, _⟩ | ⟨_, c, hc, pR⟩
       . rcases yi with z | z
         . rw [kk] at z; cases z
         . rw [kk] at z; cases z
       . obtain ⟨c', Vq⟩ := lA (env := X.env) (cs := []) Xj
         have : c' = c := by
           have := sub Vq
           rw [hc] at this
           exact (ahP this).symm
         subst this
         obtain ⟨o, ho, hd⟩ := pR
         refine .inr ⟨?_, c', Vq, o, hk _ _ ho, hd⟩
         have q := dH (env := X.env) Xj
         show (relabel scope X.env).names.lookup y' = some .cell \/ (relabel scope X.env).names.lookup y' = some .free
         rw [show (relabel scope X.env).names.lookup y' = _ from q]
         split
         . exact .inl rfl
         . exact .inr rfl
 . obtain ⟨v, o, ho, hd⟩ := I.cell y c (sub e)
   exact ⟨v, o, hk _ _ ho, hd⟩
def N1 (X : Cx) (tg elt : Expr) (ifs : List Expr) (n : Nat) (σ : L2.St) (ix : List Nat) (D : Addr) (N : Hp -> Prop) (xv : V) (os : List (Option V)) (H3 : Hp) : Prop :=
 ∃ t : TG, PG X tg t /\ t xv (Ky σ ix os) H3 fun σ8 H4 => ∃ Zn, Zn.length = n /\ σ8 = Ky σ ix Zn /\ NB X ifs σ8 H4 fun ok H5 =>
   if ok = true then pZ X elt σ8 H5 fun y H6 => ∃ acc, H6 D = some (.lst acc) /\ acc.length < sizeLine /\ N (upd H6 D (.lst (acc ++ [y]))) else N H5
variable {tg : Expr}
theorem GL {J : It} {tn : Nat -> Heap -> Prop} {G : Addr -> Hp -> Prop} {RR : Value -> Addr -> Result -> Shared -> Prop}
   (sc : j8 X scope xs Nc ix) (hc : X.calm = true) (I : Q.g) (Tn : Turn X.prog X.w X.K tg J fp it tn) (st : tn 0 s.heap) (hf : ∀ b ∈ fp, rW X pins H b)
   (loop : ∀ D, H D = none -> ∃ W : Nat -> Nat -> Hp -> Prop, (∃ m, W 0 m (upd H D (.lst []))) /\ ∀ i m H2, W i m H2 -> (J.stop i H2 /\ G D H2) ∨
     (J.go i H2 /\ ∃ N : Hp -> Prop, (∀ H', N H' -> ∃ m', m' < m /\ W (i + 1) m' H') /\ ∀ xv H3, J.Rc i H2 xv H3 -> ∀ C s0 H0 f0 os, os.length = xs.length -> N1 (bH X scope Nc C s0 H0 f0) tg elt ifs xs.length σ ix D N xv os H3))
   (hRR : ∀ D C s' H', (∃ m, s'.heap.Ns C m) -> (∃ o, s'.heap.get? C = some o /\ ∀ v, o.data ≠ .cell v) -> H' C = none -> (C ≠ X.env.locals /\ C ∉ X.fs /\ X.s₀.heap.objs.size <= C /\ (∀ y c, X.env.cells.lookup y = some c -> c ≠ C) /\ ∀ q ∈ X.pn ++ pins, q.1 ≠ C) -> (∀ h', Heap.SameBut C s'.heap h' -> Inv X pins σ H' { s' with heap := h' }) -> G D H' -> RR (.ref D) C (.ok .next) s') :
   wpAny Q.d X.A (newList []) (fun acc s₃ => wpAny Q.d X.A (newFunctionEnv scope X.env.globals (fO X.env scope.names []) [] X.env.qual none .none (some X.env)) (fun ED s₄ =>
     codeAny Q.d X.A (.compStart (.ListComp elt [⟨tg, iter, ifs, 0⟩] scope pos) 0 (.ref it) acc { ED with scope := relabel scope X.env }) (RR acc ED.locals) s₄) E s₃) E s := by
 refine aiy ?_
 have I3 : Inv X pins σ (upd H s.heap.objs.size (.lst [])) { s with heap := s.heap.push { cls := .type "list", dict := none, data := .seq ([] : List Value).toArray } } :=
   I.laid (t' := s.toks) (fun b u e => ahE _ e) (ahG _) ⟨by show 0 <= sizeLine; exact ah8 _, [], 0, .nil, ahU _ rfl⟩
 have hD : H s.heap.objs.size = none := I.bY.fresh (ahG _)
 obtain ⟨W, ⟨m0, w0⟩, turn⟩ := loop _ hD
 have yp : ∀ b ∈ fp, rW X pins (upd H s.heap.objs.size (.lst [])) b /\ b < (s.heap.push { cls := .type "list", dict := none, data := .seq ([] : List Value).toArray }).objs.size := fun b hb => by
   obtain ⟨f0, f1⟩ := hf b hb
   obtain ⟨o, ho, _⟩ := Tn.obj 0 _ st b hb
   have nJ := ahR ho
   refine ⟨⟨by rw [aj (aid nJ)]; exact f0, f1⟩, ?_⟩
   rw [ajI]; exact Nat.lt_succ_of_lt nJ
 have Vt : tn 0 (s.heap.push { cls := .type "list", dict := none, data := .seq ([] : List Value).toArray }) := Tn.keep 0 _ _ st fun b _ o e => ahE _ e
 generalize hs3 : ({ s with heap := s.heap.push { cls := .type "list", dict := none, data := .seq ([] : List Value).toArray } } : Shared) = s3 at I3 ⊢
 have R7 : s3.heap = s.heap.push { cls := .type "list", dict := none, data := .seq ([] : List Value).toArray } := by rw [← hs3]
 rw [← R7] at yp Vt
 refine wpAny_newFunctionEnv sc.vm (by intro y hy; simp at hy) (fun h₁ GA GB => ?_) sc.kind
 have old : ∀ b o, s3.heap.get? b = some o -> h₁.get? b = some o := fun b o e => (GB.2 b (aid (ahR e))).trans (ahE _ e)
 have J0 := EL (tk := s3.toks + ([] : List (Str × Value)).length) sc I3 yp GA old
 have st4 : tn 0 h₁ := Tn.keep 0 _ _ Vt fun b _ o e => old b o e
 have EE : ∀ s4 : Shared, s4 = { s3 with heap := h₁, toks := s3.toks + ([] : List (Str × Value)).length } -> codeAny Q.d X.A (.compLoop (.ListComp elt [⟨tg, iter, ifs, 0⟩] scope pos) 0 (.ref it) (.ref s.heap.objs.size) (compEnvC scope (fO X.env scope.names []) s3.heap.objs.size X.env)) (RR (.ref s.heap.objs.size) s3.heap.objs.size) s4 := by
   rintro s4 rfl
   have stat : ∀ {H' : Hp}, (∀ b ∈ fp, H' b = none) -> ∀ b ∈ fp, rW Q.B [] H' b := fun {H'} hn b hb => by
     obtain ⟨⟨f0, f1, f2, f3, f4, f5⟩, nJ⟩ := yp b hb
     refine ⟨hn b hb, aid nJ, fun z => ?_, .inl hb, fun y c e => f4 y c (lz (fun y hy e => I.ok.has y.1 (sc.frees y hy e).2) (fun _ _ z => by cases z) e), fun p hp => absurd (show p ∈ ([] : List (Addr × Obj)) from hp) (by simp)⟩
     rcases ahH.mp (I3.uX b z) with q | q
     . exact f1 q
     . exact f2 q
   refine t6 (fun n s' => ∃ i o H', o.length = xs.length /\ Inv Q.B [] (Ky σ ix o) H' s' /\ tn i s'.heap /\ (∀ b ∈ fp, H' b = none) /\ W i n H') ?_ m0 ⟨0, _, _, aiQ, J0, st4, fun b hb => (yp b hb).1.1, w0⟩
   rintro n s5 ⟨i, o5, H5, ol5, I5, RA, WG, w5⟩
   rcases turn i n H5 w5 with ⟨stop, g⟩ | ⟨go, N, hN, step⟩
   . refine di (Tn.done Q.B rfl rfl rfl hc i [] s5 _ H5 _ I5 (stat WG) RA stop) fun r s6 zz => ?_
     obtain ⟨hr, I6⟩ := zz
     subst hr
     obtain ⟨m6, hn6, _⟩ := I6.loc
     obtain ⟨oc, esc, epc, Vr, hdc, _⟩ := id hn6
     have R8 := I3.Er (ahG s3.heap.objs.size) (H' := fun _ => none) rfl
     refine hRR _ _ s6 H5 ⟨m6, hn6⟩ ⟨oc, Vr, fun v z => by rw [hdc] at z; cases z⟩ I6.free ⟨R8.2.1, R8.2.2.1, ?_, R8.2.2.2.2.1, R8.2.2.2.2.2⟩ (fun h' GC => BH I3 (fun b hb => (yp b hb).1) I6 GC) g
     exact I3.sz
   . refine di (Tn.item Q.B rfl rfl rfl hc i [] s5 _ H5 _ I5 (stat WG) RA go) fun r s6 zz => ?_
     obtain ⟨u, hr, h6⟩ := zz
     subst hr
     refine di h6 fun _ s7 zz => ?_
     obtain ⟨xv, H7, I7, r7, y7, Xm, fr7⟩ := zz
     have I7' := I7.pinned (stat fr7) (Tn.obj _ _ Xm)
     obtain ⟨t, hg, ht⟩ := step xv _ y7 s3.heap.objs.size s3 (upd H s.heap.objs.size (.lst [])) fp o5 ol5
     refine di (hg _ s7 _ H7 xv u _ I7' r7 ht) fun _ s8 zz => ?_
     obtain ⟨σ8, H8, I8, os8, ol8, e8, h8⟩ := zz
     subst e8
     refine di (EC I8 h8 rfl) fun ok s9 zz => ?_
     obtain ⟨H9, I9, q9⟩ := zz
     have again : ∀ {Ha : Hp} {sa : Shared}, Inv Q.B ([] ++ uZ fp s7.heap) (Ky σ ix os8) Ha sa -> N Ha -> ∃ m, m < n /\ ∃ i o H', o.length = xs.length /\ Inv Q.B [] (Ky σ ix o) H' sa /\ tn i sa.heap /\ (∀ b ∈ fp, H' b = none) /\ W i m H' := fun {Ha sa} Ia na => by
       obtain ⟨m', hm, wa⟩ := hN Ha na
       refine ⟨m', hm, i + 1, os8, Ha, ol8, Ia.qf, Tn.keep _ _ _ Xm fun b hb o e => (Ia.pin (b, o) (ahu _ (ahu _ (jk hb e)))).1, fun b hb => ?_, wa⟩
       obtain ⟨o, e, d⟩ := Tn.obj _ _ Xm b hb
       exact (Ia.pin (b, o) (ahu _ (ahu _ (jk hb e)))).2.1
     cases ok with
     | false =>
       rw [ahC ahI] at q9 ⊢
       exact again I9 q9
     | true =>
       rw [ahN rfl] at q9 ⊢
       refine di (q9 _ s9 I9) fun v sa zz => ?_
       obtain ⟨y, Ha, Ia, ra, acc, Xn, hlen, na⟩ := zz
       refine di (nK (X := bH X scope Nc s3.heap.objs.size s3 (upd H s.heap.objs.size (.lst [])) fp) _ sa _ Ha (.ref s.heap.objs.size) [y] (.ref s.heap.objs.size) [v] (fun _ Hb => Hb = upd Ha s.heap.objs.size (.lst (acc ++ [y]))) Ia rfl (.cons ra .nil) ⟨_, acc, y, rfl, rfl, Xn, hlen, rfl⟩) fun _ sb zz => ?_
       obtain ⟨_, Hb, Ib, _, eb⟩ := zz
       subst eb
       exact again Ib na
 exact codeAny_compStart_list (EE _ rfl) (Tn.self _ 0 _ _ _ st4 (EE _ rfl))
def Kz (ps : List D) : List (Option T) := ps.map fun p => some (.sh p)
theorem BJ : ∀ {ys : List V} {os : List (Option V)} {pre r : L2.St}, os.length = ys.length -> BI (pre ++ (os ++ r)) (List.range' pre.length ys.length) ys = pre ++ (ys.map some ++ r)
 | [], os, pre, r, h => by
   have : os = [] := ajL.mp h
   subst this
   rfl
 | y :: ys, os, pre, r, h => by
   match os, h with
   | o :: os, h =>
     show BI ((pre ++ (o :: (os ++ r))).set pre.length (some y)) (List.range' (pre.length + 1) ys.length) ys = _
     rw [List.set_append_right _ _ (ahG _), Nat.sub_self, List.set_cons_zero]
     have := BJ (ys := ys) (os := os) (pre := pre ++ [some y]) (r := r) (by simpa using h)
     simp only [ahL, ahY, List.length_nil, ahv, List.singleton_append] at this
     rw [this]
     simp
theorem Sx : ∀ {ps : List D} {ys : List V} {δc : Q.f} {σc : L2.St}, aI K CL Z ps ys -> cF K CL H Z δc σc [] -> cF K CL H Z (Kz ps ++ δc) (ys.map some ++ σc) [] := fun {ps ys δc σc} h e =>
 aI.ind (P := fun ps ys => cF K CL H Z (Kz ps ++ δc) (ys.map some ++ σc) []) e (fun r _ i => .cons (fp := []) (gp := []) (.sh r) i) h
section
variable {W1 : Hp} {δc : Q.f} {J : It} {ds : List D} {p : D -> Bool} {g : D -> T} {parts : D -> Option (List D)}
def oQ (X : Cx) (CL : Q.e) (scope : Scope) (Nc : List Str) (n : Nat) (tg : Expr) (parts : D -> Option (List D)) (ifs : List Expr) (elt : Expr) (δc : Q.f) (ds : List D) (p : D -> Bool) (g : D -> T) : Prop :=
 ∀ C s0 H0 f0 b', Tgt (bH X scope Nc C s0 H0 f0) CL tg (List.range' 0 n) parts /\ ∀ d, d ∈ ds -> ∃ ps, parts d = some ps /\ ps.length = n /\ TIv (bH X scope Nc C s0 H0 f0) CL b' ifs (Kz ps ++ δc) (p d) /\ (p d = true -> bS (bH X scope Nc C s0 H0 f0) CL b' elt (Kz ps ++ δc) (g d) (Kz ps ++ δc))
structure GW (K : Q.h) (CL : Q.e) (H W1 : Hp) (D : Addr) (l : List T) (k : Nat) (H2 Z2 : Hp) (FZ : List V) (fp : List Addr) : Prop where
 a1 : aB H H2
 a2 : aB W1 Z2
 a3 : aB Z2 H2
 a4 : Z2 D = none
 a5 : ∀ a o, Z2 a = some o -> W1 a = none -> H a = none
 a6 : ∀ a o, H2 a = some o -> jU o = true -> Z2 a = some o
 a7 : H2 D = some (.lst FZ)
 a8 : aD K CL H2 Z2 l FZ fp
 a9 : fp.Nodup
 b1 : D ∉ fp
 b2 : ∀ a ∈ fp, Z2 a = none /\ H a = none
 b3 : FZ.length <= k
theorem yC (S : aL X.K CL b H Z δ σ ts vs) (zw : aB Z W1) (wh : aB W1 H) (tp : ∀ a o, H a = some o -> jU o = true -> W1 a = some o)
   (cap : ∀ H', cF X.K CL H' W1 δc (ix.map fun i => (σ[i]?).getD none) []) (inner : oQ X CL scope Nc n tg parts ifs elt δc ds p g)
   (hgo : ∀ i H2, aB W1 H2 -> i < ds.length -> J.go i H2)
   (hy : ∀ i Z2 H2 x H', aB W1 Z2 -> aB Z2 H2 -> (∀ a o, H2 a = some o -> jU o = true -> Z2 a = some o) -> i < ds.length -> J.Rc i H2 x H' -> ∃ Z3 d, ds[i]? = some d /\ EK Z2 H2 Z3 H' /\ bf X.K CL Z3 d x)
   (kG : ∀ H2, aB W1 H2 -> J.stop ds.length H2) (hlen : ds.length <= sizeLine) (c : W1 = Z \/ ∀ d ∈ ds, (g d).clean = true) :
   ∀ D, H D = none -> ∃ W : Nat -> Nat -> Hp -> Prop, (∃ m, W 0 m (upd H D (.lst []))) /\ ∀ i m H2, W i m H2 -> (J.stop i H2 /\ ∃ Z2, aB Z Z2 /\ aB H H2 /\ aL X.K CL b H2 Z2 δ σ (.lst ((ds.filter p).map g) :: ts) (.ref D :: vs)) ∨
     (J.go i H2 /\ ∃ N : Hp -> Prop, (∀ H', N H' -> ∃ m', m' < m /\ W (i + 1) m' H') /\ ∀ xv H3, J.Rc i H2 xv H3 -> ∀ C s0 H0 f0 os, os.length = n -> N1 (bH X scope Nc C s0 H0 f0) tg elt ifs n σ ix D N xv os H3) := by
 intro D hD
 have wD : W1 D = none := wh.free hD
 refine ⟨fun i m H2 => m = ds.length - i /\ i <= ds.length /\ ∃ Z2 FZ fp, GW X.K CL H W1 D (((ds.take i).filter p).map g) i H2 Z2 FZ fp, ⟨ds.length, rfl, ah8 _, W1, [], [], aB.upd hD, .refl _, wh.trans (aB.upd hD), wD, fun a o q z => ?_, fun a o q i => ?_, aC, .nil, aiZ, by simp, by simp, by simp⟩, ?_⟩
 . rw [q] at z; cases z
 . by_cases ha : a = D
   . subst ha; rw [aC] at q; cases q; cases i
   . rw [aj ha] at q; exact tp a o q i
 . rintro i m H2 ⟨rfl, hi, Z2, FZ, fp, hh, wz, zh, zD, nw, tp2, hD2, ra, nd, nD, own, hav⟩
   by_cases nJ : i < ds.length
   . refine .inr ⟨hgo i H2 (wz.trans zh) nJ, fun H' => ∃ Z2 FZ fp, GW X.K CL H W1 D (((ds.take (i + 1)).filter p).map g) (i + 1) H' Z2 FZ fp, fun H' h => ⟨ds.length - (i + 1), by omega, rfl, nJ, h⟩, fun xv H3 y C s0 H0 f0 os hos => ?_⟩
     obtain ⟨Z3, d, hd, gr, rd⟩ := hy i Z2 H2 xv H3 wz zh tp2 nJ y
     have Xz : ∀ a, Z2 a = none -> (∃ o, H2 a = some o) -> Z3 a = none := fun a e ⟨o, e2⟩ => by
       cases q : Z3 a with
       | none => rfl
       | some u => rw [gr.new a u q e] at e2; cases e2
     have nw3 : ∀ a o, Z3 a = some o -> W1 a = none -> H a = none := fun a o q z => by
       cases e : Z2 a with
       | none => exact hh.free (gr.new a o q e)
       | some u =>
         have := gr.z a u e
         rw [q] at this; cases this
         exact nw a o e z
     have XA : aD X.K CL H3 Z3 (((ds.take i).filter p).map g) FZ fp := ra.mono gr.z fun a ha => by
       obtain ⟨o, e⟩ := ra.there a ha
       rw [e]; exact gr.h a o e
     have ow3 : ∀ a ∈ fp, Z3 a = none /\ H a = none := fun a ha => ⟨Xz a (own a ha).1 (ra.there a ha), (own a ha).2⟩
     have zD3 : Z3 D = none := Xz D zD ⟨_, hD2⟩
     have VG : H3 D = some (.lst FZ) := gr.h D _ hD2
     have R7 := hh.trans gr.h
     have wz3 := wz.trans gr.z
     have zh3 := gr.zh
     have tp3 := gr.tp
     clear own nw ra zD hD2 hh wz zh tp2 gr Xz
     have adT : d ∈ ds := aih hd
     have Zx : ds.take (i + 1) = ds.take i ++ [d] := by rw [aiV, hd]; rfl
     obtain ⟨tgt, F0⟩ := inner C s0 H0 f0 ⟨H3, Z3⟩
     obtain ⟨ps, hps, hpl, it, ie⟩ := F0 d adT
     obtain ⟨t, pg, ht⟩ := tgt
     refine ⟨t, pg, ht Z3 H3 d ps xv _ _ zh3 rd hps fun ys rys => ?_⟩
     have hyl : ys.length = n := by rw [← rys.length]; exact hpl
     have es : BI (Ky σ ix os) (List.range' 0 n) ys = Ky σ ix (ys.map some) := by
       have := BJ (ys := ys) (os := os) (pre := []) (r := ix.map fun i => (σ[i]?).getD none) (by rw [hos, hyl])
       rw [hyl] at this
       exact this
     refine ⟨ys.map some, by rw [ahx]; exact hyl, es, ?_⟩
     rw [es]
     have S0 : aL X.K CL ⟨H3, Z3⟩ H3 Z3 (Kz ps ++ δc) (Ky σ ix (ys.map some)) [] [] :=
       ⟨⟨[], [], Sx rys ((cap H3).mono wz3 fun a ha => by cases ha), .nil, aiZ, fun a ha => by cases ha⟩, .refl _, .refl _, zh3, fun a o q z => (by have z' : Z3 a = none := z; rw [show Z3 a = some o from q] at z'; cases z'), tp3, (S.Gu.mono zw).mono wz3⟩
     refine it.sem S0 fun H4 Z4 z4 k4 S4 => ?_
     have adV : ∀ a ∈ fp, H4 a = H3 a := fun a ha => by
       obtain ⟨o, e⟩ := XA.there a ha
       rw [e]; exact k4 a o e
     have N2 : ∀ a, Z3 a = none -> (∃ o, H3 a = some o) -> Z4 a = none := fun a e ⟨o, e2⟩ => by
       cases q : Z4 a with
       | none => rfl
       | some u =>
         have := S4.new a u q e
         rw [show H3 a = none from this] at e2; cases e2
     cases hp : p d with
     | false =>
       refine Nj ⟨Z4, FZ, fp, R7.trans k4, wz3.trans z4, S4.zh, N2 D zD3 ⟨_, VG⟩, fun a o q z => ?_, S4.tp, k4 D _ VG, ?_, nd, nD, fun a ha => ⟨N2 a (ow3 a ha).1 (XA.there a ha), (ow3 a ha).2⟩, by omega⟩
       . cases e : Z3 a with
         | none => exact R7.free (S4.new a o q e)
         | some u => 
           have := z4 a u e
           rw [q] at this; cases this
           exact nw3 a o e z
       . rw [Zx, List.filter_append, List.filter_cons_of_neg (by simp [hp]), List.filter_nil, ahJ]
         exact XA.mono z4 adV
     | true =>
       refine Nk ((ie hp) H4 Z4 (Ky σ ix (ys.map some)) [] [] _ S4 fun yv H5 Z5 z5 k5 S5 => ⟨FZ, k5 D _ (k4 D _ VG), by omega, ?_⟩)
       obtain ⟨f1, g1, e1, r1, nd1, aa3⟩ := S5.rep
       cases r1 with
       | @cons _ _ _ _ fy fn ry rn =>
         cases rn
         rw [ahJ] at nd1 aa3
         have ndy : fy.Nodup := (ah3.mp nd1).2.1
         have Sy : ∀ a ∈ fy, Z5 a = none /\ H3 a = none := fun a ha => aa3 a (ahu _ ha)
         have GN : ∀ a, Z3 a = none -> (∃ o, H3 a = some o) -> Z5 a = none := fun a e ⟨o, e2⟩ => by
           cases q : Z5 a with
           | none => rfl
           | some u =>
             have := S5.new a u q e
             rw [show H3 a = none from this] at e2; cases e2
         have yD : ∀ a ∈ fy, a ≠ D := fun a ha e => by
           subst e
           rw [(Sy a ha).2] at VG; cases VG
         have h5D : H5 D = some (.lst FZ) := k5 D _ (k4 D _ VG)
         have sD : aB H (upd H5 D (.lst (FZ ++ [yv]))) := fun a o q => by
           rw [aj (bC q hD)]
           exact k5 a o (k4 a o (R7 a o q))
         refine ⟨Z5, FZ ++ [yv], fp ++ fy, sD, wz3.trans (z4.trans z5), fun a o q => ?_, GN D zD3 ⟨_, VG⟩, fun a o q z => ?_, fun a o q im => ?_, aC, ?_, ?_, ?_, fun a ha => ?_, ?_⟩
         . rw [aj (bC q (GN D zD3 ⟨_, VG⟩))]; exact S5.zh a o q
         . cases e : Z3 a with
           | none => exact R7.free (S5.new a o q e)
           | some u =>
             have := z5 a u (z4 a u e)
             rw [q] at this; cases this
             exact nw3 a o e z
         . by_cases ha : a = D
           . subst ha; rw [aC] at q; cases q; cases im
           . rw [aj ha] at q; exact S5.tp a o q im
         . rw [Zx, List.filter_append, List.filter_cons_of_pos hp, List.filter_nil, ahD]
           refine aD.app (XA.mono (z4.trans z5) fun a ha => ?_) (by
             have := aD.cons (fp := fy) (gp := []) (ry.mono (.refl _) fun a ha => aj (yD a ha)) (aD.nil (H := upd H5 D (.lst (FZ ++ [yv]))) (Z := Z5))
             rwa [ahJ] at this)
           have : a ≠ D := fun e => nD (e ▸ ha)
           rw [aj this]
           obtain ⟨o, e⟩ := XA.there a ha
           rw [e]; exact k5 a o (k4 a o e)
         . refine ah3.mpr ⟨nd, ndy, fun a ha a' Kr e => ?_⟩
           subst e
           obtain ⟨o, e⟩ := XA.there a ha
           rw [(Sy a Kr).2] at e; cases e
         . intro h
           rcases ahB.mp h with h | h
           . exact nD h
           . exact yD D h rfl
         . rcases ahB.mp ha with h | h
           . exact ⟨GN a (ow3 a h).1 (XA.there a h), (ow3 a h).2⟩
           . exact ⟨(Sy a h).1, R7.free (Sy a h).2⟩
         . rw [ahL, aiB]; omega
   . have e : i = ds.length := by omega
     subst e
     refine .inl ⟨kG H2 (wz.trans zh), ?_⟩
     rw [aiv] at ra
     obtain ⟨Z', z', S'⟩ := S.back (H' := H2) (W := W1) (W' := Z2) (t := .lst ((ds.filter p).map g)) (v := .ref D) (fp := D :: fp) hh zw wz zh nw tp2 (.lst hD2 ra) (aia.mpr ⟨nD, nd⟩) (fun a ha => by
       rcases ahH.mp ha with h | h
       . subst h; exact ⟨zD, hD⟩
       . exact own a h) (c.imp id fun c => by
         rw [jo]
         exact yq fun d hd => c d (List.mem_filter.mp hd).1)
     exact ⟨Z', z', hh, S'⟩
end
variable {δc : Q.f} {ds : List D} {p : D -> Bool} {g : D -> T} {parts : D -> Option (List D)}
theorem k7 {J : It} {tn : Nat -> Heap -> Prop} {H1 : Hp} {RR : Value -> Addr -> Result -> Shared -> Prop}
   (sc : j8 X scope xs Nc ix) (hc : X.calm = true) (C : sS X CL b δ1 σ ts vs Z H ds J H1) (I : L2.Inv X pins σ H1 s) (Tn : Turn X.prog X.w X.K tg J fp it tn) (st : tn 0 s.heap) (hf : ∀ b ∈ fp, rW X pins H1 b)
   (hb : (δc = yr δ1 ix /\ ∀ d ∈ ds, (g d).clean = true) \/ δc = t8 δ1 ix) (inner : oQ X CL scope Nc xs.length tg parts ifs elt δc ds p g) (hlen : ds.length <= sizeLine)
   (hRR : ∀ D C s' H' Z', (∃ m, s'.heap.Ns C m) -> (∃ o, s'.heap.get? C = some o /\ ∀ v, o.data ≠ .cell v) -> H' C = none -> (C ≠ X.env.locals /\ C ∉ X.fs /\ X.s₀.heap.objs.size <= C /\ (∀ y c, X.env.cells.lookup y = some c -> c ≠ C) /\ ∀ q ∈ X.pn ++ pins, q.1 ≠ C) -> (∀ h', Heap.SameBut C s'.heap h' -> L2.Inv X pins σ H' { s' with heap := h' }) -> aB Z Z' -> aB H H' -> aL X.K CL b H' Z' δ1 σ (.lst ((ds.filter p).map g) :: ts) (.ref D :: vs) -> RR (.ref D) C (.ok .next) s') :
   wpAny Q.d X.A (newList []) (fun acc s₃ => wpAny Q.d X.A (newFunctionEnv scope X.env.globals (fO X.env scope.names []) [] X.env.qual none .none (some X.env)) (fun ED s₄ =>
     codeAny Q.d X.A (.compStart (.ListComp elt [⟨tg, iter, ifs, 0⟩] scope pos) 0 (.ref it) acc { ED with scope := relabel scope X.env }) (RR acc ED.locals) s₄) E s₃) E s := by
 obtain ⟨Z1, z1, k1, S1, go, yl, stp⟩ := C.ex
 have lp : ∀ D, H1 D = none -> ∃ W : Nat -> Nat -> Hp -> Prop, (∃ m, W 0 m (upd H1 D (.lst []))) /\ ∀ i m H2, W i m H2 -> (J.stop i H2 /\ ∃ Z2, aB Z1 Z2 /\ aB H1 H2 /\ aL X.K CL b H2 Z2 δ1 σ (.lst ((ds.filter p).map g) :: ts) (.ref D :: vs)) ∨
     (J.go i H2 /\ ∃ N : Hp -> Prop, (∀ H', N H' -> ∃ m', m' < m /\ W (i + 1) m' H') /\ ∀ xv H3, J.Rc i H2 xv H3 -> ∀ C s0 H0 f0 os, os.length = xs.length -> N1 (bH X scope Nc C s0 H0 f0) tg elt ifs xs.length σ ix D N xv os H3) := by
   rcases hb with ⟨e, cl⟩ | e
   . subst e
     exact yC (W1 := H1) S1 S1.zh (.refl _) (fun _ _ q _ => q) (EF S1 ix) inner (fun i H2 s => go i H2 (S1.zh.trans s)) (fun i Z2 H2 y H' s => yl i Z2 H2 y H' (S1.zh.trans s)) (fun H2 s => stp H2 (S1.zh.trans s)) hlen (.inr cl)
   . subst e
     exact yC (W1 := Z1) S1 (.refl _) S1.zh S1.tp (yt S1 ix) inner go yl stp hlen (.inl rfl)
 exact GL sc hc I Tn st hf lp fun D C s' H' m io nC ch ci ⟨Z', z', k', S'⟩ => hRR D C s' H' Z' m io nC ch ci (z1.trans z') (k1.trans k') S'
theorem mz (sc : j8 X scope xs Nc ix) (I : L2.Inv X pins σ H s) : closureFor scope X.env = pure (fO X.env scope.names []) :=
 se fun y hy e => I.ok.has y.1 (sc.frees y hy e).2
theorem ER (sc : j8 X scope xs Nc ix) (hc : X.calm = true) (h : GIt X CL b tg iter δ ds δ1) (hb : (δc = yr δ1 ix /\ ∀ d ∈ ds, (g d).clean = true) \/ δc = t8 δ1 ix) (inner : oQ X CL scope Nc xs.length tg parts ifs elt δc ds p g) (hlen : ds.length <= sizeLine)
   (hs : ∀ x, foldedSetIterable iter X.env x = pure x := by intro _; rfl) : bS X CL b (.ListComp elt [⟨tg, iter, ifs, 0⟩] scope pos) δ (.lst ((ds.filter p).map g)) δ1 := fun H Z σ ts vs Q S k pins s I => by
 obtain ⟨wi, pi, hw⟩ := h
 rw [eval_ListComp]
 refine aiS (use := none) rfl hs (mz sc I) sc.kind sc.names ?_
 refine di (pi pins s σ H _ I (hw H Z σ ts vs (fun J H1 => sS X CL b δ1 σ ts vs Z H ds J H1) S fun J H1 C => C)) fun v s1 h1 => di h1 fun Wz s2 zz => ?_
 obtain ⟨it, fp, tn, J, H1, e, I1, Tn, st, hf, C⟩ := zz
 subst e
 refine k7 (RR := fun acc C => compPost Q.d X.A X.xe none (EP X pins σ Q) acc C) sc hc C I1 Tn st hf hb inner hlen fun D C' s' H' Z' m io nC ch ci z' k' S' => ?_
 obtain ⟨m, hn⟩ := m
 exact ⟨m, hn, fun h' GC => ⟨.ref D, H', ci h' GC, rfl, k _ H' Z' z' k' S'⟩⟩
variable {y : Str}
theorem Sz {D : c9} {py N3 : Pos} (i : Nat) (sc : j8 X scope xs Nc ix) (hc : X.calm = true) (h : GIt X CL b tg iter δ ds δ1) (hb : (δc = yr δ1 ix /\ ∀ d ∈ ds, (g d).clean = true) \/ δc = t8 δ1 ix) (inner : oQ X CL scope Nc xs.length tg parts ifs elt δc ds p g) (hlen : ds.length <= sizeLine)
   (k : D.nx (δ1.set i (some (.lst ((ds.filter p).map g))))) (hl : i < δ1.length) (hN : X.N.Nodup) (hi : X.N[i]? = some y) (hx : Loc X.env.scope y) (hf' : X.fn y = true \/ X.env.scope.names.lookup y = some .local)
   (t7 : swapsWith (.ListComp elt [⟨tg, iter, ifs, 0⟩] scope pos) (some (.Name y py)) N3.line X.env = pure true)
   (hs : ∀ x, foldedSetIterable iter X.env x = pure x := by intro _; rfl) : Ks X CL b (.Assign [.Name y py] (.ListComp elt [⟨tg, iter, ifs, 0⟩] scope pos) N3) δ D := fun H Z σ ts vs E S M pins s I => by
 obtain ⟨wi, pi, hw⟩ := h
 rw [exec_Assign_Name_used _ _ _ _ t7]
 refine aht (wpAny_standAt (aht ?_))
 show wpAny _ X.A (do let _ ← comprehension (.ListComp elt [⟨tg, iter, ifs, 0⟩] scope pos) scope X.env _ (newList []) false (eval iter X.env) (some (assign (.Name y py) X.env))) _ _ s
 refine aht (aik (aiS (use := some (assign (.Name y py) X.env)) (Q := fun _ s' => SP X pins E .next s') rfl hs (mz sc I) sc.kind sc.names ?_) (fun _ s' hq => ahF (ahF hq)) fun _ _ e => e)
 refine di (pi pins s σ H _ I (hw H Z σ ts vs (fun J H1 => sS X CL b δ1 σ ts vs Z H ds J H1) S fun J H1 C => C)) fun v s1 h1 => di h1 fun Wz s2 zz => ?_
 obtain ⟨it, fp, tn, J, H1, e, I1, Tn, st, hf, C⟩ := zz
 subst e
 refine k7 (RR := fun acc C => compPost Q.d X.A X.xe (some (assign (.Name y py) X.env)) (fun _ s' => SP X pins E .next s') acc C) sc hc C I1 Tn st hf hb inner hlen fun D' C' s' H' Z' m io nC ch ci z' k' S' => ?_
 obtain ⟨m, hn⟩ := m
 obtain ⟨o, ho, pR⟩ := io
 have I' : L2.Inv X pins σ H' s' := ci s'.heap (.refl ..)
 have I2 : L2.Inv X (pins ++ [(C', o)]) σ H' s' := I'.qX fun q hq => by
   rcases ahB.mp hq with z | z
   . exact I'.pin q (ahu _ z)
   . have e : q = (C', o) := by simpa using z
     subst e
     exact ⟨ho, nC, ch.1, ch.2.1, pR⟩
 show wpAny _ X.A (assign (.Name y py) X.env (.ref D')) _ _ s'
 have hg : PG X (.Name y py) (sd i) := kK hN hi hx hf'
 refine di (hg _ s' σ H' (.ref D') (.ref D') (fun σ8 H8 => σ8 = σ.set i (some (.ref D')) /\ H8 = H') I2 rfl ⟨rfl, rfl⟩) fun _ s8 zz => ?_
 obtain ⟨σ8, H8, I8, e8, e8'⟩ := zz
 subst e8
 subst e8'
 obtain ⟨hC8, nC8, _⟩ := I8.pin (C', o) (ahu _ (ahu _ (by simp)))
 refine ⟨m, hn.at' fun o' e' => by rw [ho] at e'; cases e'; exact hC8, fun h' GC => ?_⟩
 have I9 : L2.Inv X pins (σ.set i (some (.ref D'))) _ s8 := I8.qX fun q hq => I8.pin q (ahu _ (ahy _ hq))
 have I10 := I9.turned (it := C') (h' := h') (t' := s8.toks) (fun b o hb e => (GC.2 b hb).trans e) nC8 ch.1.symm.symm (.inr ch.2.2.1) ch.2.2.2.1 ch.2.2.2.2
 exact ⟨_, _, I10, M.nx _ _ _ Z' z' (S'.set hl) k⟩
variable {pos' : Pos}
theorem XC {D : c9} (gx : Gx X) (n : Ln X i x) (sc : j8 X scope xs Nc ix) (h : GIt X CL b tg iter δ ds δ1)
   (hb : (δc = yr δ1 ix /\ ∀ d ∈ ds, (g d).clean = true) \/ δc = t8 δ1 ix) (inner : oQ X CL scope Nc xs.length tg parts ifs elt δc ds p g) (hlen : ds.length <= sizeLine) (k : cH X CL b dm (δ1.set i (some (.lst ((ds.filter p).map g)))) D) (hl : i < δ1.length)
   (t7 : swapsWith (.ListComp elt [⟨tg, iter, ifs, 0⟩] scope pc) (some (.Name x pos')) pos.line X.env = pure true \/ swapsWith (.ListComp elt [⟨tg, iter, ifs, 0⟩] scope pc) (some (.Name x pos')) pos.line X.env = pure false) (hs : ∀ x, foldedSetIterable iter X.env x = pure x := by intro _; rfl) :
   cH X CL b (.Assign [.Name x pos'] (.ListComp elt [⟨tg, iter, ifs, 0⟩] scope pc) pos :: dm) δ D := by
 rcases t7 with t7 | t7
 . exact aY (Sz i sc gx.calm h hb inner hlen k hl gx.nd n.hi n.loc n.hf t7 hs)
 . exact aY (Cw i (ER sc gx.calm h hb inner hlen hs) k hl gx.nd n.hi n.loc t7 n.hf)
def gOk (scope : Scope) (xs qq : List Str) : Bool :=
 scope.kind == .function && xs.all (fun y => scope.names.lookup y == some .local) && qq.all (fun y => scope.names.lookup y == some .free) && decide ((xs ++ qq).Nodup) &&
   scope.names.all fun y => y.2 != .cell && (y.2 != .local || scope.names.lookup y.1 == some .local) && (y.2 != .free || (qq.contains y.1 && scope.names.lookup y.1 == some .free))
theorem Jg {qq : List Str} (c : NK X ix qq) (ok : gOk scope xs qq = true) : j8 X scope xs (xs ++ qq) ix := by
 unfold gOk at ok
 simp only [ah0, aiP, ajk, ajd] at ok
 obtain ⟨⟨⟨⟨h1, h2⟩, h3⟩, h4⟩, h5⟩ := ok
 have kc : ∀ y ∈ qq, X.env.kindOf y = some .cell \/ X.env.kindOf y = some .free := by
   clear h3 h4 h5
   induction c with
   | nil => intro y hy; cases hy
   | cons n k r ih =>
     intro y hy
     rcases ahH.mp hy with e | hy
     . subst e; exact k
     . exact ih y hy
 refine ⟨h1, fun y hy e => ?_, h4, fun y hy e => ?_, h2, fun y hy e => ?_, ?_, fun i hi => ?_⟩
 . have := (h5 y hy).1.1
   rw [e] at this
   simp at this
 . have := (h5 y hy).1.2
   rw [e] at this
   simpa using this
 . have := (h5 y hy).2
   rw [e] at this
   simp at this
   exact ⟨this.2, kc _ this.1⟩
 . congr 1
   clear h3 h4 h5 kc
   induction c with
   | nil => rfl
   | cons n k r ih => rw [ah9, n.hi, ← ih]
 . clear h4 h5 kc
   induction c with
   | nil => cases hi
   | @cons i' y ix ys n k r ih =>
     rcases ahH.mp hi with e | hi
     . subst e; exact ⟨y, n.hi, h3 y ahw⟩
     . exact ih (fun z hz => h3 z (ahz _ hz)) hi
variable {C : Addr}
theorem yE (h1 : Nc[i]? = some x) (h2 : scope.names.lookup x = some .local) (hd : Q.m := by decide) (j3 : (x == ("__classdict__" : Str)) = false := by decide) : Ln (bH X scope Nc C s H fp) i x :=
 ⟨j7 h1 h2 hd j3, .inl (ai5 h2), .inr (ai5 h2)⟩
theorem KC {l : List Int} (h : aI K CL Z (l.map D.int) us) : us = l.map V.int := by
 refine aI.ind (P := fun ds us => ∀ l : List Int, ds = l.map D.int -> us = l.map V.int) ?_ ?_ h l rfl
 . intro l e
   cases l with
   | nil => rfl
   | cons => cases e
 . intro d v ds vs r _ i l e
   cases l with
   | nil => cases e
   | cons a l =>
     injection e with e1 e2
     subst e1
     rw [i l e2]
     cases r
     rfl
theorem KD (hc : X.calm = true) : tR X (.builtin "sum") (fun xs H Q => ∃ (p : Addr) (ns : List Int), xs = [.ref p] /\ oB X.K H p (ns.map V.int) /\ Q (.int ns.sum) H) := by
 intro pins s σ H xs us Q I r h
 obtain ⟨p, ns, rfl, hq, q⟩ := h
 obtain ⟨u, rfl, rx⟩ := vals1 r
 cases rx
 obtain ⟨its, r', pl, hz⟩ := I.list hq
 have hi := intsAre_of r'
 obtain ⟨xs, hx⟩ := hi.allInts.items
 have hn := hi.numsOf
 have hl := pl.isList
 rw [hx] at hl
 refine sum_intListG (I.ok.hd hc) hl fun h' tk t' hk => ⟨.int ns.sum, H, I.kept (t' := tk) hk, ?_, q⟩
 refine ⟨t', ?_⟩
 have e : its = (intItems xs).toList := by rw [← hx]
 rw [e, nums_intItems] at hn
 rw [preSum_eq, List.take_of_length_le (by simp), hn]
theorem KG : bootBuiltins "sum" = some (.builtin "sum") := Q.j
theorem SD {l : List Int} (g : Gx X) (hm : X.mg "sum" = none) (h : eF X CL b e δ (.lst (l.map .int)) δ1) (hg : Gl X "sum") (hs : Q.y := by exact aV rfl) : bS X CL b (.Call (.Name "sum" pp) [e] [] pos) δ (.sh (.int l.sum)) δ1 := fun H Z σ ts vs Q S k =>
 bZ (tU (KD g.calm) hg hm KG (bI c7 dF hs) (he := hs)) (h H Z σ ts vs _ S fun v H1 Z1 z1 k1 S1 r => by
   cases r with
   | @lst a us _ hq rr =>
     have := KC rr
     subst this
     exact ⟨a, l, rfl, hq, k _ H1 Z1 z1 k1 (S1.push (.int _))⟩)
theorem N4 {β : Type} {f : α -> β} {l : List α} {d : β} (h : (l.map f)[j]? = some d) : ∃ x, d = f x /\ l[j]? = some x /\ x ∈ l /\ j < l.length /\ l.drop j = x :: l.drop (j + 1) /\ l.take (j + 1) = l.take j ++ [x] := by
 rw [ahW] at h
 cases hx : l[j]? with
 | none => rw [hx] at h; cases h
 | some x =>
   rw [hx] at h
   cases h
   have hj : j < l.length := (aii.mp hx).1
   have e : l[j] = x := (aii.mp hx).2
   exact ⟨x, rfl, rfl, aih hx, hj, by rw [List.drop_eq_getElem_cons hj, e], by rw [aiV, hx]; rfl⟩
def D.at1 : L3.D -> L3.D
 | .tup (a :: _) => a
 | d => d
def D.at2 : L3.D -> L3.D
 | .tup (_ :: a :: _) => a
 | d => d
variable {VH : List T}
theorem aL.extend (S : aL K CL b H Z δ σ (.lst VH :: ts) (v :: vs)) (hi : δ[i]? = some (some (.lst tl))) :
   ∃ a us a2 Ri, σ[i]? = some (some (.ref a)) /\ H a = some (.lst us) /\ us.length = tl.length /\ v = .ref a2 /\ H a2 = some (.lst Ri) /\ Ri.length = VH.length /\ aL K CL b (upd H a (.lst (us ++ Ri))) Z (δ.set i (some (.lst (tl ++ VH)))) σ ts vs := by
 obtain ⟨fp, gp, e, r, nd, k⟩ := S.rep
 obtain ⟨v0, f1, f2, f3, hv, kM, rt, put, _⟩ := e.get hi
 subst kM
 cases rt with
 | @lst a us _ g ha rs =>
   cases r with
   | @cons _ _ _ _ ft gr q1 q2 =>
     cases q1 with
     | @lst a2 Ri _ g2 SG rs2 =>
       have ne : ∀ c ∈ (f1 ++ (g ++ f3)) ++ (g2 ++ gr), c ≠ a := fun c hc e => by
         subst e
         have hp : ((f1 ++ ((c :: g) ++ f3)) ++ ((a2 :: g2) ++ gr)).Perm (c :: ((f1 ++ (g ++ f3)) ++ ((a2 :: g2) ++ gr))) := by
           rw [ahT, ← ahT]
           exact (aiE.append_right _)
         refine (aia.mp (hp.nodup_iff.mp nd)).1 ?_
         rcases ahB.mp hc with z | z
         . exact ahy _ z
         . exact ahu _ (ahz _ z)
       refine ⟨a, us, a2, Ri, hv, ha, rs.length.symm, rfl, SG, rs2.length.symm, ?_⟩
       have r1 : aU K CL (upd H a (.lst (us ++ Ri))) Z (.lst (tl ++ VH)) (.ref a) (a :: (g ++ g2)) :=
         .lst aC (aD.app (rs.mono (.refl _) fun c hc => aj Q.n) (rs2.mono (.refl _) fun c hc => aj Q.n))
       have e2 := put (H' := upd H a (.lst (us ++ Ri))) (.refl _) (fun c hc => aj (ne c (by
         rcases ahB.mp hc with h | h
         . simp [h]
         . simp [h]))) r1
       rw [cK hv] at e2
       have hp : ((f1 ++ ((a :: (g ++ g2)) ++ f3)) ++ gr).Perm ((f1 ++ ((a :: g) ++ f3)) ++ (g2 ++ gr)) := by
         simp only [ahT, ahv]
         refine ah6 f1 (List.Perm.cons a (ah6 g ?_))
         rw [← ahv, ← ahv]
         exact ahV.append_right gr
       have sb : ((f1 ++ ((a :: g) ++ f3)) ++ (g2 ++ gr)).Sublist ((f1 ++ ((a :: g) ++ f3)) ++ ((a2 :: g2) ++ gr)) :=
         ah2 (ah5 _) (by rw [ahT]; exact List.sublist_cons_self _ _)
       exact S.write nd k (ahw) ⟨_, ha⟩ e2 (q2.mono (.refl _) fun c hc => aj Q.n) (hp.nodup_iff.mpr (nd.sublist sb)) fun c hc => sb.subset (hp.mem_iff.mp hc)
section
variable {Rh : List T} {D : c9}
theorem Jh (n : Vn X i x) (h0 : δ[i]? = some (some (.lst Rh))) (h : bS X CL b e δ (.lst VH) δ1) (h1 : δ1[i]? = some (some (.lst tl))) (hl : tl.length + VH.length <= 1000000) (k : cH X CL b dm (δ1.set i (some (.lst (tl ++ VH)))) D)
   (eV : attributeBase (.Name x pp) "extend" X.env (eval (.Name x pp) X.env) = eval (.Name x pp) X.env := by rfl)
   (sP : Q.G := by rfl)
   (hline : (pa.endLine == pb.line) = true := by rfl) (hs : Q.y := by exact aV rfl)
   (t7 : swapsWith (.Call (.Attribute (.Name x pp) "extend" pa) [e] [] pb) none pos.line X.env = pure false := by rfl) :
   cH X CL b (.Expr (.Call (.Attribute (.Name x pp) "extend" pa) [e] [] pb) pos :: dm) δ D := aY fun H Z σ ts vs E S M =>
 kL (oE (Bv aiu PySem.F.slot_list_extend PySem.F.type_list_extend Ke (eB n.hi n.hv n.hd n.j3) (bI c7 dF hs) eV sP hline hs rfl) t7) (by
   obtain ⟨v0, e0, r0⟩ := S.look h0
   refine ⟨v0, e0, ?_, ?_⟩
   . rw [T.aZ] at r0
     cases r0 with
     | lst hq _ => exact .inl ⟨rfl, _, hq⟩
   . refine h H Z σ ts vs _ S fun v H1 Z1 z1 k1 S1 => ?_
     obtain ⟨a, us, a2, Ri, ea, ha, hu, rfl, SG, hu2, S2⟩ := S1.extend h1
     rw [e0] at ea
     cases ea
     exact ⟨a, a2, us, Ri, rfl, rfl, ha, SG, by rw [hu, hu2]; exact aiC (aiD hl (by rw [aix]; decide)), M.nx _ σ _ Z1 z1 S2 k⟩)
end
theorem aI.VJ {K : Q.h} {Z : Hp} : ∀ l : List Str, aI K CL Z (l.map .str) (l.map V.str)
 | [] => .nil
 | x :: l => .cons (.str x) (aI.VJ l)
def GT (X : Cx) (x : Str) (l : List Str) : Prop := ∃ a, X.mg x = some (.ref a) /\ ∀ H : Hp, sO X.K H a (l.map V.str)
theorem EV {l : List Str} (hm : GT X x l) (hg : Gl X x) (hd : Q.m := by decide) : bS X CL b (.Name x pos) δ (.sh (.tup (l.map .str))) δ := fun H Z σ ts vs Q S kk => by
 obtain ⟨a, hm, hs⟩ := hm
 exact bZ (Ca (v := .ref a) hg hm rfl hd) (kk _ H Z (.refl _) (.refl _) (S.push (.tup (hs Z) (aI.VJ l))))
theorem aa4 {l : List Str} {od : Option Addr} {its : Array Value} {sl : Array (Option Value)} (h1 : X.mg x = some (.ref a)) (h2 : X.K.lookup a = some ⟨.type "tuple", od, .seq its n, sl⟩) (h3 : its.size <= sizeLine) (h4 : Vals (l.map V.str) its.toList) : GT X x l :=
 ⟨a, h1, fun H => .inr ⟨_, its, n, h2, rfl, rfl, h3, h4⟩⟩
theorem c0 {k : Nat} {A : Type} {arg : A -> List L3.D} {Pre : A -> Prop} {res : A -> T} (a : A) (F : Fc X CL x k n arg Pre res) (hg : Gl X x) (ha : arg a = []) (hp : Pre a) (hc : (res a).clean = true) (hn : (arg a).length = n := by rfl)
   (qg : Q.m := by decide) : bS X CL b (.Call (.Name x pp) [] [] pos) δ (res a) δ := by
 obtain ⟨f, fd, ps, F1, m, kk, bb⟩ := F.ex
 intro H Z σ ts vs Q S k
 refine bZ (M4 F1 F.room hg m kk bb .nil qh qg) ?_
 refine ⟨H, a, .refl _, fun _ _ q _ => q, by rw [ha]; exact .nil, hn, hp, S.Kq, fun v H' W' fp hh ww wh nw tp rt nd own => ?_⟩
 obtain ⟨Z', z', S'⟩ := S.back hh S.zh ww wh nw tp rt nd own (.inr hc)
 exact k v H' Z' z' hh S'
def KH : Key -> D
 | .inl i => .int i
 | .inr x => .str x
variable {gs : List (Key × V)} {kvs : List (Key × D)}
theorem cA.length {kvs : List (Key × D)} (h : cA K CL Z kvs gs) : kvs.length = gs.length :=
 cA.ind (P := fun kvs gs => kvs.length = gs.length) rfl (fun _ _ i => congrArg (· + 1) i) h
theorem bf.key {k : Key} (r : bf K CL Z (KH k) v) : v = kV k := by
 cases k with
 | inl i => exact r.sc rfl
 | inr x => exact r.sc rfl
theorem SJ (k : Key) : bf K CL Z (KH k) (kV k) := by
 cases k with
 | inl i => exact .int i
 | inr x => exact .str x
theorem yF {Z : Hp} : ∀ ks : List Key, aI K CL Z (ks.map KH) (ks.map kV)
 | [] => .nil
 | k :: ks => .cons (SJ k) (yF ks)
namespace Rv
theorem KJ : Manifest.owners.lookup (String.ofList ['d', 'e', 's', 'r', 'e', 'v', 'e', 'r'].reverse) = some Manifest.sig_reversed := by kernel_rfl
theorem KL : PySem.Slot "reversed" "__init__" "object.__init__" :=
 .of (owner := "object") (n := "__init__") (by rw [typeLookup_type, builtinLookup_eq_fast]; kernel_rfl) Q.a Q.a Q.a
   (by first | exact .inl Q.a | exact .inr Q.a) (by rw [isSubtype_type]; kernel_rfl)
theorem called : TypeCalled "reversed" "reversed.__new__" "object.__init__" :=
 ⟨by decide +kernel, by decide +kernel, ⟨_, _, PySem.F.mro_reversed⟩, PySem.F.made_reversed, by decide +kernel, PySem.F.sub_reversed_self, KL⟩
theorem slot_next : PySem.Slot "reversed" "__next__" "reversed.__next__" :=
 .of (owner := "reversed") (n := "__next__") (by rw [typeLookup_type, builtinLookup_eq_fast]; kernel_rfl) Q.a Q.a Q.a
   (by first | exact .inl Q.a | exact .inr Q.a) (by rw [isSubtype_type]; kernel_rfl)
theorem entry_next : entryFor table "reversed.__next__" = some Builtin.«reversed.__next__» := entryFor_of_tree (by kernel_rfl)
theorem args_next (a : Value) : argsOk "reversed.__next__" ⟨[a], []⟩ := by
 unfold argsOk; rw [signature?_of (id := "reversed.__next__") (n := ['_', '_', 't', 'x', 'e', 'n', '_', '_']) (o := ['d', 'e', 's', 'r', 'e', 'v', 'e', 'r']) (by kernel_rfl) KJ]; kernel_rfl
def obj (t : Addr) (i : Int) : Obj := { cls := .type "reversed", data := .fields #[.ref t, rawInt i] }
def Is (h : Heap) (a t : Addr) (i : Int) : Prop := ∃ o, h.get? a = some o /\ o.cls = .type "reversed" /\ o.data = .fields #[.ref t, rawInt i]
theorem Is.typeIs {t : Addr} {i : Int} (x : Is s.heap a t i) : s.TypeIs (.ref a) "reversed" := let ⟨o, ho, hc, _⟩ := x; ⟨o, ho, hc⟩
end Rv
namespace Rv
theorem next_item {t : Addr} {items : Array Value} {x : Value} {Q : Option Value -> Shared -> Prop} (hit : Is s.heap it t (i : Int)) (ht : IsTup s.heap t items) (hne : t ≠ it) (hx : items[i]? = some x) (hsz : (items.size : Int) < 2 ^ 63)
   (hQ : ∀ h' tk, Is h' it t ((i : Int) - 1) -> Heap.SameBut it s.heap h' -> Q (some x) { s with heap := h', toks := tk }) : wpAny (model prog w) A (pyNext (.ref it)) Q E s := by
 obtain ⟨o, ho, hc, hd⟩ := id hit
 have hi : i < items.size := (ai4.mp hx).1
 unfold pyNext
 refine aht (ajc (aiJ (name := Str.ofString "__next__") hit.typeIs slot_next
   (aiF slot_next hit.typeIs entry_next ?_ (args_next _))))
 unfold Builtin.«reversed.__next__»
 refine aht (wpAny_of_eq (a := (Value.ref it, [])) rfl ?_)
 try dsimp only
 refine aht (aiN ho hd (x := .ref t) rfl ?_)
 refine aht (aiN ho hd (x := rawInt (i : Int)) rfl ?_)
 show wpAny _ _ (if (i : Int) < 0 then _ else _) _ _ s
 rw [ahC Q.c]
 refine aht (wpAny_specialOf ht.typeIs PySem.F.slot_tuple_getitem.lookup ?_)
 rw [ahC Q.b]
 refine aht (wpAny_mkInt ?_)
 refine aht (ajc (getItem_tuple (s := { s with toks := s.toks + 1 }) ht Q.c Q.c (j := i) (by simp [seqIndex?]; omega) hx ?_))
 try dsimp only
 refine aht (aiN (s := { s with toks := s.toks + 1 }) ho hd (x := rawInt (i : Int)) rfl ?_)
 show wpAny _ _ (setField (.ref it) 1 (rawInt ((i : Int) - 1)) >>= _) _ _ _
 refine aht (ai7 (s := { s with toks := s.toks + 1 }) ho hd (by simp) ?_)
 refine ahF ⟨x, rfl, ahF (hQ _ _ ?_ (aja ..))⟩
 exact ⟨_, ai3 _ ho (ajn (aiG hd _)), (Obj.cls_mapFields ..).trans hc, by
   rw [aiG hd]; simp⟩
theorem next_end {t : Addr} {Q : Option Value -> Shared -> Prop} (hh : A.handled = none) (hit : Is s.heap it t (-1))
   (hQ : ∀ h', Heap.ExtBut it s.heap h' -> Q none { s with heap := h' }) : wpAny (model prog w) A (pyNext (.ref it)) Q E s := by
 obtain ⟨o, ho, hc, hd⟩ := id hit
 unfold pyNext
 refine aht (ajc (aiJ (name := Str.ofString "__next__") hit.typeIs slot_next
   (aiF slot_next hit.typeIs entry_next ?_ (args_next _))))
 unfold Builtin.«reversed.__next__»
 refine aht (wpAny_of_eq (a := (Value.ref it, [])) rfl ?_)
 try dsimp only
 refine aht (aiN ho hd (x := .ref t) rfl ?_)
 refine aht (aiN ho hd (x := rawInt (-1)) rfl ?_)
 show wpAny _ _ (if (-1 : Int) < 0 then _ else _) _ _ s
 rw [ahN Q.b]
 refine aht (wpAny_rule ?_)
 refine aht ?_
 refine aht (ai7 ho hd (by simp) ?_)
 have ho2 := ai3 (Obj.mapFields fun x => x.setIfInBounds 1 (rawInt (-1))) ho (ajn (aiG hd _))
 have e1 : Heap.ExtBut it s.heap (s.heap.update it (Obj.mapFields fun x => x.setIfInBounds 1 (rawInt (-1)))) := (aja ..).extBut
 refine ai7 ho2 (aiG hd _) (by simp) ?_
 refine aht ?_
 show wpAny _ _ (newExc (.type "StopIteration") [] >>= _) _ _ _
 refine aht ?_
 simp only [newExc, newTuple]
 refine aht (aiy ?_ (by size_fits))
 refine aht (m := firstArgMember _ _) (wpAny_of_eq (a := Value.none) (by first | rfl | (simp only [firstArgMember]; rfl)) ?_)
 refine aiy ?_ (by size_fits)
 simp only [raiseNew]
 refine aht (wpAny_handled ?_)
 first | rw [show A.in1.handled = none from hh] | rw [hh]
 refine aht (ahF (wpAny_throw ?_))
 refine aht (wpAny_isInstance (T := "StopIteration") (b := true) ⟨_, ahU _ rfl, rfl⟩ isSubtype_stop ?_)
 exact ahF (hQ _ fun b o hb e => ahE _ (ahE _ ((ajj _ _ (ajv hb)).trans (e1 b o hb e))))
end Rv
theorem aL.N5 (S : aL K CL b H Z δ σ (.sh d :: ts) (v :: vs)) : bf K CL Z d v := by
 obtain ⟨fp, gp, e0, r0, nd, ow⟩ := S.rep
 cases r0 with
 | cons q1 q2 =>
   cases q1 with
   | sh r => exact r
variable {ι : Nat -> Nat}
def turned (ι : Nat -> Nat) (i j : Nat) : Nat -> Nat := fun k => if i <= k /\ k < j then ι (i + j - 1 - k) else ι k
theorem GO (hi : X.N[i]? = some x) (h : X.env.scope.names.lookup x = some .local) (hf : X.fn x = true) (hd : Q.m := by decide) (hc : (x == ("__classdict__" : Str)) = false := by decide) : Ln X i x := ⟨⟨hi, .inl h, hd, hc⟩, .inl h, .inl hf⟩
theorem mkC (hi : X.N[i]? = some x) (h : X.env.scope.names.lookup x = some .cell) (hf : X.fn x = true) (hd : Q.m := by decide) (hc : (x == ("__classdict__" : Str)) = false := by decide) : Ln X i x := ⟨⟨hi, .inr (.inl h), hd, hc⟩, .inr h, .inl hf⟩
variable {p : L3.D -> Bool} {g : L3.D -> T} {ds : List L3.D}
theorem aa5 (sc : gu X scope y Nc ix) : j8 X scope [y] Nc ix := ⟨sc.kind, sc.vm, sc.nd, sc.names, (fun x hx => by rw [ail] at hx; subst hx; exact sc.own), sc.frees, sc.hd, sc.VC⟩
theorem aa6 (sc : gu X scope y Nc ix) (h : Block X CL scope Nc ifs elt δc ds p g) (h1 : (y == ("__debug__" : Str)) = false) (h2 : (y == ("__classdict__" : Str)) = false) : oQ X CL scope Nc [y].length (.Name y px) part1 ifs elt δc ds p g := fun C s0 H0 f0 b' =>
 ⟨NZ (i := 0) sc.nd (yE (by rw [sc.hd]; rfl) sc.own h1 h2), fun d hd => ⟨[d], rfl, rfl, (h C s0 H0 f0 b' d hd).1, (h C s0 H0 f0 b' d hd).2⟩⟩
theorem Ji (sc : gu X scope y Nc ix) (hc : X.calm = true) (h : NC X CL b (.Name y px) iter δ ds δ1) (hb : (δc = yr δ1 ix /\ ∀ d ∈ ds, (g d).clean = true) \/ δc = t8 δ1 ix) (inner : Block X CL scope Nc ifs elt δc ds p g) (hlen : ds.length <= sizeLine)
   (hs : ∀ x, foldedSetIterable iter X.env x = pure x := by intro _; rfl) (h1 : (y == ("__debug__" : Str)) = false := by decide) (h2 : (y == ("__classdict__" : Str)) = false := by decide) : bS X CL b (.ListComp elt [⟨.Name y px, iter, ifs, 0⟩] scope pos) δ (.lst ((ds.filter p).map g)) δ1 :=
 ER (xs := [y]) (aa5 sc) hc (VF h) hb (aa6 sc inner h1 h2) hlen hs
theorem N6 {D : c9} {gg : L3.D -> T} (g : Gx X) (n : Ln X i x) (sc : gu X scope y Nc ix) (h : NC X CL b (.Name y px) iter δ ds δ1) (hb : (δc = yr δ1 ix /\ ∀ d ∈ ds, (gg d).clean = true) \/ δc = t8 δ1 ix) (inner : Block X CL scope Nc ifs elt δc ds p gg)
   (hlen : ds.length <= sizeLine) (k : cH X CL b dm (δ1.set i (some (.lst ((ds.filter p).map gg)))) D) (hl : i < δ1.length)
   (t7 : swapsWith (.ListComp elt [⟨.Name y px, iter, ifs, 0⟩] scope pc) (some (.Name x pos')) pos.line X.env = pure true \/ swapsWith (.ListComp elt [⟨.Name y px, iter, ifs, 0⟩] scope pc) (some (.Name x pos')) pos.line X.env = pure false) (hs : ∀ x, foldedSetIterable iter X.env x = pure x := by intro _; rfl)
   (h1 : (y == ("__debug__" : Str)) = false := by decide) (h2 : (y == ("__classdict__" : Str)) = false := by decide) : cH X CL b (.Assign [.Name x pos'] (.ListComp elt [⟨.Name y px, iter, ifs, 0⟩] scope pc) pos :: dm) δ D :=
 XC (xs := [y]) g n (aa5 sc) (VF h) hb (aa6 sc inner h1 h2) hlen k hl t7 hs
theorem cC (n : Ln X i x) (h : δ[i]? = some (some (.sh d)) := by rfl) : eF X CL b (.Name x pos) δ d δ := ao (v_ n.1 h)
structure dg (X : Cx) : Prop where
 g : Gx X
 u : X.A.units + 64 < cLine
abbrev aN (X : Cx) (CL : Q.e) (b : Bx) (st : Stmt) (N : List Str) (l : List L3.D) (r : T) : Prop := cH X CL b (b9 st) (entry N l) { nx := fun _ => r = .sh .non, rt := fun EW _ => EW = r }
abbrev aK : NameKind := .globalImplicit
abbrev aA : NameKind := .local
theorem bz {P : List Str} {sc : Scope} (h1 : sc.kind = .function := by rfl) (h2 : sc.isCoroutine = false := by rfl) (h3 : sc.isGenerator = false := by rfl) (h4 : N.Nodup := by decide +kernel) (h5 : N.take P.length = P := by rfl) (h6 : ∀ x ∈ P, sc.names.lookup x = some .local \/ sc.names.lookup x = some .cell := by decide +kernel) (h7 : ∀ y ∈ sc.names, y.2 ≠ .free := by decide +kernel) : aP N P sc := ⟨h1, h2, h3, h4, h5, h6, h7⟩
variable {tb : List (Str × NameKind)}
theorem bT (c : qa X.env.scope tb = true) (j : Nat) (hj : tb[j]? = some (x, .local) := by rfl) (hi : X.N[i]? = some x := by rfl) (hf : X.fn x = true := by rfl) (hd : Q.m := by decide) (hc : (x == ("__classdict__" : Str)) = false := by decide) : Ln X i x := GO hi (jG c j hj) hf hd hc
theorem XD (c : qa X.env.scope tb = true) (j : Nat) (hj : tb[j]? = some (x, .cell) := by rfl) (hi : X.N[i]? = some x := by rfl) (hf : X.fn x = true := by rfl) (hd : Q.m := by decide) (hc : (x == ("__classdict__" : Str)) = false := by decide) : Ln X i x := mkC hi (jG c j hj) hf hd hc
theorem gX (c : qa X.env.scope tb = true) (j : Nat) (hj : tb[j]? = some (x, .globalImplicit) := by rfl) : Gl X x := jG c j hj
theorem qv {k m : Nat} {A : Type} {arg : A -> List D} {Pre : A -> Prop} {res : A -> T} (F : ∃ f fd ps, cJ X.prog X.w X.K X.mg X.base lu k f fd ps (AG X.K CL n arg Pre res) /\ X.mg x = some (.ref f) /\ PySem.W.keepIn X.K (.ref f) = true /\ Binds X.K fd ps []) (r : c6 m X.A) (h : k <= m := by decide) : Fc X CL x k n arg Pre res := ⟨F, r.mono h⟩
variable {δ' : Q.f} {σ' : L2.St} {y : Addr}
theorem aL.aa7 (S : Q.q) (hi : δ[i]? = some (some (.pin y t))) : σ[i]? = some (some (.ref y)) /\ aL K CL b H Z (δ.set i (some t)) σ ts vs := by
 obtain ⟨fp, gp, e, r, nd, k⟩ := S.rep
 obtain ⟨v0, f1, f2, f3, hv, kM, rt, put, _⟩ := e.get hi
 subst kM
 cases rt with
 | pin rt =>
   have e2 := put (.refl _) (fun _ _ => rfl) rt
   rw [cK hv] at e2
   exact ⟨hv, ⟨⟨_, gp, e2, r, nd, k⟩, S.bh, S.zz, S.zh, S.new, S.tp, S.tab⟩⟩
def qb (H : Hp) (gp : List Addr) : Hp := fun c => if c ∈ gp then none else H c
theorem gQ {c : Addr} (h : c ∉ gp) : qb H gp c = H c := ahC h
theorem oR {c : Addr} (h : c ∈ gp) : qb H gp c = none := ahN h
theorem jr {c : Addr} {o : HO} (h : qb H gp c = some o) : c ∉ gp /\ H c = some o := by
 by_cases hc : c ∈ gp
 . rw [oR hc] at h; cases h
 . rw [gQ hc] at h; exact ⟨hc, h⟩
theorem aL.cut (S : aL K CL b H Z δ σ (tl ++ ts) (us ++ vs)) (hl : tl.length = us.length) : ∃ gp, aD K CL H Z tl us gp /\ gp.Nodup /\ aL K CL b (qb H gp) Z δ σ ts vs := by
 obtain ⟨fp, g, e, r, nd, k⟩ := S.rep
 obtain ⟨g1, g2, rfl, r1, r2⟩ := aD.split hl r
 have hp : (fp ++ (g1 ++ g2)).Perm (g1 ++ (fp ++ g2)) := by
   rw [← ahv, ← ahv]
   exact ahV.append_right g2
 have Ef := ah3.mp (hp.nodup_iff.mp nd)
 have ne : ∀ c ∈ fp ++ g2, c ∉ g1 := fun c hc h => Ef.2.2 c h c hc rfl
 have own : ∀ c ∈ g1, Z c = none /\ b.B c = none := fun c hc => k c (ahu _ (ahy _ hc))
 refine ⟨g1, r1, Ef.1, ⟨⟨fp, g2, e.mono (.refl _) (fun c hc => gQ (ne c (ahy _ hc))), r2.mono (.refl _) (fun c hc => gQ (ne c (ahu _ hc))), Ef.2.1, fun c hc => k c (hp.mem_iff.mpr (ahu _ hc))⟩, fun c o q => ?_, S.zz, fun c o q => ?_, S.new, fun c o q im => S.tp c o (jr q).2 im, S.tab⟩⟩
 . rw [gQ (fun h => by rw [(own c h).2] at q; cases q)]; exact S.bh c o q
 . rw [gQ (fun h => by rw [(own c h).1] at q; cases q)]; exact S.zh c o q
theorem aL.N7 {W' : Hp} (S : Q.q) (hh : aB H H') (ww : aB Z W') (wh : aB W' H') (new : ∀ a o, W' a = some o -> Z a = none -> H a = none)
   (tp : ∀ a o, H' a = some o -> jU o = true -> W' a = some o) (r : aD K CL H' W' tl us fp) (nd : fp.Nodup) (own : ∀ a ∈ fp, W' a = none /\ H a = none) : aL K CL b H' W' δ σ (tl ++ ts) (us ++ vs) := by
 obtain ⟨f0, g0, e0, r0, nd0, k0⟩ := S.rep
 have old : ∀ a ∈ f0 ++ g0, ∃ o, H a = some o := fun a ha => (ahB.mp ha).elim (e0.there a) (r0.there a)
 have keep : ∀ a ∈ f0 ++ g0, H' a = H a := fun a ha => by
   obtain ⟨o, e⟩ := old a ha
   rw [e]; exact hh a o e
 have hp : (f0 ++ (fp ++ g0)).Perm (fp ++ (f0 ++ g0)) := by
   rw [← ahv, ← ahv]
   exact ahV.append_right g0
 have wn : ∀ a ∈ f0 ++ g0, W' a = none := fun a ha => by
   cases q : W' a with
   | none => rfl
   | some o =>
     obtain ⟨u, e⟩ := old a ha
     rw [new a o q (k0 a ha).1] at e; cases e
 refine ⟨⟨f0, fp ++ g0, e0.mono ww (fun a ha => keep a (ahy _ ha)), aD.app r (r0.mono ww fun a ha => keep a (ahu _ ha)), ?_, fun a ha => ?_⟩, S.bh.trans hh, S.zz.trans ww, wh, fun a o q z => ?_, tp, S.tab⟩
 . refine hp.nodup_iff.mpr (ah3.mpr ⟨nd, nd0, fun a ha c hc e => ?_⟩)
   subst e
   obtain ⟨o, q⟩ := old a hc
   rw [(own a ha).2] at q; cases q
 . rcases ahB.mp (hp.mem_iff.mp ha) with h | h
   . exact ⟨(own a h).1, Gv S.bh (own a h).2⟩
   . exact ⟨wn a h, (k0 a h).2⟩
 . cases q2 : Z a with
   | none => exact Gv S.bh (new a o q q2)
   | some u =>
     exact S.new a u q2 z
def SK : List T -> List T -> Prop
 | [], [] => True
 | .sh d :: l, .sh e :: m => d = e /\ SK l m
 | .pin x _ :: l, .pin z _ :: m => x = z /\ SK l m
 | _, _ => False
def Keeps (δ : Q.f) (ol : List T) : Prop := ∀ (j : Nat) (y : Addr) (t : T), ol[j]? = some (T.pin y t) -> δ[j]? = some (some (T.pin y t))
theorem Keeps.tail {o : Option T} {d : T} {ol : List T} (k : Keeps (o :: δ) (d :: ol)) : Keeps δ ol := fun j y t h => k (j + 1) y t h
theorem cF.outs {W W' : Hp} (ww : aB W W') : ∀ {al ol : List T} {vs : List V} {g0 : List Addr} {δ : Q.f} {σ : L2.St} {fp : List Addr}, SK al ol -> aD K CL H W al vs g0 -> cF K CL H' W' δ σ fp -> Keeps δ ol -> ∃ g, aD K CL H' W' ol vs g /\ g.Sublist fp
 | [], [], _, _, _, _, fp, _, .nil, _, _ => ⟨[], .nil, List.nil_sublist _⟩
 | .sh d :: al, .sh e :: ol, _, _, δ, σ, fp, ho, .cons (.sh r) rs, re, k => by
   obtain ⟨h1, h2⟩ := ho
   subst h1
   cases re with
   | nil =>
     obtain ⟨g, q, s⟩ := cF.outs ww h2 rs (.nil (H := H') (Z := W')) (fun j y t h => by have := k (j + 1) y t h; simp at this)
     exact ⟨[] ++ g, .cons (.sh (r.mono ww)) q, s⟩
   | skip re =>
     obtain ⟨g, q, s⟩ := cF.outs ww h2 rs re k.tail
     exact ⟨[] ++ g, .cons (.sh (r.mono ww)) q, s⟩
   | cons rt re =>
     obtain ⟨g, q, s⟩ := cF.outs ww h2 rs re k.tail
     exact ⟨[] ++ g, .cons (.sh (r.mono ww)) q, s.trans (aij _ _)⟩
 | .pin x t0 :: al, .pin z t :: ol, _, _, δ, σ, fp, ho, .cons (.pin r) rs, re, k => by
   obtain ⟨h1, h2⟩ := ho
   subst h1
   have h0 := k 0 x t rfl
   cases re with
   | nil => simp at h0
   | skip re => simp at h0
   | cons rt re =>
     simp at h0
     subst h0
     obtain ⟨g, q, s⟩ := cF.outs ww h2 rs re k.tail
     cases rt with
     | pin rt => exact ⟨_, .cons (.pin rt) q, ah2 (ah5 _) s⟩
def mY (N : List Str) (al : List T) : List (Option T) := al.map some ++ List.replicate (N.length - al.length) none
theorem wI : ∀ {al : List T} {vs : List V} {gp : List Addr} (n : Nat), aD K CL H Z al vs gp -> cF K CL H Z (al.map some ++ List.replicate n none) (vs.map some ++ List.replicate n none) gp
 | _, _, _, n, .nil => jn (ds := []) (vs := []) n .nil
 | _, _, _, n, .cons r t => .cons r (wI n t)
def F2 (K : Q.h) (CL : Q.e) {A : Type} (n : Nat) (arg : A -> List T) (Pre : A -> Prop) (res : A -> T) (out : A -> List T) : Sp := fun vs H Q _ =>
 ∃ (W : Hp) (a : A) (gp : List Addr), aB W (qb H gp) /\ (∀ c o, H c = some o -> jU o = true -> W c = some o) /\ aD K CL H W (arg a) vs gp /\ gp.Nodup /\ (arg a).length = n /\ Pre a /\ mW CL W ∧
   ∀ v H' W' fp, aB (qb H gp) H' -> aB W W' -> aB W' H' -> (∀ c o, W' c = some o -> W c = none -> qb H gp c = none) -> (∀ c o, H' c = some o -> jU o = true -> W' c = some o) →
     aD K CL H' W' (res a :: out a) (v :: vs) fp -> fp.Nodup -> (∀ c ∈ fp, W' c = none /\ qb H gp c = none) -> Q v H'
theorem qw {P : Program} {mg : Q.p} {base : Heap} {qual : Str} {f : Addr} {ps : List Str} {k : Nat} {A : Type} {arg : A -> List T} {Pre : A -> Prop} {res : A -> T} {out : A -> List T} (F : nG K x qual st f fd) (S : aP N ps (ak st)) (ho : ∀ a, Pre a -> SK (arg a) (out a))
   (hb : ∀ (gn : Value) (Ar : Around) (outer : List Env) (s : Shared) (H : Hp) (E : XK) (b : Bx) (a : A), c6 k (Ar.deeper (envOfC qual (ak st) s.heap.objs.size f gn)) -> Pre a →
     cH (ve lu P w K mg base N qual (ak st) f gn Ar outer s H E).Rw CL b (b9 st) (mY N (arg a)) { nx := fun δ => res a = .sh .non /\ Keeps δ (out a), rt := fun t δ => t = res a /\ Keeps δ (out a) }) :
   cJ P w K mg base lu (k + 1) f fd ps (F2 K CL ps.length arg Pre res out) := by
 refine F.ok S (fun vs H Q E h => ?_) (fun gn Ar outer s H vs Q E hr h => ?_)
 . obtain ⟨W, a, gp, _, _, r, _, hl, _⟩ := h
   rw [← r.length]; exact hl
 . obtain ⟨W, a, gp, wh, tp, r, nd, hl, hp, tb, kk⟩ := h
   have wn : ∀ c ∈ gp, W c = none := fun c hc => by
     cases q : W c with
     | none => rfl
     | some o => exact absurd hc (jr (wh c o q)).1
   refine ⟨_, IV, hb gn Ar outer s H E ⟨qb H gp, W⟩ a hr hp H W _ [] [] _ ⟨⟨gp, [], ?_, .nil, by rw [ahJ]; exact nd, fun c hc => ?_⟩, fun c o q => (jr q).2, .refl _, fun c o q => (jr (wh c o q)).2, fun c o q z => ?_, tp, tb⟩ ⟨fun δ' σ' H' Z' s' S' e => ?_, fun t v H' Z' δ' σ' s' S' e => ?_, fun _ _ _ _ _ _ e => e.elim, fun _ _ _ _ _ _ e => e.elim⟩⟩
   . unfold mY L2.start
     rw [← r.length]
     exact wI _ r
   . rw [ahJ] at hc
     exact ⟨wn c hc, oR hc⟩
   . have q' : W c = some o := q
     have z' : W c = none := z
     rw [q'] at z'; cases z'
   . obtain ⟨e1, e2⟩ := e
     obtain ⟨fp, gq, re, r', Ef, own⟩ := S'.rep
     obtain ⟨g, q, sb⟩ := cF.outs S'.zz (ho a hp) r re e2
     have nf := (ah3.mp Ef).1
     exact kk .non H' Z' ([] ++ g) S'.bh S'.zz S'.zh S'.new S'.tp (.cons (by rw [e1]; exact .sh .non) q) (nf.sublist sb) fun c hc => own c (ahy _ (sb.subset hc))
   . obtain ⟨e1, e2⟩ := e
     subst e1
     obtain ⟨fp, gq, re, r', Ef, own⟩ := S'.rep
     obtain ⟨g, q, sb⟩ := cF.outs S'.zz (ho a hp) r re e2
     cases r' with
     | @cons _ _ _ _ f1 f2 r1 r2 =>
       have sub : (g ++ f1).Sublist (fp ++ (f1 ++ f2)) := ah2 sb (List.sublist_append_left _ _)
       have pm : (f1 ++ g).Perm (g ++ f1) := ahV
       exact kk v H' Z' (f1 ++ g) S'.bh S'.zz S'.zh S'.new S'.tp (.cons r1 q) (pm.nodup_iff.mpr (Ef.sublist sub)) fun c hc => own c (sub.subset (pm.mem_iff.mp hc))
def AtS (σ : L2.St) : List Nat -> List Addr -> Prop
 | [], [] => True
 | i :: is, y :: ys => σ[i]? = some (some (.ref y)) /\ AtS σ is ys
 | _, _ => False
def kH : List T -> List Addr -> List T -> Prop
 | [], [], [] => True
 | .sh _ :: ol, ys, ns => kH ol ys ns
 | .pin y t :: ol, z :: ys, n :: ns => y = z /\ (n = t \/ n = .pin y t) /\ kH ol ys ns
 | _, _, _ => False
def GP : List (Option T) -> List Nat -> List T -> List (Option T)
 | δ, i :: is, n :: ns => GP (δ.set i (some n)) is ns
 | δ, _, _ => δ
theorem aL.SM : ∀ {ol : List T} {us : List V} {is : List Nat} {ys : List Addr} {ns : List T} {δ : Q.f}, aL K CL b H Z δ σ (ol ++ ts) (us ++ vs) -> ol.length = us.length -> AtS σ is ys -> kH ol ys ns -> (∀ i ∈ is, i < δ.length) -> aL K CL b H Z (GP δ is ns) σ ts vs
 | [], [], [], [], [], δ, S, _, _, _, _ => S
 | [], [], _ :: _, [], _, δ, S, _, ha, _, _ => ha.elim
 | [], [], _ :: _, _ :: _, _, δ, S, _, _, hp, _ => by simp [kH] at hp
 | .pin _ _ :: _, _ :: _, [], _ :: _, _, δ, S, _, ha, _, _ => ha.elim
 | .pin _ _ :: _, _ :: _, [], [], _, δ, S, _, _, hp, _ => by simp [kH] at hp
 | .sh d :: ol, u :: us, is, ys, ns, δ, S, hl, ha, hp, hi => aL.SM (ol := ol) (us := us) (ys := ys) S.pop (by simpa using hl) ha (by rw [kH] at hp; exact hp) hi
 | .pin y t :: ol, u :: us, i :: is, z :: ys, n :: ns, δ, S, hl, ha, hp, hi => by
   rw [kH] at hp
   obtain ⟨rfl, hn, hp⟩ := hp
   obtain ⟨ha0, ha⟩ := ha
   have hu : u = .ref y := by
     obtain ⟨_, _, _, r, _, _⟩ := S.rep
     cases r with
     | cons r _ => cases r; rfl
   subst hu
   have hi0 := hi i ahw
   have S1 := S.set hi0
   rw [cK ha0] at S1
   have S2 : aL K CL b H Z (δ.set i (some n)) σ (ol ++ ts) (us ++ vs) := by
     rcases hn with rfl | rfl
     . have := (S1.aa7 (aji hi0)).2
       rwa [List.set_set] at this
     . exact S1
   rw [GP]
   exact aL.SM S2 (by simpa using hl) ha hp fun j hj => by rw [List.length_set]; exact hi j (List.mem_cons_of_mem _ hj)
section
variable {D : c9} {is : List Nat} {fx : List Addr -> Prop} {al : List Addr -> List T}
def iB (X : Cx) (CL : Q.e) (b : Bx) (e : Expr) (δ : Q.f) (t : T) (δ' : Q.f) : Prop :=
 ∀ (H Z : Hp) (σ : L2.St) (ts : List T) (vs : List V) (Q : VK), aL X.K CL b H Z δ σ ts vs -> (∀ v H' Z', aB Z Z' -> aL X.K CL b H' Z' δ' σ (t :: ts) (v :: vs) -> Q v H') -> pZ X e σ H Q
theorem bS.m (h : bS X CL b e δ t δ1) : iB X CL b e δ t δ1 := fun H Z σ ts vs Q S k => h H Z σ ts vs Q S fun v H' Z' z _ S' => k v H' Z' z S'
theorem SN (h : iB X CL b e δ t δ1) (k : D.rt t δ1) : Ks X CL b (.Return (some e) pos) δ D := fun H Z σ ts vs E S M => kL (MD c7) (h H Z σ ts vs _ S fun v H1 Z1 z1 S1 => M.rt t v H1 Z1 δ1 σ z1 S1 k)
theorem N8 (h : iB X CL b e δ t δ1) (k : D.nx δ1) (hs : swapsWith e none pos.line X.env = pure false := by rfl) : Ks X CL b (.Expr e pos) δ D := fun H Z σ ts vs E S M => kL (oE c7 hs) (h H Z σ ts vs _ S fun v H1 Z1 z1 S1 => M.nx δ1 σ H1 Z1 z1 S1.pop k)
theorem SQ (i : Nat) (h : iB X CL b e δ t δ1) (k : D.nx (δ1.set i (some t))) (hl : i < δ1.length := by decide) (hN : X.N.Nodup := by assumption) (hi : X.N[i]? = some x := by rfl) (hx : Loc X.env.scope x := by first | exact .inl rfl | exact .inr rfl)
   (hs : swapsWith e (some (.Name x pos')) pos.line X.env = pure false := by rfl) (hf : X.fn x = true \/ X.env.scope.names.lookup x = some .local := by first | exact .inl rfl | exact .inr rfl | assumption) : Ks X CL b (.Assign [.Name x pos'] e pos) δ D := fun H Z σ ts vs E S M =>
 kL (MH hN hi hx c7 hs hf) (h H Z σ ts vs _ S fun v H1 Z1 z1 S1 => M.nx _ _ H1 Z1 z1 (S1.set hl) k)
def KN (X : Cx) (CL : Q.e) (b : Bx) (es : List Expr) (δ : Q.f) (is : List Nat) (fx : List Addr -> Prop) (al : List Addr -> List T) (δ' : Q.f) : Prop :=
 ∀ (H Z : Hp) (σ : L2.St) (ts : List T) (vs : List V) (Q : List V -> Hp -> Prop), aL X.K CL b H Z δ σ ts vs →
   (∀ ys us H' Z', ys.length = is.length -> AtS σ is ys -> fx ys -> us.length = (al ys).length -> aB Z Z' -> aB H H' -> aL X.K CL b H' Z' δ' σ ((al ys).reverse ++ ts) (us.reverse ++ vs) -> Q us H') -> Ko X es σ H Q
theorem cV : KN X CL b [] δ [] (fun _ => True) (fun _ => []) δ := fun H Z σ ts vs Q S k => Cq dF (k [] [] H Z rfl trivial trivial rfl (.refl _) (.refl _) S)
theorem dI (h1 : bS X CL b e δ (.sh d) δ1) (h2 : KN X CL b es δ1 is fx al δ2) (hs : Q.r := by exact aV rfl) : KN X CL b (e :: es) δ is fx (fun ys => .sh d :: al ys) δ2 := fun H Z σ ts vs Q S k =>
 Cq (bI c7 Cp hs) (h1 H Z σ ts vs _ S fun v H1 Z1 z1 k1 S1 => h2 H1 Z1 σ _ _ _ S1 fun ys us H2 Z2 hy ha hf hl z2 k2 S2 => k ys (v :: us) H2 Z2 hy ha hf (by simp [hl]) (z1.trans z2) (k1.trans k2) (by
   rw [aib, aib, ahv, ahv]
   exact S2))
def T.isRef : T -> Bool
 | .lst _ => true
 | .ins _ _ => true
 | .q8 _ => true
 | .dct _ => true
 | _ => false
theorem aL.N9 (S : aL K CL b H Z δ σ (t :: ts) (v :: vs)) (h : t.isRef = true) : ∃ y, v = .ref y /\ aL K CL b H Z δ σ (.pin y t :: ts) (.ref y :: vs) := by
 obtain ⟨fp, gp, e, r, nd, k⟩ := S.rep
 cases r with
 | cons r rs =>
   cases r with
   | sh r => cases h
   | tup r _ => cases h
   | pin r => cases h
   | lst r q => exact ⟨_, rfl, ⟨⟨fp, _, e, .cons (.pin (.lst r q)) rs, nd, k⟩, S.bh, S.zz, S.zh, S.new, S.tp, S.tab⟩⟩
   | ins r q => exact ⟨_, rfl, ⟨⟨fp, _, e, .cons (.pin (.ins r q)) rs, nd, k⟩, S.bh, S.zz, S.zh, S.new, S.tp, S.tab⟩⟩
   | q8 r q => exact ⟨_, rfl, ⟨⟨fp, _, e, .cons (.pin (.q8 r q)) rs, nd, k⟩, S.bh, S.zz, S.zh, S.new, S.tp, S.tab⟩⟩
   | dct r q => exact ⟨_, rfl, ⟨⟨fp, _, e, .cons (.pin (.dct r q)) rs, nd, k⟩, S.bh, S.zz, S.zh, S.new, S.tp, S.tab⟩⟩
theorem pS (n : Vn X i x) (h : δ[i]? = some (some t)) (ho : t.isRef = true) (h2 : KN X CL b es (δ.set i none) is fx al δ2) (hs : starEach (.Name x pos :: es) X.env = (false, eval (.Name x pos) X.env) :: starEach es X.env := by exact aV rfl) :
   KN X CL b (.Name x pos :: es) δ (i :: is) (fun ys => fx ys.tail) (fun ys => .pin (ys.headD 0) t :: al ys.tail) δ2 := fun H Z σ ts vs Q S k => by
 obtain ⟨v, e, S1⟩ := S.move h
 obtain ⟨y, rfl, S0⟩ := S1.N9 ho
 exact Cq (bI (eB n.hi n.hv n.hd n.j3) Cp hs) ⟨_, e, h2 H Z σ _ _ _ S0 fun ys us H2 Z2 hy ha hf hl z2 k2 S2 => k (y :: ys) (.ref y :: us) H2 Z2 (by simp [hy]) ⟨e, ha⟩ hf (by simp [hl]) z2 k2 (by
   show aL _ _ _ _ _ _ _ ((T.pin y t :: al ys).reverse ++ ts) _
   rw [aib, aib, ahv, ahv]
   exact S2)⟩
theorem mC (n : Vn X i x) (h : δ[i]? = some (some (.pin y t))) (h2 : KN X CL b es (δ.set i none) is fx al δ2) (hs : starEach (.Name x pos :: es) X.env = (false, eval (.Name x pos) X.env) :: starEach es X.env := by exact aV rfl) :
   KN X CL b (.Name x pos :: es) δ (i :: is) (fun ys => ys.headD 0 = y /\ fx ys.tail) (fun ys => .pin y t :: al ys.tail) δ2 := fun H Z σ ts vs Q S k => by
 obtain ⟨v, e, S1⟩ := S.move h
 have hv : v = .ref y := by
   obtain ⟨_, _, _, r, _, _⟩ := S1.rep
   cases r with
   | cons r _ => cases r; rfl
 subst hv
 exact Cq (bI (eB n.hi n.hv n.hd n.j3) Cp hs) ⟨_, e, h2 H Z σ _ _ _ S1 fun ys us H2 Z2 hy ha hf hl z2 k2 S2 => k (y :: ys) (.ref y :: us) H2 Z2 (by simp [hy]) ⟨e, ha⟩ ⟨rfl, hf⟩ (by simp [hl]) z2 k2 (by
   show aL _ _ _ _ _ _ _ ((T.pin y t :: al ys).reverse ++ ts) _
   rw [aib, aib, ahv, ahv]
   exact S2)⟩
theorem Oa {A : Type} {k : Nat} {f : Addr} {ps : List Str} {arg : A -> List T} {Pre : A -> Prop} {res : A -> T} {out : A -> List T} (a : List Addr -> A) (ns : List T) (F : cJ X.prog X.w X.K X.mg X.base lu k f fd ps (F2 X.K CL n arg Pre res out)) (hr : c6 k X.A) (hm : X.mg x = some (.ref f)) (hk : PySem.W.keepIn X.K (.ref f) = true) (hb : Binds X.K fd ps [])
   (h : KN X CL b (e :: es) δ is fx al δ1) (ha : ∀ ys, ys.length = is.length -> fx ys -> arg (a ys) = al ys /\ (arg (a ys)).length = n /\ Pre (a ys) /\ res (a ys) = t /\ kH (out (a ys)) ys ns) (rY : ∀ i ∈ is, i < δ1.length) (hg : Gl X x)
   (qg : Q.m := by decide) (he : Q.r := by exact aV rfl) (hpl : Q.w := by rfl) :
   iB X CL b (.Call (.Name x pp) (e :: es) [] pos) δ t (GP δ1 is ns) := fun H Z σ ts vs Q S kk =>
 bZ (Ce F hr hg hm hk hb .nil qh Cp qg he hpl) (h H Z σ ts vs _ S fun ys us H1 Z1 hly GQ hf SR z1 k1 S1 => by
   rw [ahJ]
   obtain ⟨Sg, SG, hp, hrs, hpu⟩ := ha ys hly hf
   obtain ⟨g, r, nd, S2⟩ := S1.cut (by simp [SR])
   obtain ⟨g', r', pm⟩ := r.rev
   have ec : qb H1 g = qb H1 g' := funext fun c => by
     by_cases hc : c ∈ g
     . rw [oR hc, oR (pm.mem_iff.mpr hc)]
     . rw [gQ hc, gQ (fun z => hc (pm.mem_iff.mp z))]
   rw [ec] at S2
   rw [← Sg] at r'
   refine ⟨Z1, a ys, g', S2.zh, S1.tp, r', pm.nodup_iff.mpr nd, SG, hp, S1.Gu, fun v H' W' fp hh ww wh nw tp rt Ef own => ?_⟩
   cases rt with
   | @cons _ _ _ _ f1 f2 q1 q2 =>
     have Jb : (f2 ++ (f1 ++ [])).Perm (f1 ++ f2) := by rw [ahJ]; exact ahV
     have S3 := S2.N7 hh ww wh nw tp (aD.app q2 (.cons q1 .nil)) (Jb.nodup_iff.mpr Ef) fun c hc => own c (Jb.mem_iff.mp hc)
     rw [ahv, ahv] at S3
     have S4 := S3.SM q2.length GQ hpu rY
     rw [hrs] at S4
     exact kk v H' W' (z1.trans ww) S4)
structure GR (X : Cx) (CL : Q.e) (x : Str) (k n : Nat) {A : Type} (arg : A -> List T) (Pre : A -> Prop) (res : A -> T) (out : A -> List T) : Prop where
 ex : ∃ f fd ps, cJ X.prog X.w X.K X.mg X.base lu k f fd ps (F2 X.K CL n arg Pre res out) /\ X.mg x = some (.ref f) /\ PySem.W.keepIn X.K (.ref f) = true /\ Binds X.K fd ps []
 room : c6 k X.A
theorem KP {A : Type} {k : Nat} {arg : A -> List T} {Pre : A -> Prop} {res : A -> T} {out : A -> List T} (a : Addr -> A) (nt : T) (F : GR X CL x k n arg Pre res out) (hg : Gl X x) (h : KN X CL b (e :: es) δ [i] fx al δ1) (hp : ∀ y, fx [y] -> Pre (a y)) (yG : ∀ y, fx [y] -> res (a y) = t) (CJ : ∀ y, fx [y] -> kH (out (a y)) [y] [nt])
   (wW : ∀ y, fx [y] -> arg (a y) = al [y] := by intros; rfl) (hlen : ∀ y, (arg (a y)).length = n := by intros; rfl) (rY : i < δ1.length := by exact ahA rfl)
   (qg : Q.m := by decide) (he : Q.r := by exact aV rfl) (hpl : Q.w := by rfl) :
   iB X CL b (.Call (.Name x pp) (e :: es) [] pos) δ t (δ1.set i (some nt)) := by
 obtain ⟨⟨f, fd, ps, G, m, q, bd⟩, r⟩ := F
 exact Oa (fun ys => a (ys.headD 0)) [nt] G r m q bd h (fun ys hl hf => match ys, hl, hf with | [y], _, hf => ⟨wW y hf, hlen y, hp y hf, yG y hf, CJ y hf⟩) (fun j hj => by cases ail.mp hj; exact rY) hg qg he hpl
theorem gM (g : Gx X) (n : Ln X i x) (h : iB X CL b e δ t δ1) (k : cH X CL b dm (δ1.set i (some t)) D) (hl : i < δ1.length := by exact ahA rfl) (hs : swapsWith e (some (.Name x pos')) pos.line X.env = pure false := by rfl) :
   cH X CL b (.Assign [.Name x pos'] e pos :: dm) δ D := aY (SQ i h k hl g.nd n.hi n.loc hs n.hf)
theorem sU (h : iB X CL b e δ t δ1) (k : D.rt t δ1) : cH X CL b (.Return (some e) pos :: dm) δ D := aY (SN h k)
theorem xE (h : iB X CL b e δ t δ1) (k : cH X CL b dm δ1 D) (hs : swapsWith e none pos.line X.env = pure false := by rfl) : cH X CL b (.Expr e pos :: dm) δ D := aY (N8 h k hs)
end
theorem Ob (h : eF X CL b e δ (.lst ds) δ1) (he : ∀ whole, isTrue e X.env whole = (do let v ← whole; standAt e.pos; holding [v] (truthy v)) := by intro _; rfl) : vg X CL b e δ (!ds.isEmpty) δ1 := fun H Z σ ts vs Q S k =>
 EA (MT c7 he) (h H Z σ ts vs _ S fun v H1 Z1 z1 k1 S1 r => by
   cases r with
   | @lst a us _ hq rr =>
     refine ⟨_, .inl ⟨us, hq, rfl⟩, ?_⟩
     have e : us.isEmpty = ds.isEmpty := by
       have := rr.length
       cases us <;> cases ds <;> simp at this ⊢
     rw [e]
     exact k H1 Z1 z1 k1 S1)
def Jj (ks : List Key) : D := .tup (ks.map KH)
def pT (ks : List Key) : T := .tup ((ks.map KH).map T.sh)
def kO (kvs : List (List Key × α)) (k : List Key) : Option α := (kvs.find? fun kv => decide (kv.1 = k)).map (·.2)
theorem nQ {p : List Key × α} {r : List (List Key × α)} {k : List Key} (e : p.1 = k) : kO (p :: r) k = some p.2 := by simp [kO, aiR, e]
theorem nR {p : List Key × α} {r : List (List Key × α)} {k : List Key} (e : ¬ p.1 = k) : kO (p :: r) k = kO r k := by simp [kO, aiR, e]
theorem Gr.tr {b : Addr} {kvs : List (List Key × V)} {k : List Key} (e : Rd H a (.dT kvs)) (eb : H b = some (.tup (k.map kV))) : Gr H a (.ref b) (ly kvs k) := .inr ⟨kvs, k, b, e, rfl, eb, rfl⟩
variable {d : D}
theorem KQ {ks : List Key} (r : aD K CL H Z ((ks.map KH).map T.sh) us fp) : us = ks.map kV := by
 induction ks generalizing us fp with
 | nil => cases r; rfl
 | cons k ks ih =>
   rw [ahO, ahO] at r
   cases r with
   | cons r rr =>
     cases r with
     | sh r => rw [r.key, ih rr, ahO]
theorem cD.length {kvs : List (List Key × D)} {gs : List (List Key × V)} (h : cD K CL Z kvs gs) : kvs.length = gs.length :=
 cD.ind (P := fun kvs gs => kvs.length = gs.length) rfl (fun _ _ i => congrArg (· + 1) i) h
theorem cD.keys {kvs : List (List Key × D)} {gs : List (List Key × V)} (h : cD K CL Z kvs gs) : kvs.map (·.1) = gs.map (·.1) :=
 cD.ind (P := fun kvs gs => kvs.map (·.1) = gs.map (·.1)) rfl (fun {x _ _ _ _} _ _ i => congrArg (x :: ·) i) h
theorem cD.val {k : List Key} {kvs : List (List Key × D)} {gs : List (List Key × V)} (h : cD K CL Z kvs gs) : (kO kvs k = none /\ ly gs k = none) \/ ∃ d v, kO kvs k = some d /\ ly gs k = some v /\ bf K CL Z d v :=
 cD.ind (P := fun kvs gs => (kO kvs k = none /\ ly gs k = none) \/ ∃ d v, kO kvs k = some d /\ ly gs k = some v /\ bf K CL Z d v) (.inl ⟨rfl, rfl⟩) (fun {x d v _ _} r _ i => by
   by_cases e : x = k
   . exact .inr ⟨d, v, nQ e, qi e, r⟩
   . rw [nR (p := (x, d)) e, qj (p := (x, v)) e]
     exact i) h
theorem ck.length {kvs : List (List Key × T)} {gs : List (List Key × V)} (h : ck K CL H Z kvs gs fp) : kvs.length = gs.length :=
 ck.ind (P := fun kvs gs _ => kvs.length = gs.length) rfl (fun _ _ i => congrArg (· + 1) i) h
theorem ck.keys {kvs : List (List Key × T)} {gs : List (List Key × V)} (h : ck K CL H Z kvs gs fp) : kvs.map (·.1) = gs.map (·.1) :=
 ck.ind (P := fun kvs gs _ => kvs.map (·.1) = gs.map (·.1)) rfl (fun {x _ _ _ _ _ _} _ _ i => congrArg (x :: ·) i) h
theorem ck.snoc {k : List Key} {kvs : List (List Key × T)} {gs : List (List Key × V)} {ft : List Addr} (h : ck K CL H Z kvs gs fp) (q : aU K CL H Z t v ft) : ck K CL H Z (kvs ++ [(k, t)]) (gs ++ [(k, v)]) (fp ++ (ft ++ [])) :=
 ck.ind (P := fun kvs gs fp => ck K CL H Z (kvs ++ [(k, t)]) (gs ++ [(k, v)]) (fp ++ (ft ++ []))) (by rw [ajf, ajf, ajf]; exact .cons q .nil) (fun r _ i => by
   rw [ahv]
   exact .cons r i) h
theorem aL.XF {p : Addr} (S : Q.q) (hp : H p = none) : aB H (upd H p (.dT [])) /\ aL K CL b (upd H p (.dT [])) Z δ σ (.dct [] :: ts) (.ref p :: vs) := by
 obtain ⟨fp, gp, e, r, nd, k⟩ := S.rep
 have zp : Z p = none := S.zh.free hp
 have sh : aB H (upd H p (.dT [])) := aB.upd hp
 have keep : ∀ a ∈ fp ++ gp, a ≠ p := fun a ha => by
   have : ∃ o, H a = some o := by
     rcases ahB.mp ha with h | h
     . exact e.there a h
     . exact r.there a h
   obtain ⟨o, q⟩ := this
   exact bC q hp
 refine ⟨sh, ⟨⟨fp, [p] ++ gp, e.mono (.refl _) (fun a ha => aj (keep a (ahy _ ha))), .cons (.dct aC .nil) (r.mono (.refl _) fun a ha => aj (keep a (by simp [ha]))), ?_, fun a ha => ?_⟩, S.bh.trans sh, S.zz, S.zh.trans sh, S.new, fun a o q i => ?_, S.tab⟩⟩
 . refine (aiE (l₁ := fp) (l₂ := gp) (a := p)).nodup_iff.mpr (aia.mpr ⟨fun h => keep p h rfl, nd⟩)
 . rcases ahH.mp ((aiE (l₁ := fp) (l₂ := gp) (a := p)).mem_iff.mp ha) with h | h
   . subst h; exact ⟨zp, S.bh.free hp⟩
   . exact k a h
 . by_cases ha : a = p
   . subst ha; rw [aC] at q; cases q; cases i
   . rw [aj ha] at q; exact S.tp a o q i
theorem aL.CK {ks : List Key} (S : aL K CL b H Z δ σ (pT ks :: ts) (v :: vs)) : ∃ a, v = .ref a /\ H a = some (.tup (ks.map kV)) := by
 obtain ⟨fp, gp, e, r, nd, k⟩ := S.rep
 cases r with
 | cons r _ =>
   cases r with
   | tup hz rr => exact ⟨_, rfl, by rw [← KQ rr]; exact S.zh _ _ hz⟩
theorem aL.XG {k : List Key} {kvs : List (List Key × T)} (S : aL K CL b H Z δ σ (t :: ts) (v :: vs)) (hi : δ[i]? = some (some (.dct kvs))) (hk : k ∉ kvs.map (·.1)) :
   ∃ a gs, σ[i]? = some (some (.ref a)) /\ H a = some (.dT gs) /\ gs.length = kvs.length /\ aL K CL b (upd H a (.dT (putK gs k v))) Z (δ.set i (some (.dct (kvs ++ [(k, t)])))) σ ts vs := by
 obtain ⟨fp, gp, e, r, nd, kk⟩ := S.rep
 obtain ⟨v0, f1, f2, f3, hv, kM, rt, put, _⟩ := e.get hi
 subst kM
 cases rt with
 | @dct a gs _ g ha rs =>
   cases r with
   | @cons _ _ _ _ ft gr q1 q2 =>
     have ne : ∀ c ∈ (f1 ++ (g ++ f3)) ++ (ft ++ gr), c ≠ a := fun c hc e => by
       subst e
       have hp : ((f1 ++ ((c :: g) ++ f3)) ++ (ft ++ gr)).Perm (c :: ((f1 ++ (g ++ f3)) ++ (ft ++ gr))) := by
         rw [ahT, ← ahT]
         exact (aiE.append_right _)
       exact (aia.mp (hp.nodup_iff.mp nd)).1 hc
     have eg : putK gs k v = gs ++ [(k, v)] := by
       unfold putK
       rw [tX, ahC]
       rcases hx : ly gs k with _ | z
       . exact ahI
       . exfalso
         refine hk ?_
         rw [rs.keys]
         unfold ly at hx
         cases hf : gs.find? fun kv => decide (kv.1 = k) with
         | none => rw [hf] at hx; cases hx
         | some q =>
           have h1 := List.find?_some hf
           have h2 := ai6 hf
           have : q.1 = k := ahX h1
           rw [← this]
           exact List.mem_map_of_mem h2
     refine ⟨a, gs, hv, ha, rs.length.symm, ?_⟩
     rw [eg]
     have r1 : aU K CL (upd H a (.dT (gs ++ [(k, v)]))) Z (.dct (kvs ++ [(k, t)])) (.ref a) (a :: (g ++ (ft ++ []))) :=
       .dct aC (ck.snoc (rs.mono (.refl _) fun c hc => aj Q.n) (q1.mono (.refl _) fun c hc => aj Q.n))
     have e2 := put (H' := upd H a (.dT (gs ++ [(k, v)]))) (.refl _) (fun c hc => aj (ne c (by
       rcases ahB.mp hc with h | h
       . simp [h]
       . simp [h]))) r1
     rw [cK hv] at e2
     have hp : ((f1 ++ ((a :: (g ++ (ft ++ []))) ++ f3)) ++ gr).Perm ((f1 ++ ((a :: g) ++ f3)) ++ (ft ++ gr)) := by
       simp only [ahJ, ahT, ahv]
       refine ah6 f1 (List.Perm.cons a (ah6 g ?_))
       rw [← ahv, ← ahv]
       exact ahV.append_right gr
     exact S.CD rfl kk (by simp) e2 (q2.mono (.refl _) fun c hc => aj Q.n) (hp.nodup_iff.mpr nd) fun c hc => hp.mem_iff.mp hc
variable {d : L3.D} {kvs : List (List Key × L3.D)} {k : List Key}
theorem EX : bS X CL b (.Dict [] [] pos) δ (.dct []) δ := fun H Z σ ts vs Q S kk => bZ Nr fun p hp => by
 obtain ⟨c, S1⟩ := S.XF hp
 exact kk _ _ Z (.refl _) c S1
theorem SV {kvs : List (List Key × T)} (k : List Key) (hu : X.A.units + 64 < cLine) (n : Vn X i x) (h : bS X CL b e δ t δ1) (h2 : bS X CL b e2 δ1 (pT k) δ1) (h1 : δ1[i]? = some (some (.dct kvs))) (hk : k ∉ kvs.map (·.1)) (hl : kvs.length <= 1000000) (kk : cH X CL b dm (δ1.set i (some (.dct (kvs ++ [(k, t)])))) DD)
   (hs : swapsWith e (some (.Subscript (.Name x pp) e2 ps)) pos.line X.env = pure false := by rfl) :
   cH X CL b (.Assign [.Subscript (.Name x pp) e2 ps] e pos :: dm) δ DD := aY fun H Z σ ts vs E S M =>
 kL (IU Q.c (eB n.hi n.hv n.hd n.j3) c7 c7 hs) (h H Z σ ts vs _ S fun v H1 Z1 z1 k1 S1 => by
   obtain ⟨v0, e0, _⟩ := S1.look h1
   refine ⟨v0, e0, h2 H1 Z1 σ _ _ _ S1 fun v2 H2 Z2 z2 k2 S2 => ?_⟩
   obtain ⟨kb, rfl, hb⟩ := S2.CK
   obtain ⟨a, gs, ea, ha, hg, S3⟩ := S2.pop.XG h1 hk
   rw [e0] at ea
   cases ea
   exact ⟨a, _, rfl, Kl.t ha hb (by rw [hg]; exact aiD hl (by rw [aix]; decide)), M.nx _ σ _ Z2 (z1.trans z2) S3 kk⟩)
theorem Oc (k : List Key) (hu : X.A.units + 64 < cLine) (h1 : eF X CL b e1 δ (.dct kvs) δ1) (h2 : bS X CL b e2 δ1 (pT k) δ2) (hk : kO kvs k = some d) (hs : RW e2 := by exact fun _ _ => rfl) : eF X CL b (.Subscript e1 e2 pos) δ d δ2 := fun H Z σ ts vs Q S kk =>
 bZ (IQ Q.c c7 c7 hs) (h1 H Z σ ts vs _ S fun v H1 Z1 z1 k1 S1 r1 => h2 H1 Z1 σ ts vs _ S1 fun v2 H2 Z2 z2 k2 S2 => by
   obtain ⟨kb, rfl, hb⟩ := S2.CK
   cases r1 with
   | @dct a gs _ ha rr =>
     have rr' := rr.mono k2
     rcases rr'.val (k := k) with ⟨h0, _⟩ | ⟨d', v', h0, hv, rd⟩
     . rw [hk] at h0; cases h0
     . rw [hk] at h0; cases h0
       refine ⟨a, v', rfl, ?_, kk v' H2 Z2 (z1.trans z2) (k1.trans k2) S2.pop rd⟩
       rw [← hv]
       exact Gr.tr (Rd.mono k2 ha) hb)
theorem Od (k : List Key) (hu : X.A.units + 64 < cLine) (h1 : bS X CL b e1 δ (.sh (.dct kvs)) δ1) (h2 : bS X CL b e2 δ1 (pT k) δ2) (hk : kO kvs k = some d) (hs : RW e2 := by exact fun _ _ => rfl) : bS X CL b (.Subscript e1 e2 pos) δ (.sh d) δ2 := fun H Z σ ts vs Q S kk =>
 bZ (IQ Q.c c7 c7 hs) (h1 H Z σ ts vs _ S fun v H1 Z1 z1 k1 S1 => h2 H1 Z1 σ _ _ _ S1 fun v2 H2 Z2 z2 k2 S2 => by
   obtain ⟨kb, rfl, hb⟩ := S2.CK
   have r := S2.pop.N5
   cases r with
   | @dct a gs _ ha rr =>
     rcases rr.val (k := k) with ⟨h0, _⟩ | ⟨d', v', h0, hv, rd⟩
     . rw [hk] at h0; cases h0
     . rw [hk] at h0; cases h0
       refine ⟨a, v', rfl, ?_, kk v' H2 Z2 (z1.trans z2) (k1.trans k2) (S2.pop.pop.push rd)⟩
       rw [← hv]
       exact Gr.tr (Rd.mono S2.zh ha) hb)
theorem Oe : u9 X (binaryOp .FloorDiv) (rI (fun _ j => 0 < j /\ j.natAbs.log2 < 9000) fun i j => .int (i / j)) := opI fun i j _ _ _ _ _ hc q => by
 have h1 : (0 : Int) < j := hc.1
 exact floordiv_int Q.c (by rw [Int.fdiv_eq_ediv_of_nonneg i Q.c]; exact q) (.inl (PyProof.noPylong_of_log2 hc.2))
theorem Og {i j : Int} (h1 : eF X CL b e1 δ (.int i) δ1) (h2 : eF X CL b e2 δ1 (.int j) δ2) (c : 0 < j /\ j.natAbs.log2 < 9000) : bS X CL b (.BinOp e1 .FloorDiv e2 pos) δ (.sh (.int (i / j))) δ2 := qk Oe h1 h2 rfl rfl rfl fun _ _ q => ⟨i, j, rfl, rfl, c, q⟩
theorem yH {H Z : Hp} : ∀ {tl : List T} {us : List V} {g : List Addr}, aD K CL H Z (tl ++ [t]) us g -> ∃ Mv u g1 g2, us = Mv ++ [u] /\ g = g1 ++ g2 /\ aD K CL H Z tl Mv g1 /\ aU K CL H Z t u g2
 | [], _, _, .cons (v := v) (fp := fp) r .nil => ⟨[], v, [], fp, rfl, ahJ _, .nil, r⟩
 | _ :: _, _, _, .cons (v := v) (fp := fp) r rr => by
   obtain ⟨Mv, u, g1, g2, e1, e2, r1, r2⟩ := yH rr
   subst e1 e2
   exact ⟨v :: Mv, u, fp ++ g1, g2, rfl, (ahv ..).symm, .cons r r1, r2⟩
section
variable {D : c9}
theorem VL (h : δ[i]? = some (some t)) (q : t.aZ = d) (k : cH X CL b dm (δ.set i (some (.sh d))) D) : cH X CL b dm δ D := fun H Z σ ts vs E S M => by
 subst q
 obtain ⟨v, Z', _, z, S'⟩ := S.RZ h
 exact k H Z' σ ts vs E S'.pop (M.mono z)
end
end L3
namespace L2
open PySem PySem.Spec PyProof.Rows
abbrev CM : List Value := [.type "ValueError", .type "Exception", .type "BaseException", .type "object"]
def fV (fr : List Env) (h h' : Heap) : Prop := ∀ b ∈ qW fr, ∀ o, h.get? b = some o -> ∃ sl, h'.get? b = some { o with slots := sl }
def Zy (P : Program) (w : World) : J9 := fun outer H s E ev s' => ∃ (e C : Addr) (a0 : Value) (B : Heap) (H' : Hp), ev = .ref e /\ s'.os = s.os /\ AllBare s'.gens /\ Heap.FlyingW B outer e (.ref C) a0 s'.heap /\ qV P w H' B ∧
 (∀ h, B.StaysIn h -> fV outer s.heap h -> Un (qW outer) [] H H' s.heap h) /\ fV outer s.heap s'.heap /\ E (.ref C) none H'
def XE (X : Cx) (W : XK) : Value -> Shared -> Prop := fun ev s' => ∃ (e C : Addr) (pins : Q.i) (σ : St) (H : Hp) (s : Shared), ev = .ref e /\ Inv X pins σ H s /\ W (.ref C) none H /\ s'.os = s.os /\ AllBare s'.gens ∧
 (Heap.MadeExcOf s.heap s'.heap e (.ref C) [] \/ ∃ a0, Heap.HeldW (PySem.W.hideAll s.heap (qW X.stack)) X.stack e (.ref C) a0 X.env.locals s'.heap /\ fV X.stack s.heap s'.heap)
section
variable {X : Cx} {pins : Q.i} {σ : St} {H : Hp} {s : Shared}
theorem fV.up {fr : List Env} {h h1 h2 base : Heap} (a : fV fr h h1) (f : h1.FunFrames base fr) (u : h1.UpToSlots h2) : fV fr h h2 := fun b hb o ho => by
 obtain ⟨sl, e⟩ := a b hb o ho
 obtain ⟨_, o', Mt, hd⟩ := f.mem hb
 rw [e] at Mt
 cases Mt
 obtain ⟨sl2, e2⟩ := u b _ e hd
 exact ⟨sl2, e2⟩
theorem Inv.Oh (I : Q.g) : qV X.prog X.w H (PySem.W.hideAll s.heap (qW X.stack)) := fun a o e => by
 refine (I.bY a o e).x9 (fun b u hb q => ajx _ q fun hm => ?_) (fun b q => q) (fun b xs q => q)
 have hn := I.xA b hm
 rcases hb with rfl | hb
 . rw [e] at hn; cases hn
 . rw [hb] at hn; cases hn
theorem Inv.Oi (I : Q.g) : s.heap.FunFrames (PySem.W.hideAll s.heap (qW X.stack)) X.stack := PySem.W.funFrames_hide I.stack fun env he a ha => ajD.mpr ⟨env, he, ha⟩
theorem Inv.Oj (I : Q.g) (kG : X.stack = X.env :: X.outer) (Ed : X.env.frame = some X.env.locals) (hex : X.ex = []) (h : Heap) (st : (PySem.W.hideAll s.heap (qW X.stack)).StaysIn h) (fr : fV X.outer X.s₀.heap h) : Un (qW X.outer) [] X.H₀ H X.s₀.heap h := by
 have u := I.base
 rw [hex] at u
 have out : ∀ b o, X.s₀.heap.get? b = some o -> b ∉ qW X.outer -> b ∉ qW X.stack := fun b o hb hn hm => by
   rw [kG] at hm
   unfold qW at hm
   rw [ah9, Ed] at hm
   rcases ahH.mp hm with z | z
   . have h1 := ahR hb
     have h2 := I.ok.above
     rw [← z] at h2
     exact absurd h1 (Nat.not_lt.mpr h2)
   . exact hn z
 refine ⟨fun b o hb hH hf hx => ?_, fun b o hb hH hf hx => fr b hf o hb, u.free, fun b o hb hx => ?_, u.yb, u.c5, u.yc⟩
 . exact st b o (ajx _ (u.keep b o hb hH hf hx) (out b o hb hf))
 . obtain ⟨o', Mt⟩ := u.there b o hb hx
   by_cases hf : b ∈ qW X.outer
   . obtain ⟨sl, e⟩ := fr b hf o hb
     exact ⟨_, e⟩
   . exact ⟨o', st b o' (ajx _ Mt (out b o hb hf))⟩
theorem Inv.EY (I : Q.g) (hex : X.ex = []) : fV X.outer X.s₀.heap s.heap := fun b hb o ho => I.base.slot b o ho (I.ok.MB b hb) hb (by rw [hex]; exact ahK)
theorem XH {W : XK} {ev : Value} {s' : Shared} {E' : Q.l} (kG : X.stack = X.env :: X.outer) (Ed : X.env.frame = some X.env.locals) (hex : X.ex = []) (h : XE X W ev s') :
   wpAny Q.d X.A (leaving X.env ev) (fun _ s'' => Zy X.prog X.w X.outer X.H₀ X.s₀ W ev s'') E' s' := by
 obtain ⟨e, C, pins, σ, H, s, rfl, I, hw, ho, hg, hm⟩ := h
 have SW : X.A.frames = some (X.env :: X.outer) := by rw [I.ok.frames, kG]
 have Ol := I.Oi
 have hos : s'.os = X.s₀.os := ho.trans I.os
 rw [kG] at Ol
 have sub : ∀ b, b ∈ qW X.outer -> b ∈ qW X.stack := fun b hb => by
   rw [kG]
   unfold qW at hb ⊢
   rw [ah9, Ed]
   exact ahz _ hb
 rcases hm with hm | ⟨a0, hm, hs⟩
 . refine wpAny_leaves_madeW (base := PySem.W.hideAll s.heap (qW X.stack)) SW Ed (fun b o q => ajC _ q) (by rw [kG]; exact Ol) hm fun h' t x1 x2 x3 x4 => ?_
   refine ⟨e, C, .ref t, _, H, rfl, hos, hg, x1, I.Oh, I.Oj kG Ed hex, ?_, hw⟩
   have f1 : fV X.outer X.s₀.heap s'.heap := fun b hb o hq => by
     obtain ⟨sl, q⟩ := I.EY hex b hb o hq
     exact ⟨sl, hm.keeps _ _ q⟩
   have f2 : s'.heap.FunFrames X.base X.outer := (show s.heap.FunFrames X.base X.outer from I.rV).of_keeps fun b o hb _ => ⟨o, hm.keeps b o hb, rfl⟩
   exact f1.up f2 x4
 . rw [kG] at hm
   unfold leaving
   refine aht (wpAny_noteFrame_againW Ed hm.2.2.2 ?_)
   refine wpAny_landsW hm fun h' Zz hu => ?_
   obtain ⟨k1, k2, ⟨_, _, k3⟩, k4⟩ := Zz
   refine ⟨e, C, a0, _, H, rfl, hos, hg, ⟨k1, k2, k3, k4⟩, ?_, ?_, ?_, hw⟩
   . rw [← kG]; exact I.Oh
   . intro h st fr
     rw [← kG] at st
     exact I.Oj kG Ed hex h st fr
   . have f1 : fV X.outer X.s₀.heap s'.heap := fun b hb o hq => by
       obtain ⟨sl, q⟩ := I.EY hex b hb o hq
       obtain ⟨sl2, q2⟩ := hs b (sub b hb) _ q
       exact ⟨sl2, q2⟩
     obtain ⟨_, _, f2⟩ := hm.2.2.1
     exact f1.up f2 hu
theorem Om {M : Model} {A : Around} {E : Q.l} {base : Heap} {l : List Env} {env : Env} {e L : Addr} {cls a0 fl : Value} {Q : Unit -> Shared -> Prop} (hf : env.frame = some L)
   (hkb : base.StaysIn s.heap) (hen : base.get? e = none) (hl : s.heap.FunFrames base l) (ht : s.heap.TracedAtW base e cls a0 fl)
   (h : ∀ h', Heap.HeldW base l e cls a0 L h' -> s.heap.UpToSlots h' -> Q () { s with heap := h' }) :
   wpAny M A (do
     if (← field (.ref e) 1) == .none then unsupported "frame.own-activation:exception-without-traceback"
     setFlight (.ref e) env.frame) Q E s := by
 obtain ⟨oe, vs, T, oT, ts, he, Wj, hd, h1, hnT, hTe, hT, hdT, h3⟩ := ht
 have aa9 : 3 < ts.size := (ai4.mp h3).1
 have SX : ∀ b, b ≠ T -> (s.heap.update T (Obj.mapFields (·.setIfInBounds 3 (rawInt L)))).get? b = s.heap.get? b := fun b hb => ajj _ _ (ajv hb)
 have Oo : ∀ b o, s.heap.get? b = some o -> (∀ vs, o.data ≠ .fields vs) -> b ≠ T := fun b o hb hnv q => by
   rw [q, hT] at hb; injection hb with hb; subst hb; exact hnv ts hdT
 refine aht (aiN he hd h1 ?_)
 rw [ahC (show ¬ ((Value.ref T == Value.none) = true) from by simp)]
 unfold setFlight
 refine aht (aiN he hd h1 ?_)
 rw [ahN (show (Value.ref T != Value.none) = true from by simp), hf]
 refine ai7 hT hdT aa9 (h _ ⟨fun b o hbo => (SX b fun q => by rw [q, hnT] at hbo; cases hbo).trans (hkb b o hbo), hen, hl.of_keeps fun b o hb hnv => ⟨o, (SX b (Oo b o hb hnv)).trans hb, rfl⟩, ?_⟩ fun b o hb hnv => ⟨o.slots, (SX b (Oo b o hb hnv)).trans hb⟩)
 exact ⟨oe, vs, T, _, _, (SX e (ajv hTe)).trans he, Wj, hd, h1, hnT, hTe, ai3 _ hT (ajn (aiG hdT _)), aiG hdT _, by simp [aa9]⟩
theorem SY {W : XK} (kG : X.stack = X.env :: X.outer) (Ed : X.env.frame = some X.env.locals) : PassesOwn Q.d X.A X.env (XE X W) := fun ev s' h => by
 obtain ⟨e, C, pins, σ, H, s, rfl, I, hw, ho, hg, hm⟩ := h
 have SW : X.A.frames = some (X.env :: X.outer) := by rw [I.ok.frames, kG]
 have Ol := I.Oi
 rw [kG] at Ol
 have back : ∀ {a0 : Value} {s2 : Shared}, s2.os = s'.os -> s2.gens = s'.gens -> Heap.HeldW (PySem.W.hideAll s.heap (qW X.stack)) X.stack e (.ref C) a0 X.env.locals s2.heap -> fV X.stack s.heap s2.heap -> cameBackBy Q.d X.A X.env (XE X W) (.ref e) s2 := fun {a0 s2} o2 g2 hh fs => by
   obtain ⟨k1, k2, k3, k4⟩ := hh
   refine Om Ed k1 k2 k3 k4 fun h' hh' hu => ?_
   exact ⟨e, C, pins, σ, H, s, rfl, I, hw, o2.trans ho, by show AllBare s2.gens; rw [g2]; exact hg, .inr ⟨a0, hh', fs.up k3 hu⟩⟩
 rcases hm with hm | ⟨a0, hm, hs⟩
 . obtain ⟨t, he, htn, ht⟩ := hm.there
   have fresh : ∀ b, s.heap.get? b = none -> (PySem.W.hideAll s.heap (qW X.stack)).get? b = none := fun b hb => by
     cases hq : (PySem.W.hideAll s.heap (qW X.stack)).get? b with
     | none => rfl
     | some o' => have := ajC _ hq; rw [hb] at this; cases this
   have hf2 : s'.heap.FunFrames (PySem.W.hideAll s.heap (qW X.stack)) (X.env :: X.outer) := by
     rw [kG]
     exact Ol.of_keeps fun b o hb _ => ⟨o, hm.keeps b o hb, rfl⟩
   unfold notedBy noteFrame
   simp only [Ed]
   refine aht (aiN (x := .none) he rfl rfl ?_)
   rw [ahC Q.b]
   refine wpAny_entryW (base := PySem.W.hideAll s.heap (qW X.stack)) SW hf2 Ed he (fun b o hb => hm.keeps b o (ajC _ hb)) (fresh e hm.new) rfl (show 1 < 6 by decide) rfl fun h' hN => ?_
   obtain ⟨k1, k2, k3, k4⟩ := hN
   rw [← kG] at k2
   refine back rfl rfl ⟨k1, fresh e hm.new, k2, k3⟩ ?_
   have f1 : fV X.stack s.heap s'.heap := fun b hb o hq => ⟨o.slots, hm.keeps _ _ hq⟩
   rw [← kG] at hf2
   exact f1.up hf2 k4
 . unfold notedBy
   exact wpAny_noteFrame_againW Ed hm.2.2.2 (back rfl rfl hm hs)
structure yI (K : Q.h) (C : Addr) : Prop where
 ex : ∃ nm q N bs bm hdct sn sub ab col dd k0 k1 k2 k3 k5, K.lookup C = some (excClassObj nm q C N bs bm hdct sn sub ab col dd k0 k1 k2 k3 k5 "ValueError.__new__") /\ PySem.W.nsOkIn K N = true /\ PySem.W.nsIn K N "__init__" = some none /\ PySem.W.tailIn K CM bm = true
theorem KR {W : XK} {x : Str} {C : Addr} {np rX pos : Pos} {D : Ends} (abd : X.calm = true) (hg : Gl X x) (hm : X.mg x = some (.ref C)) (O : yI X.K C) (hw : W (.ref C) none H) (hd : Q.m := by decide) :
   L3.Kp (X.wish (XE X W)) (.Raise (some (.Call (.Name x np) [] [] rX)) none pos) D σ H := fun pins s I => by
 have J : Inv X pins σ H s := I.j4
 obtain ⟨nm, q, N, bs, bm, hdct, sn, sub, ab, col, dd, k0, k1, k2, k3, k5, o1, o2, o3, o4⟩ := O.ex
 have tl := PySem.W.tail_of_in J.wR o4
 refine wpAny_Raise_call_subT (C := C) (nm := nm) (q := q) (N := N) (bs := bs) (bm := bm) (bmB := CM) (k0 := k0) (k1 := k1) (k2 := k2) (k3 := k3) (k5 := k5) (dd := dd) (col := col) (ab := ab) (sub := sub) (sn := sn) (hdct := hdct) PySem.F.excBase_ValueError (mN := s.heap.nsMap N) (tl.hasType (b := true) PySem.F.excBase_ValueError.hasBase) (J.ok.hd abd) rfl (PySem.W.nsMap_none_of_in J.wR o2 o3) (qY I hg hm ⟨rfl, ?_⟩ hd)
 exact evalArgs_empty ⟨rfl, ah8 _, J.wR _ _ o1, .of_isNs (PySem.W.isNs_of_in J.wR o2), tl, fun h' e hx => ⟨e, C, pins, σ, H, s, rfl, J, hw, rfl, J.bare, .inl hx⟩⟩
structure Lies (X : Cx) (pins : Q.i) (σ : St) (H : Hp) (s : Shared) (H' : Hp) (e C : Addr) (a0 : Value) (B : Heap) (s' : Shared) : Prop where
 inv : Inv X pins σ H s
 os : s'.os = s.os
 bare : AllBare s'.gens
 ZC : Heap.FlyingW B X.stack e (.ref C) a0 s'.heap
 bY : qV X.prog X.w H' B
 un : ∀ h, B.StaysIn h -> fV X.stack s.heap h -> Un (qW X.stack) [] H H' s.heap h
 fr : fV X.stack s.heap s'.heap
variable {H' : Hp} {e C : Addr} {a0 : Value} {B : Heap} {s' : Shared}
theorem Lies.now (L : Lies X pins σ H s H' e C a0 B s') : Inv X pins σ H' s' := L.inv.ZU L.os (L.un s'.heap L.ZC.1 L.fr) (L.bY.kept L.ZC.1) L.bare fun b z => absurd z ahK
theorem Lies.move (L : Lies X pins σ H s H' e C a0 B s') {h' : Heap} {t' : Nat} (hf : Heap.FlyingW B X.stack e (.ref C) a0 h') (u : s'.heap.UpToSlots h') : Lies X pins σ H s H' e C a0 B { s' with heap := h', toks := t' } :=
 ⟨L.inv, L.os, L.bare, hf, L.bY, L.un, L.fr.up L.ZC.2.2.1 u⟩
abbrev Cx.hand (X : Cx) (e : Addr) : Cx := { X with A := X.A.mark (some (.ref e)), calm := false }
theorem Inv.hand (I : Q.g) (e : Addr) : Inv (X.hand e) pins σ H s :=
 ⟨⟨I.ok.mod, I.ok.kind, I.ok.glob, I.ok.blt, I.ok.above, I.ok.inj, I.ok.has, I.ok.Wg, (fun h => by cases h), I.ok.frames, I.ok.Zk, I.ok.exf, I.ok.bs, I.ok.Iu, I.ok.Ek, I.ok.JY, I.ok.rV, I.ok.MB⟩, I.os, I.bare, I.base, I.loc, I.cell, I.free, I.jT, I.pin, I.bY, I.len⟩
theorem Inv.CN (ok : X.Ok) (I : Inv (X.hand e) pins σ H s) : Inv X pins σ H s := ⟨ok, I.os, I.bare, I.base, I.loc, I.cell, I.free, I.jT, I.pin, I.bY, I.len⟩
theorem ad5 {Q : Flow -> Shared -> Prop} {E : Q.l} {hs : List ExceptHandler} (kG : X.stack = X.env :: X.outer) (Ed : X.env.frame = some X.env.locals) (L : Lies X pins σ H s H' e C a0 B s')
   (k : ∀ s3, Lies X pins σ H s H' e C a0 B s3 -> wpAny Q.d X.A (handleBy (.ref e) X.env hs) Q E s3) :
   wpAny Q.d X.A (noteFrame (.ref e) X.env) (fun _ s₂ => wpAny Q.d X.A (setFlight (.ref e) none) (fun _ s₃ => wpAny Q.d X.A (handleBy (.ref e) X.env hs) Q E s₃) E s₂) E s' := by
 have SW : X.A.frames = some (X.env :: X.outer) := by rw [L.inv.ok.frames, kG]
 have Zz := L.ZC
 rw [kG] at Zz
 refine wpAny_looks_onW SW Ed Zz fun h4 hh4 u4 => wpAny_landsW hh4 fun h5 hf5 u5 => k _ ?_
 rw [← kG] at hf5
 exact L.move hf5 (u4.trans u5)
theorem VM {Q : Flow -> Shared -> Prop} {E : Q.l} {x : Str} {Dd : Addr} {np pos : Pos} {b₀ : Stmt} {suite : List Stmt} {rest : List ExceptHandler} {m : Bool} (L : Lies X pins σ H s H' e C a0 B s') (hg : Gl X x) (hm : X.mg x = some (.ref Dd))
   (hx : PySem.W.exmOne X.K (.ref C) (.ref Dd) = some m)
   (k : if m then ∀ s4, Lies X pins σ H s H' e C a0 B s4 -> wpAny Q.d (X.hand e).A (execs (b₀ :: suite) X.env) Q (fun _ _ => False) s4 else ∀ s4, Lies X pins σ H s H' e C a0 B s4 -> wpAny Q.d X.A (handleBy (.ref e) X.env rest) Q E s4)
   (hd : Q.m := by decide) :
   wpAny Q.d X.A (handleBy (.ref e) X.env (.ExceptHandler (some (.Name x np)) none (b₀ :: suite) pos :: rest)) Q E s' := by
 have I := L.now
 obtain ⟨ob, hob, Vr⟩ := L.ZC.there
 have LT : PySem.W.Looks Q.d s'.heap (typeOf (.ref e)) (.ref C) := by
   rw [← Vr]
   exact (PySem.W.Looks.ld hob).andThen .now
 refine wpAny_handleBy_cons (codeAny_handlers_test (qY (X := X.hand e) (I.hand e) hg hm ?_ hd)) (fun q => by cases q)
 refine (PySem.W.exm_one I.wR LT hx).here ?_
 cases m with
 | false => exact k s' L
 | true =>
   refine codeAny_handlers_suite (lands_againW L.ZC fun h6 hf6 u6 => ?_)
   exact aik (k _ (L.move hf6 u6)) (fun _ _ z => z) fun _ _ z => z.elim
end
variable {X : Cx}
abbrev Cx.pinned (X : Cx) (p : Q.i) : Cx := { X with pn := X.pn ++ p }
theorem Cx.Ok.pinned (ok : X.Ok) (p : Q.i) : (X.pinned p).Ok := ⟨ok.mod, ok.kind, ok.glob, ok.blt, ok.above, ok.inj, ok.has, ok.Wg, ok.hd, ok.frames, ok.Zk, ok.exf, ok.bs, ok.Iu, ok.Ek, ok.JY, ok.rV, ok.MB⟩
variable {s : Shared}
theorem Inv.abe {pins : Q.i} {σ : St} {H : Hp} (I : Q.g) : Inv (X.pinned pins) [] σ H s :=
 ⟨I.ok.pinned pins, I.os, I.bare, I.base, I.loc, I.cell, I.free, I.jT, (fun p hp => I.pin p (by rw [ahJ] at hp; exact hp)), I.bY, I.len⟩
theorem Inv.XI {pins p2 : Q.i} {σ : St} {H : Hp} (ok : X.Ok) (I : Inv (X.pinned pins) p2 σ H s) : Inv X pins σ H s :=
 ⟨ok, I.os, I.bare, I.base, I.loc, I.cell, I.free, I.jT, (fun p hp => I.pin p (ahy _ hp)), I.bY, I.len⟩
end L2
namespace L3
open PySem PySem.Spec PyProof.Rows L2
def xF (b : Bx) (E : XK) (C : Addr) : Prop := ∀ H' Z' : Hp, aB b.B H' -> aB b.Z Z' -> aB Z' H' -> (∀ a o, Z' a = some o -> b.Z a = none -> b.B a = none) -> (∀ a o, H' a = some o -> jU o = true -> Z' a = some o) -> E (.ref C) none H'
def spR (K : Q.h) (CL : Q.e) {A : Type} (n : Nat) (arg : A -> List D) (Pre : A -> Prop) (exc : A -> Str) : Sp := fun vs H _ E =>
 ∃ (W : Hp) (a : A), aB W H /\ (∀ c o, H c = some o -> jU o = true -> W c = some o) /\ aI K CL W (arg a) vs /\ (arg a).length = n /\ Pre a /\ mW CL W /\ xF ⟨H, W⟩ E (CL (exc a))
section
variable {X : Cx} {CL : Q.e} {b : Bx} {δ δ1 δ2 : Q.f} {e : Expr} {dm : List Stmt} {D : c9} {x c : Str} {i : Nat} {pos : Pos} {W : XK}
theorem S9 {np rX : Pos} (hc : X.calm = true) (hg : Gl X c) (hm : X.mg c = some (.ref (CL c))) (O : yI X.K (CL c)) (hE : xF b W (CL c)) (hd : (c == ("__debug__" : Str)) = false := by decide) :
   cH (X.wish (XE X W)) CL b (.Raise (some (.Call (.Name c np) [] [] rX)) none pos :: dm) δ D := aY fun H Z σ ts vs E S M =>
 KR hc hg hm O (hE H Z S.bh S.zz S.zh S.new S.tp) hd
theorem XJ {P : Program} {w : World} {K : Q.h} {mg : Q.p} {base : Heap} {qual : Str} {st : Stmt} {f : Addr} {fd : FuncData} {N ps : List Str} {k : Nat} {A : Type} {arg : A -> List L3.D} {Pre : A -> Prop} {exc : A -> Str} (F : nG K x qual st f fd) (S : aP N ps (ak st))
   (hb : ∀ (gn : Value) (Ar : Around) (outer : List Env) (s : Shared) (H : Hp) (E : XK) (b : Bx) (a : A), c6 k (Ar.deeper (envOfC qual (ak st) s.heap.objs.size f gn)) -> Pre a -> xF b E (CL (exc a)) →
     cH ((ve (Zy P w) P w K mg base N qual (ak st) f gn Ar outer s H E).wish (XE (ve (Zy P w) P w K mg base N qual (ak st) f gn Ar outer s H E) E)) CL b (b9 st) (entry N (arg a)) { nx := fun _ => False, rt := fun _ _ => False }) :
   cJ P w K mg base (Zy P w) (k + 1) f fd ps (spR K CL ps.length arg Pre exc) := by
 obtain ⟨oc, od, kV, doc, pm, an, gn, ct, Rf, rfl, lk, j3⟩ := F.ex
 refine Vx lk j3 S (fun vs H Q E h => ?_) fun Ar outer s H vs Q E hr h => ?_
 . obtain ⟨W, a, _, _, r, hl, _⟩ := h
   rw [← r.length]; exact hl
 . obtain ⟨W, a, wh, tp, r, hl, hp, tb, hE⟩ := h
   have h0 : cF K CL H W (entry N (arg a)) (start N vs) [] := by
     unfold entry L2.start
     rw [← r.length]
     exact jn _ r
   have h1 : ∀ c o, W c = some o -> W c = none -> H c = none := fun c o q z => by rw [q] at z; cases z
   have body := hb gn Ar outer s H E ⟨H, W⟩ a hr hp hE H W (start N vs) [] [] { nx := fun _ _ => False, rt := fun _ _ => False } ⟨⟨[], [], h0, .nil, aiZ, fun c hc => by cases hc⟩, .refl _, .refl _, wh, h1, tp, tb⟩ ⟨fun _ _ _ _ _ _ z => z.elim, fun _ _ _ _ _ _ _ _ z => z.elim, fun _ _ _ _ _ _ z => z.elim, fun _ _ _ _ _ _ z => z.elim⟩
   refine ⟨Nu _ (b9 st), IV, fun pins s1 I => ?_⟩
   refine aik (body pins s1 (I.wish _)) (fun fl s' z => ?_) fun ev s' z => XH rfl rfl rfl z
   cases fl with
   | next => obtain ⟨_, _, _, q⟩ := z; exact q.elim
   | brk => obtain ⟨_, _, _, q⟩ := z; exact q.elim
   | cont => obtain ⟨_, _, _, q⟩ := z; exact q.elim
   | ret u => obtain ⟨_, _, _, _, _, q⟩ := z; exact q.elim
def CP (X : Cx) (CL : Q.e) (b : Bx) (Z : Hp) (δ1 : Q.f) (ts : List T) (vs : List V) (C : Addr) (ev : Value) (s' : Shared) : Prop :=
 ∃ (e : Addr) (a0 : Value) (B : Heap) (pins : Q.i) (σ : L2.St) (H : Hp) (s : Shared) (H' Z' : Hp), ev = .ref e /\ Lies X pins σ H s H' e C a0 B s' /\ aB Z Z' /\ aL X.K CL b H' Z' δ1 σ ts vs
def TRv (X : Cx) (CL : Q.e) (b : Bx) (e : Expr) (δ : Q.f) (c : Str) (δ1 : Q.f) : Prop :=
 ∀ (H Z : Hp) (σ : L2.St) (ts : List T) (vs : List V), aL X.K CL b H Z δ σ ts vs -> pZ (X.wish (CP X CL b Z δ1 ts vs (CL c))) e σ H fun _ _ => False
def TRs (X : Cx) (CL : Q.e) (b : Bx) (st : List Stmt) (δ : Q.f) (c : Str) (δ1 : Q.f) : Prop :=
 ∀ (H Z : Hp) (σ : L2.St) (ts : List T) (vs : List V) (D : Ends), aL X.K CL b H Z δ σ ts vs -> Nu (X.wish (CP X CL b Z δ1 ts vs (CL c))) st D σ H
theorem aL.grown {K : Q.h} {H H' Z W W' : Hp} {σ : L2.St} {ts : List T} {vs : List V} (S : Q.q) (hh : aB H H') (zw : aB Z W) (ww : aB W W') (wh : aB W' H') (new : ∀ a o, W' a = some o -> W a = none -> H a = none)
   (tp : ∀ a o, H' a = some o -> jU o = true -> W' a = some o) : ∃ Z', aB Z Z' /\ aL K CL b H' Z' δ σ ts vs := by
 obtain ⟨Z', z, S'⟩ := S.back (t := .sh .non) (v := .non) (fp := []) hh zw ww wh new tp (.sh .non) aiZ (fun a ha => by cases ha) (.inr rfl)
 exact ⟨Z', z, S'.pop⟩
theorem TRv.any {H Z : Hp} {σ : L2.St} {ts : List T} {vs : List V} {Q : VK} (h : TRv X CL b e δ c δ1) (S : aL X.K CL b H Z δ σ ts vs) : pZ (X.wish (CP X CL b Z δ1 ts vs (CL c))) e σ H Q := fun pins s I =>
 aik (h H Z σ ts vs S pins s I) (fun _ _ ⟨_, _, _, _, q⟩ => q.elim) fun _ _ z => z
theorem XM (h : TRv X CL b e δ c δ1) (hs : swapsWith e none pos.line X.env = pure false := by rfl) : TRs X CL b (.Expr e pos :: dm) δ c δ1 := fun H Z σ ts vs D S => W9 (En psS IV) (kL (oE (X := X.wish (CP X CL b Z δ1 ts vs (CL c))) c7 hs) (h.any S))
theorem Vn.pin {p : Q.i} (h : Vn X i x) : Vn (X.pinned p) i x := ⟨h.hi, h.hv, h.hd, h.j3⟩
inductive KS (X : Cx) (CL : Q.e) (c : Str) : List ExceptHandler -> List Stmt -> Prop
 | hit {x : Str} {Dd : Addr} {np pos : Pos} {b₀ : Stmt} {suite : List Stmt} {rest : List ExceptHandler} : Gl X x -> X.mg x = some (.ref Dd) -> PySem.W.exmOne X.K (.ref (CL c)) (.ref Dd) = some true -> (x == ("__debug__" : Str)) = false -> KS X CL c (.ExceptHandler (some (.Name x np)) none (b₀ :: suite) pos :: rest) (b₀ :: suite)
 | miss {x : Str} {Dd : Addr} {np pos : Pos} {b₀ : Stmt} {suite st : List Stmt} {rest : List ExceptHandler} : Gl X x -> X.mg x = some (.ref Dd) -> PySem.W.exmOne X.K (.ref (CL c)) (.ref Dd) = some false -> (x == ("__debug__" : Str)) = false -> KS X CL c rest st -> KS X CL c (.ExceptHandler (some (.Name x np)) none (b₀ :: suite) pos :: rest) st
theorem KS.run {Q : Flow -> Shared -> Prop} {E : Q.l} {hs : List ExceptHandler} {st : List Stmt} {pins p : Q.i} {σ : L2.St} {H H' : Hp} {s s' : Shared} {e : Addr} {a0 : Value} {B : Heap} (h : KS X CL c hs st) (L : Lies (X.pinned p) pins σ H s H' e (CL c) a0 B s')
   (k : ∀ s4, Lies (X.pinned p) pins σ H s H' e (CL c) a0 B s4 -> wpAny Q.d (X.hand e).A (execs st X.env) Q (fun _ _ => False) s4) : wpAny Q.d X.A (handleBy (.ref e) X.env hs) Q E s' := by
 induction h generalizing s' with
 | hit h1 h2 h3 h4 => exact VM (X := X.pinned p) (m := true) L h1 h2 h3 k h4
 | miss h1 h2 h3 h4 _ ih => exact VM (X := X.pinned p) (m := false) L h1 h2 h3 (fun s4 L4 => ih L4 k) h4
theorem XO {body : List Stmt} {h0 : ExceptHandler} {hs : List ExceptHandler} {st : List Stmt} (kG : X.stack = X.env :: X.outer) (Ed : X.env.frame = some X.env.locals) (hxf : X.xe = fun _ _ => False) (r : ∀ p, TRs (X.pinned p) CL b body δ c δ1) (hh : KS X CL c (h0 :: hs) st)
   (k : ∀ e, cH (X.hand e) CL b st δ1 { D with nx := fun δ2 => cH X CL b dm δ2 D }) : cH X CL b (.Try body (h0 :: hs) [] [] pos :: dm) δ D := aY fun H Z σ ts vs E S M pins s I => by
 refine wpAny_Try_except (aik (r pins H Z σ ts vs { nx := fun _ _ => False, rt := fun _ _ => False } S [] s (I.abe.wish _)) (fun f s1 z => ?_) fun ev s1 z => ?_)
 . cases f with
   | next => obtain ⟨_, _, _, q⟩ := z; exact q.elim
   | brk => obtain ⟨_, _, _, q⟩ := z; exact q.elim
   | cont => obtain ⟨_, _, _, q⟩ := z; exact q.elim
   | ret u => obtain ⟨_, _, _, _, _, q⟩ := z; exact q.elim
 . obtain ⟨e, a0, B, El, σ', H1, s0, H', Z', rfl, L, z', S'⟩ := z
   refine ad5 (X := X.pinned pins) kG Ed L fun s3 L3 => hh.run L3 fun s4 L4 => ?_
   have J := (L4.now.XI I.ok).hand e
   refine aik (k e H' Z' σ' ts vs E S' (M.mono z') pins s4 J) (fun f s5 z => ?_) fun _ _ z => by rw [show (X.hand e).xe = X.xe from rfl, hxf] at z; exact z
   cases f with
   | next => obtain ⟨σ5, H5, I5, q⟩ := z; exact ⟨σ5, H5, I5.CN I.ok, q⟩
   | brk => obtain ⟨σ5, H5, I5, q⟩ := z; exact ⟨σ5, H5, I5.CN I.ok, q⟩
   | cont => obtain ⟨σ5, H5, I5, q⟩ := z; exact ⟨σ5, H5, I5.CN I.ok, q⟩
   | ret u => obtain ⟨v, σ5, H5, I5, rv, q⟩ := z; exact ⟨v, σ5, H5, I5.CN I.ok, rv, q⟩
end
section
variable {X : Cx} {CL : Q.e} {b : Bx} {δ δ1 : Q.f} {e : Expr} {dm : List Stmt} {D : c9} {x : Str} {i : Nat} {pos : Pos}
theorem Ln.hand {a : Addr} (h : Ln X i x) : Ln (X.hand a) i x := ⟨⟨h.hi, h.hv, h.hd, h.j3⟩, h.loc, h.hf⟩
theorem XQ {t : T} {pos' : Pos} (nd : X.N.Nodup) (n : Ln X i x) (h : bS X CL b e δ t δ1) (k : cH X CL b dm (δ1.set i (some t)) D) (hl : i < δ1.length := by exact ahA rfl) (hs : swapsWith e (some (.Name x pos')) pos.line X.env = pure false := by rfl) :
   cH X CL b (.Assign [.Name x pos'] e pos :: dm) δ D := aY (Cw i h k hl nd n.hi n.loc hs n.hf)
end
theorem Oq (l q : Addr) (xs ys : Array Value) (n m : Nat) (dq : Option Addr) (sq : Array (Option Value)) (hc : ¬(!xs.isEmpty && Builtin.List.listTooLong (xs.size + ys.size)) = true) (hx : xs.size <= sizeLine) (hy : xs.size + ys.size <= sizeLine + 1) :
   PySem.Meets (Builtin.«list.extend» ⟨[.ref l, .ref q], []⟩) (fun _ R s => s.heap.get? l = some { cls := .type "list", dict := none, data := .seq xs n, slots := #[] } /\ s.heap.get? q = some { cls := .type "list", dict := dq, data := .seq ys m, slots := sq } ∧
     R (.ok (.ret Value.none)) { s with heap := s.heap.update l (Obj.mapSeq fun x => x ++ ys), toks := s.toks }) :=
 PySem.Meets.of_wp fun prog w A R s h => by
   obtain ⟨hp, g, d, tk, os⟩ := s
   obtain ⟨hl, hb, h⟩ := h
   have f1 := AutoSeq1.idx_int
   have f2 := AutoSeq1.sub_tuple_tuple
   have f3 := AutoSeq1.sub_list_list
   have f4 := AutoSeq1.sub_tuple_list
   have f5 := AutoSeq1.sub_list_tuple
   have hz : (xs ++ ys).size <= sizeLine + 1 := by
     rw [Array.size_append]
     exact hy
   wp_walk using (wpAny_updateSeq hl rfl (hz := hx) (_hz' := hz)), wpAny_loadPart' hl, wpAny_loadPart' hb
   exact ⟨_, rfl, h⟩
def abf (K : Q.h) : V -> List V -> Hp -> VK -> Prop := fun x vs H Q => ∃ l q xs zs, x = .ref l /\ vs = [.ref q] /\ H l = some (.lst xs) /\ oB K H q zs /\ xs.length + zs.length <= sizeLine /\ Q .non (upd H l (.lst (xs ++ zs)))
variable {X : Cx}
theorem Tc : MtM X "list.extend" (abf X.K) := by
 intro pins s σ H x vs v us Q I rx rv h
 obtain ⟨l, q, xs, zs, rfl, rfl, hH, hB, hz, k⟩ := h
 cases rx
 obtain ⟨u, rfl, ru⟩ := rv.one
 cases ru
 obtain ⟨z, its, n, r, hl, e⟩ := I.Kd hH
 obtain ⟨vf, r2, ⟨⟨c2, d2, da2, s2⟩, n2, e2, hc2, _, hd2⟩, z2⟩ := I.list hB
 cases hc2
 cases hd2
 have hl2 := r2.length
 have hsz : its.toArray.size + vf.toArray.size <= sizeLine := by
   rw [ahM, ahM]
   omega
 have Ng : ¬ (!its.toArray.isEmpty && Builtin.List.listTooLong (its.toArray.size + vf.toArray.size)) = true := by
   rw [Ex hsz, Bool.and_false]
   decide
 refine call_meets F.slot_list_extend ⟨_, e, rfl⟩ F.entry_list_extend (F.args_list_extend_2 _ _) (Oq l q its.toArray vf.toArray n n2 d2 s2 Ng (by rw [ahM]; omega) Q.c) ⟨e, e2, ?_⟩
 refine ⟨.non, _, I.Nf (its' := its ++ vf) hH e (by simp) (r.append r2) ?_, rfl, k⟩
 rw [ahL]
 omega
inductive wX where
 | ix (j : Nat) | fld (f : Str) | key (k : List Key)
def KW {α : Type} (k : List Key) (t : α) : List (List Key × α) -> List (List Key × α)
 | [] => []
 | (x, u) :: r => if x = k then (x, t) :: r else (x, u) :: KW k t r
def T.core : T -> T
 | .pin _ t => t
 | t => t
def T.CQ : T -> T -> T
 | .pin y _, u => .pin y u
 | _, u => u
def T.F3 : wX -> T -> Option T
 | .ix j, .lst ts => ts[j]?
 | .ix j, .tup ts => ts[j]?
 | .fld f, .ins _ fs => fs.lookup f
 | .key k, .dct kvs => kO kvs k
 | _, _ => none
def T.GU : wX -> T -> T -> T
 | .ix j, .lst ts, u => .lst (ts.set j u)
 | .ix j, .tup ts, u => .tup (ts.set j u)
 | .fld f, .ins c fs, u => .ins c (iA f u fs)
 | .key k, .dct kvs, u => .dct (KW k u kvs)
 | _, t, _ => t
def T.iC : List wX -> T -> Option T
 | [], t => some t.core
 | s :: p, t => (t.core.F3 s).bind (T.iC p)
def T.j9 : List wX -> T -> T -> T
 | [], u, t => t.CQ u
 | s :: p, u, t => match t.core.F3 s with
   | some k => t.CQ (t.core.GU s (T.j9 p u k))
   | none => t
def Td (H : Hp) (v : V) : wX -> V -> Prop
 | .ix j, w => ∃ a us, v = .ref a /\ (H a = some (.lst us) \/ H a = some (.tup us)) /\ us[j]? = some w
 | .fld f, w => ∃ a C dx gs, v = .ref a /\ H a = some (.ins C dx gs) /\ gs.lookup f = some w
 | .key k, w => ∃ a gs, v = .ref a /\ H a = some (.dT gs) /\ ly gs k = some w
def wY (H : Hp) : V -> List wX -> V -> Prop
 | v, [], w => v = w
 | v, s :: p, w => ∃ u, Td H v s u /\ wY H u p w
variable {H H' : Hp} {s : wX}
theorem Td.mono (e : aB H H') {v w : V} (h : Td H v s w) : Td H' v s w := by
 cases s with
 | ix j => obtain ⟨a, us, h1, h2, h3⟩ := h; exact ⟨a, us, h1, h2.imp (e _ _) (e _ _), h3⟩
 | fld f => obtain ⟨a, C, dx, gs, h1, h2, h3⟩ := h; exact ⟨a, C, dx, gs, h1, e _ _ h2, h3⟩
 | key k => obtain ⟨a, gs, h1, h2, h3⟩ := h; exact ⟨a, gs, h1, e _ _ h2, h3⟩
theorem Td.inj {v w w' : V} (h : Td H v s w) (q : Td H v s w') : w = w' := by
 cases s with
 | ix j =>
   obtain ⟨a, us, h1, h2, h3⟩ := h
   obtain ⟨a', Mv, q1, q2, q3⟩ := q
   subst h1
   cases q1
   have e : us = Mv := by
     rcases h2 with h2 | h2 <;> rcases q2 with q2 | q2 <;> rw [h2] at q2 <;> cases q2 <;> rfl
   subst e
   rw [h3] at q3
   exact ahP q3
 | fld f =>
   obtain ⟨a, C, dx, gs, h1, h2, h3⟩ := h
   obtain ⟨a', C', dx', gs', q1, q2, q3⟩ := q
   subst h1
   cases q1
   rw [h2] at q2
   cases q2
   rw [h3] at q3
   exact ahP q3
 | key k =>
   obtain ⟨a, gs, h1, h2, h3⟩ := h
   obtain ⟨a', gs', q1, q2, q3⟩ := q
   subst h1
   cases q1
   rw [h2] at q2
   cases q2
   rw [h3] at q3
   exact ahP q3
theorem wY.mono {H H' : Hp} (e : aB H H') : ∀ {p : List wX} {v w : V}, wY H v p w -> wY H' v p w
 | [], _, _, h => h
 | _ :: _, _, _, ⟨u, h, q⟩ => ⟨u, h.mono e, wY.mono e q⟩
theorem wY.inj {H : Hp} : ∀ {p : List wX} {v w w' : V}, wY H v p w -> wY H v p w' -> w = w'
 | [], _, _, _, h, q => h.symm.trans q
 | _ :: _, _, _, _, ⟨_, h1, h2⟩, ⟨_, q1, q2⟩ => by
   have := h1.inj q1
   subst this
   exact wY.inj h2 q2
theorem wY.snoc {H : Hp} {s : wX} : ∀ {p : List wX} {v w z : V}, wY H v p w -> Td H w s z -> wY H v (p ++ [s]) z
 | [], _, _, z, h, q => by
   have h' : _ = _ := h
   subst h'
   exact ⟨z, q, rfl⟩
 | _ :: _, _, _, _, ⟨u, h1, h2⟩, q => ⟨u, h1, wY.snoc h2 q⟩
variable {K : Q.h} {CL : Q.e} {b : Bx} {Z Z' : Hp} {δ : Q.f} {σ : L2.St} {ts tl : List T} {vs us : List V} {t u t0 : T} {v v0 w : V} {fp : List Addr} {i : Nat} {p : List wX}
theorem aU.GV (h : aU K CL H Z t v fp) : aU K CL H Z t.core v fp /\ ∀ {H' Z' : Hp} {u : T} {g : List Addr}, aU K CL H' Z' u v g -> aU K CL H' Z' (t.CQ u) v g := by
 cases h with
 | pin r => exact ⟨r, fun q => .pin q⟩
 | sh r => exact ⟨.sh r, fun q => q⟩
 | tup r q => exact ⟨.tup r q, fun q => q⟩
 | lst r q => exact ⟨.lst r q, fun q => q⟩
 | ins r q => exact ⟨.ins r q, fun q => q⟩
 | q8 r q => exact ⟨.q8 r q, fun q => q⟩
 | dct r q => exact ⟨.dct r q, fun q => q⟩
theorem cT.at {f : Str} : ∀ (fs : List (Str × T)) {gs : List (Str × V)} {fp : List Addr}, cT K CL H Z fs gs fp -> fs.lookup f = some t -> ∃ w f1 f2 f3, gs.lookup f = some w /\ fp = f1 ++ (f2 ++ f3) /\ aU K CL H Z t w f2 ∧
   ∀ {H' : Hp} {t' : T} {g : List Addr}, (∀ a ∈ f1 ++ f3, H' a = H a) -> aU K CL H' Z t' w g -> cT K CL H' Z (iA f t' fs) gs (f1 ++ (g ++ f3)) := by
 intro fs
 induction fs with
 | nil => intro gs fp h e; cases e
 | cons p fs ih =>
   obtain ⟨x, t0⟩ := p
   intro gs fp h e
   cases h with
   | @cons _ _ v _ vs f0 g0 r rs =>
     rw [ah1] at e
     cases hx : f == x with
     | true =>
       rw [hx] at e
       cases e
       have hxe : x = f := (ajd.mp hx).symm
       refine ⟨v, [], f0, g0, by rw [ah1, hx], rfl, r, fun {H' t' g} kk r' => ?_⟩
       rw [iA, ahN hxe]
       exact cT.cons (fp := g) (gp := g0) r' (rs.mono (.refl _) fun a ha => kk a (by simpa using ha))
     | false =>
       rw [hx] at e
       obtain ⟨w, f1, f2, f3, h1, h2, h3, h4⟩ := ih rs e
       subst h2
       refine ⟨w, f0 ++ f1, f2, f3, by rw [ah1, hx]; exact h1, by rw [ahv], h3, fun {H' t' g} kk r' => ?_⟩
       rw [iA, ahC (fun z => by rw [z, ajq] at hx; cases hx), ahv]
       exact .cons (r.mono (.refl _) fun a ha => kk a (by simp [ha])) (h4 (fun a ha => kk a (by rw [ahv]; exact ahu _ ha)) r')
theorem ck.F3 {k : List Key} {kvs : List (List Key × T)} {gs : List (List Key × V)} (h : ck K CL H Z kvs gs fp) (hk : kO kvs k = some t) :
   ∃ v f1 f2 f3, ly gs k = some v /\ fp = f1 ++ (f2 ++ f3) /\ aU K CL H Z t v f2 ∧
     ∀ {H' : Hp} {t' : T} {g : List Addr}, (∀ a ∈ f1 ++ f3, H' a = H a) -> aU K CL H' Z t' v g -> ck K CL H' Z (KW k t' kvs) gs (f1 ++ (g ++ f3)) := by
 refine ck.ind (P := fun kvs gs fp => kO kvs k = some t -> ∃ v f1 f2 f3, ly gs k = some v /\ fp = f1 ++ (f2 ++ f3) /\ aU K CL H Z t v f2 ∧
     ∀ {H' : Hp} {t' : T} {g : List Addr}, (∀ a ∈ f1 ++ f3, H' a = H a) -> aU K CL H' Z t' v g -> ck K CL H' Z (KW k t' kvs) gs (f1 ++ (g ++ f3))) (fun e => by cases e) (fun {x t0 v0 ts vs fp gp} r rr i hk => ?_) h hk
 by_cases e : x = k
 . rw [nQ (p := (x, t0)) e] at hk
   cases hk
   refine ⟨v0, [], fp, gp, qi e, rfl, r, fun {H' t' g} ka q => ?_⟩
   rw [KW, ahN e]
   exact (show ck K CL H' Z ((x, t') :: ts) ((x, v0) :: vs) (g ++ gp) from .cons q (rr.mono (.refl _) fun a ha => ka a ha))
 . rw [nR (p := (x, t0)) e] at hk
   obtain ⟨v, f1, f2, f3, h1, h2, h3, h4⟩ := i hk
   refine ⟨v, fp ++ f1, f2, f3, by rw [qj (p := (x, v0)) e]; exact h1, by rw [h2, ahv], h3, fun {H' t' g} ka q => ?_⟩
   rw [KW, ahC e, ahv]
   exact .cons (r.mono (.refl _) fun a ha => ka a (by simp [ha])) (h4 (fun a ha => ka a (by rw [ahv]; exact ahu _ ha)) q)
theorem aU.F3 {k : T} (zh : aB Z H) (h : aU K CL H Z t v fp) (hk : t.F3 s = some k) : ∃ w f1 f2 f3, Td H v s w /\ fp = f1 ++ (f2 ++ f3) /\ aU K CL H Z k w f2 ∧
   ∀ {H' : Hp} {k' : T} {g : List Addr}, (∀ c ∈ f1 ++ f3, H' c = H c) -> aU K CL H' Z k' w g -> aU K CL H' Z (t.GU s k') v (f1 ++ (g ++ f3)) := by
 cases s with
 | ix j =>
   cases h with
   | @lst a us ts g ha rs =>
     obtain ⟨w, f1, f2, f3, h1, h2, h3, h4⟩ := rs.at (j := j) (t := k) hk
     subst h2
     refine ⟨w, a :: f1, f2, f3, ⟨a, us, rfl, .inl ha, h1⟩, rfl, h3, fun {H' k' g} kk r' => ?_⟩
     have q := h4 (fun c hc => kk c (ahz _ hc)) r'
     rw [cK h1] at q
     exact .lst ((kk a ahw).trans ha) q
   | @tup a us ts g ha rs =>
     obtain ⟨w, f1, f2, f3, h1, h2, h3, h4⟩ := rs.at (j := j) (t := k) hk
     subst h2
     refine ⟨w, f1, f2, f3, ⟨a, us, rfl, .inr (zh _ _ ha), h1⟩, rfl, h3, fun {H' k' g} kk r' => ?_⟩
     have q := h4 kk r'
     rw [cK h1] at q
     exact .tup ha q
   | _ => cases hk
 | fld f =>
   cases h with
   | @ins a dx c gs fs g ha rs =>
     obtain ⟨w, f1, f2, f3, h1, h2, h3, h4⟩ := cT.at fs rs (f := f) (t := k) hk
     subst h2
     refine ⟨w, a :: f1, f2, f3, ⟨a, _, dx, gs, rfl, ha, h1⟩, rfl, h3, fun {H' k' g} kk r' => ?_⟩
     exact .ins ((kk a ahw).trans ha) (h4 (fun c hc => kk c (ahz _ hc)) r')
   | _ => cases hk
 | key x =>
   cases h with
   | @dct a gs kvs g ha rs =>
     obtain ⟨w, f1, f2, f3, h1, h2, h3, h4⟩ := rs.F3 (k := x) (t := k) hk
     subst h2
     refine ⟨w, a :: f1, f2, f3, ⟨a, gs, rfl, ha, h1⟩, rfl, h3, fun {H' k' g} kk r' => ?_⟩
     exact .dct ((kk a ahw).trans ha) (h4 (fun c hc => kk c (ahz _ hc)) r')
   | _ => cases hk
theorem aU.focus (zh : aB Z H) : ∀ (p : List wX) {t u : T} {v : V} {fp : List Addr}, aU K CL H Z t v fp -> T.iC p t = some u -> ∃ w f1 f2 f3, wY H v p w /\ fp = f1 ++ (f2 ++ f3) /\ aU K CL H Z u w f2 ∧
   ∀ {H' : Hp} {u' : T} {g : List Addr}, (∀ c ∈ f1 ++ f3, H' c = H c) -> aU K CL H' Z u' w g -> aU K CL H' Z (T.j9 p u' t) v (f1 ++ (g ++ f3))
 | [], t, u, v, fp, h, e => by
   obtain ⟨h1, h2⟩ := h.GV
   cases e
   exact ⟨v, [], fp, [], rfl, by simp, h1, fun {H' u' g} _ r => by rw [ajf, ahJ]; exact h2 r⟩
 | s :: p, t, u, v, fp, h, e => by
   obtain ⟨h1, h2⟩ := h.GV
   rw [T.iC] at e
   cases hk : t.core.F3 s with
   | none => rw [hk] at e; cases e
   | some k =>
     rw [hk] at e
     obtain ⟨w1, a1, a2, a3, q1, q2, q3, q4⟩ := h1.F3 zh hk
     obtain ⟨w, f1, f2, f3, r1, r2, r3, r4⟩ := aU.focus zh p q3 e
     subst q2 r2
     refine ⟨w, a1 ++ f1, f2, f3 ++ a3, ⟨w1, q1, r1⟩, by simp only [ahv], r3, fun {H' u' g} kk r' => ?_⟩
     rw [T.j9, hk]
     have q := h2 (q4 (k' := T.j9 p u' k) (fun c hc => kk c (by
       rcases ahB.mp hc with h | h
       . simp [h]
       . simp [h])) (r4 (fun c hc => kk c (by
       rcases ahB.mp hc with h | h
       . simp [h]
       . simp [h])) r'))
     simpa only [List.append_assoc] using q
theorem aL.vp (S : Q.q) (ev : σ[i]? = some (some v0)) (hi : δ[i]? = some (some t0)) (hp : T.iC p t0 = some u) (nI : wY H v0 p w) : ∃ f2 gp, aU K CL H Z u w f2 /\ aD K CL H Z ts vs gp /\ (f2 ++ gp).Nodup ∧
   ∀ {a : Addr} {o : HO} {u' : T} {tl' : List T} {Mv : List V} {g Jc : List Addr}, w = .ref a -> a ∈ f2 -> jU o = false -> aU K CL (upd H a o) Z u' w g -> aD K CL (upd H a o) Z tl' Mv Jc -> (g ++ Jc).Nodup -> (∀ c ∈ g ++ Jc, c ∈ f2 ++ gp) →
     aL K CL b (upd H a o) Z (δ.set i (some (T.j9 p u' t0))) σ tl' Mv := by
 obtain ⟨fp, gp, e, r, nd, k⟩ := S.rep
 obtain ⟨v1, e1, e2, e3, hv, kM, rt, put, _⟩ := e.get hi
 rw [ev] at hv
 cases hv
 obtain ⟨w', f1, f2, f3, at', hf, ru, put2⟩ := rt.focus S.zh p hp
 have hw := at'.inj nI
 subst hw
 subst hf
 subst kM
 have hpm : ((e1 ++ ((f1 ++ (f2 ++ f3)) ++ e3)) ++ gp).Perm ((e1 ++ (f1 ++ (f3 ++ e3))) ++ (f2 ++ gp)) := aiA.mpr fun c => by
   simp only [aiK]; omega
 have nd0 := hpm.nodup_iff.mp nd
 have Ef := ah3.mp nd0
 refine ⟨f2, gp, ru, r, Ef.2.1, fun {a o u' tl' Mv g Jc} hwa ha hm hu ht ZD Nv => ?_⟩
 have hup : ∀ c ∈ e1 ++ (f1 ++ (f3 ++ e3)), upd H a o c = H c := fun c hc => aj fun z => Ef.2.2 c hc a (ahy _ ha) z
 have q1 := put2 (H' := upd H a o) (fun c hc => hup c (by
   rcases ahB.mp hc with h | h
   . simp [h]
   . simp [h])) hu
 have q2 := put (H' := upd H a o) (.refl _) (fun c hc => hup c (by
   rcases ahB.mp hc with h | h
   . simp [h]
   . simp [h])) q1
 rw [cK ev] at q2
 have abg : ((e1 ++ ((f1 ++ (g ++ f3)) ++ e3)) ++ Jc).Perm ((e1 ++ (f1 ++ (f3 ++ e3))) ++ (g ++ Jc)) := aiA.mpr fun c => by
   simp only [aiK]; omega
 refine S.CD hm k (by simp [ha]) q2 ht (abg.nodup_iff.mpr (ah3.mpr ⟨Ef.1, ZD, fun c hc d hd => Ef.2.2 c hc d (Nv d hd)⟩)) fun c hc => ?_
 refine hpm.mem_iff.mpr ?_
 rcases ahB.mp (abg.mem_iff.mp hc) with h | h
 . exact ahy _ h
 . exact ahu _ (Nv c h)
theorem aL.GX (S : Q.q) (ev : σ[i]? = some (some v0)) (hi : δ[i]? = some (some t0)) (hp : T.iC p t0 = some u) : ∃ w f2, wY H v0 p w /\ aU K CL H Z u w f2 := by
 obtain ⟨fp, gp, e, r, nd, k⟩ := S.rep
 obtain ⟨v1, e1, e2, e3, hv, kM, rt, put, _⟩ := e.get hi
 rw [ev] at hv
 cases hv
 obtain ⟨w', f1, f2, f3, at', hf, ru, put2⟩ := rt.focus S.zh p hp
 exact ⟨w', f2, at', ru⟩
theorem aL.Te (S : aL K CL b H Z δ σ (t :: ts) (v :: vs)) (ev : σ[i]? = some (some v0)) (hi : δ[i]? = some (some t0)) (hp : T.iC p t0 = some (.lst tl)) (nI : wY H v0 p w) :
   ∃ a us, w = .ref a /\ H a = some (.lst us) /\ us.length = tl.length /\ aL K CL b (upd H a (.lst (us ++ [v]))) Z (δ.set i (some (T.j9 p (.lst (tl ++ [t])) t0))) σ ts vs := by
 obtain ⟨f2, gp, ru, rr, nd, go⟩ := S.vp ev hi hp nI
 cases ru with
 | @lst a us _ g ha rs =>
   cases rr with
   | @cons _ _ _ _ ft gr q1 q2 =>
     have ne : ∀ c ∈ g ++ (ft ++ gr), c ≠ a := fun c hc z => by subst z; exact (aia.mp nd).1 hc
     have pm : ((a :: (g ++ (ft ++ []))) ++ gr).Perm ((a :: g) ++ (ft ++ gr)) := aiA.mpr fun c => by simp only [aiK, ajA, List.count_nil]; omega
     exact ⟨a, us, rfl, ha, rs.length.symm, go rfl ahw rfl (.lst aC (aD.app (rs.mono (.refl _) fun c hc => aj Q.n) (.cons (q1.mono (.refl _) fun c hc => aj Q.n) .nil)))
       (q2.mono (.refl _) fun c hc => aj Q.n) (pm.nodup_iff.mpr nd) fun c hc => pm.mem_iff.mp hc⟩
theorem aL.Ot {ds : List D} (S : Q.q) (hr : aI K CL Z ds us) (ev : σ[i]? = some (some v0)) (hi : δ[i]? = some (some t0)) (hp : T.iC p t0 = some (.lst tl)) (nI : wY H v0 p w) :
   ∃ a ws, w = .ref a /\ H a = some (.lst ws) /\ ws.length = tl.length /\ aL K CL b (upd H a (.lst (ws ++ us))) Z (δ.set i (some (T.j9 p (.lst (tl ++ ds.map T.sh)) t0))) σ ts vs := by
 obtain ⟨f2, gp, ru, rr, nd, go⟩ := S.vp ev hi hp nI
 cases ru with
 | @lst a ws _ g ha rs =>
   have ne : ∀ c ∈ g ++ gp, c ≠ a := fun c hc z => by subst z; exact (aia.mp nd).1 hc
   exact ⟨a, ws, rfl, ha, rs.length.symm, go (g := a :: (g ++ [])) rfl ahw rfl (.lst aC (aD.app (rs.mono (.refl _) fun c hc => aj Q.n) (aD.ofF hr)))
     (rr.mono (.refl _) fun c hc => aj Q.n) (by rw [ahJ]; exact nd) fun c hc => by rw [ahJ] at hc; exact hc⟩
variable {j : Nat}
theorem aL.XR (S : aL K CL b H Z δ σ (t :: ts) (v :: vs)) (ev : σ[i]? = some (some v0)) (hi : δ[i]? = some (some t0)) (hp : T.iC p t0 = some (.lst tl)) (nI : wY H v0 p w) (hj : j < tl.length) :
   ∃ a us, w = .ref a /\ H a = some (.lst us) /\ us.length = tl.length /\ aL K CL b (upd H a (.lst (us.set j v))) Z (δ.set i (some (T.j9 p (.lst (tl.set j t)) t0))) σ ts vs := by
 obtain ⟨f2, gp, ru, rr, nd, go⟩ := S.vp ev hi hp nI
 cases ru with
 | @lst a us _ g ha rs =>
   cases rr with
   | @cons _ _ _ _ ft gr q1 q2 =>
     obtain ⟨w0, g1, g2, g3, h1, h2, h3, h4⟩ := rs.at (ahQ hj)
     subst h2
     have ne : ∀ c ∈ (g1 ++ (g2 ++ g3)) ++ (ft ++ gr), c ≠ a := fun c hc z => by subst z; exact (aia.mp nd).1 hc
     have sb : ((a :: (g1 ++ g3)) ++ (ft ++ gr)).Sublist ((a :: (g1 ++ (g2 ++ g3))) ++ (ft ++ gr)) := by
       simp only [ahT, ahv]
       exact List.Sublist.cons₂ _ (ah2 (ah5 _) (aij _ _))
     have pm : ((a :: (g1 ++ (ft ++ g3))) ++ gr).Perm ((a :: (g1 ++ g3)) ++ (ft ++ gr)) := aiA.mpr fun c => by simp only [aiK, ajA]; omega
     exact ⟨a, us, rfl, ha, rs.length.symm, go rfl ahw rfl (.lst aC (h4 (fun c hc => aj (ne c (by
         rcases ahB.mp hc with h | h
         . simp [h]
         . simp [h]))) (q1.mono (.refl _) fun c hc => aj Q.n)))
       (q2.mono (.refl _) fun c hc => aj Q.n) (pm.nodup_iff.mpr (nd.sublist sb)) fun c hc => sb.subset (pm.mem_iff.mp hc)⟩
theorem aL.ad7 (S : Q.q) (ev : σ[i]? = some (some v0)) (hi : δ[i]? = some (some t0)) (hp : T.iC p t0 = some (.lst (tl ++ [t]))) (nI : wY H v0 p w) :
   ∃ a us x, w = .ref a /\ H a = some (.lst (us ++ [x])) /\ aL K CL b (upd H a (.lst us)) Z (δ.set i (some (T.j9 p (.lst tl) t0))) σ (t :: ts) (x :: vs) := by
 obtain ⟨f2, gp, ru, rr, nd, go⟩ := S.vp ev hi hp nI
 cases ru with
 | @lst a us _ g ha rs =>
   obtain ⟨Mv, x, g1, g2, e1, e2, r1, r2⟩ := yH rs
   subst e1
   subst e2
   have ne : ∀ c ∈ (g1 ++ g2) ++ gp, c ≠ a := fun c hc z => by subst z; exact (aia.mp nd).1 hc
   have pm : ((a :: g1) ++ (g2 ++ gp)).Perm ((a :: (g1 ++ g2)) ++ gp) := aiA.mpr fun c => by simp only [aiK, ajA]; omega
   exact ⟨a, Mv, x, rfl, ha, go rfl ahw rfl (.lst aC (r1.mono (.refl _) fun c hc => aj Q.n))
     (.cons (r2.mono (.refl _) fun c hc => aj Q.n) (rr.mono (.refl _) fun c hc => aj Q.n)) (pm.nodup_iff.mpr nd) fun c hc => pm.mem_iff.mp hc⟩
theorem aL.abh (S : Q.q) (ev : σ[i]? = some (some v0)) (hi : δ[i]? = some (some t0)) (hp : T.iC p t0 = some (.lst (t :: tl))) (nI : wY H v0 p w) :
   ∃ a us x, w = .ref a /\ H a = some (.lst (x :: us)) /\ aL K CL b (upd H a (.lst us)) Z (δ.set i (some (T.j9 p (.lst tl) t0))) σ (t :: ts) (x :: vs) := by
 obtain ⟨f2, gp, ru, rr, nd, go⟩ := S.vp ev hi hp nI
 cases ru with
 | @lst a us _ g ha rs =>
   cases rs with
   | @cons _ x _ us g2 g1 r2 r1 =>
     have ne : ∀ c ∈ (g2 ++ g1) ++ gp, c ≠ a := fun c hc z => by subst z; exact (aia.mp nd).1 hc
     have pm : ((a :: g1) ++ (g2 ++ gp)).Perm ((a :: (g2 ++ g1)) ++ gp) := aiA.mpr fun c => by simp only [aiK, ajA]; omega
     exact ⟨a, us, x, rfl, ha, go rfl ahw rfl (.lst aC (r1.mono (.refl _) fun c hc => aj Q.n))
       (.cons (r2.mono (.refl _) fun c hc => aj Q.n) (rr.mono (.refl _) fun c hc => aj Q.n)) (pm.nodup_iff.mpr nd) fun c hc => pm.mem_iff.mp hc⟩
theorem aL.abi (S : Q.q) (ev : σ[i]? = some (some v0)) (hi : δ[i]? = some (some t0)) (hp : T.iC p t0 = some u) (nI : wY H v0 p w) : aL K CL b H Z (δ.set i (some (T.j9 p (.sh .any) t0))) σ (u :: ts) (w :: vs) := by
 obtain ⟨fp, gp, e, r, nd, k⟩ := S.rep
 obtain ⟨v1, e1, e2, e3, hv, kM, rt, put, _⟩ := e.get hi
 rw [ev] at hv
 cases hv
 obtain ⟨w', f1, f2, f3, at', hf, ru, put2⟩ := rt.focus S.zh p hp
 have hw := at'.inj nI
 subst hw
 subst hf
 subst kM
 have q2 := put (.refl _) (fun _ _ => rfl) (put2 (u' := .sh .any) (g := []) (fun _ _ => rfl) (.sh (.any _)))
 rw [cK ev] at q2
 have pm : ((e1 ++ ((f1 ++ ([] ++ f3)) ++ e3)) ++ (f2 ++ gp)).Perm ((e1 ++ ((f1 ++ (f2 ++ f3)) ++ e3)) ++ gp) := aiA.mpr fun c => by simp only [aiK, List.count_nil]; omega
 exact ⟨⟨_, _, q2, .cons ru r, pm.nodup_iff.mpr nd, fun c hc => k c (pm.mem_iff.mp hc)⟩, S.bh, S.zz, S.zh, S.new, S.tp, S.tab⟩
section
variable {δ1 : Q.f} {e e0 e2 : Expr} {t1 : T} {Rh : List T} {d : L3.D} {ds : List L3.D} {D : c9} {pos pa pb ps : Pos} {x c f : Str} {dm : List Stmt} {fs : List (Str × T)}
def F4 (X : Cx) (CL : Q.e) (b : Bx) (e : Expr) (δ : Q.f) (i : Nat) (p : List wX) : Prop :=
 ∀ (H Z : Hp) (σ : L2.St) (ts : List T) (vs : List V) (Q : VK), aL X.K CL b H Z δ σ ts vs -> (∀ v0 v H' Z', aB Z Z' -> aB H H' -> aL X.K CL b H' Z' δ σ ts vs -> σ[i]? = some (some v0) -> wY H' v0 p v -> Q v H') -> pZ X e σ H Q
theorem bO (n : Vn X i x) (h : δ[i]? = some (some t)) : F4 X CL b (.Name x pos) δ i [] := fun H Z σ ts vs Q S k => by
 obtain ⟨v, hv, _⟩ := S.look h
 exact bZ (eB n.hi n.hv n.hd n.j3) ⟨v, hv, k v v H Z (.refl _) (.refl _) S hv rfl⟩
theorem yJ (hc : j5 X.K (CL c)) (n : aG X.K (CL c) f) (h : F4 X CL b e δ i p) (hi : δ[i]? = some (some t)) (hg : T.iC p t = some (.ins c fs)) (hl : fs.lookup f = some u) (hb : attributeBase e f X.env (eval e X.env) = eval e X.env := by rfl) :
   F4 X CL b (.Attribute e f pos) δ i (p ++ [.fld f]) := fun H Z σ ts vs Q S k =>
 bZ (Gh c7 hb) (h H Z σ ts vs _ S fun v0 v H' Z' z s S' ev nI => by
   obtain ⟨w, f2, at', r⟩ := S'.GX ev hi hg
   have := at'.inj nI
   subst this
   cases r with
   | @ins a dx _ gs _ g ha rs =>
     obtain ⟨w, _, _, _, hw, _, _, _⟩ := cT.at fs rs hl
     exact ⟨a, CL c, dx, gs, w, rfl, ha, hc, n, hw, k v0 w H' Z' z s S' ev (nI.snoc ⟨a, _, dx, gs, rfl, ha, hw⟩)⟩)
theorem jt {z : Int} (h : F4 X CL b e δ i p) (hi : δ[i]? = some (some t)) (hg : T.iC p t = some (.lst tl)) (h2 : eF X CL b e2 δ (.int z) δ) (hk : Ew tl.length z = some j) (hp : oG e2 := by exact fun _ _ => rfl) :
   F4 X CL b (.Subscript e e2 pos) δ i (p ++ [.ix j]) := fun H Z σ ts vs Q S k =>
 bZ (yk Cg c7 c7 hp) (h H Z σ ts vs _ S fun v0 v H' Z' z1 s1 S' ev nI => h2 H' Z' σ ts vs _ S' fun v2 H2 Z2 z2 s2 S2 r2 => by
   have at2 := nI.mono s2
   obtain ⟨w, f2, at', r⟩ := S2.GX ev hi hg
   have := at'.inj at2
   subst this
   cases r with
   | @lst a us _ g ha rs =>
     have hj : j < tl.length := (qZ hk).2.1
     obtain ⟨w, _, _, _, hw, _, _, _⟩ := rs.at (ahQ hj)
     refine ⟨a, us, z, w, rfl, r2.sc rfl, oB.of ha, ?_, k v0 w H2 Z2 (z1.trans z2) (s1.trans s2) S2 ev (at2.snoc ⟨a, us, rfl, .inl ha, hw⟩)⟩
     unfold wF
     rw [← rs.length, hk]
     exact hw)
theorem GY {z : Int} (h : F4 X CL b e δ i p) (hi : δ[i]? = some (some t)) (hg : T.iC p t = some (.tup tl)) (h2 : eF X CL b e2 δ (.int z) δ) (hk : Ew tl.length z = some j) (hp : oG e2 := by exact fun _ _ => rfl) :
   F4 X CL b (.Subscript e e2 pos) δ i (p ++ [.ix j]) := fun H Z σ ts vs Q S k =>
 bZ (yk Ci c7 c7 hp) (h H Z σ ts vs _ S fun v0 v H' Z' z1 s1 S' ev nI => h2 H' Z' σ ts vs _ S' fun v2 H2 Z2 z2 s2 S2 r2 => by
   have at2 := nI.mono s2
   obtain ⟨w, f2, at', r⟩ := S2.GX ev hi hg
   have := at'.inj at2
   subst this
   cases r with
   | @tup a us _ g ha rs =>
     have hj : j < tl.length := (qZ hk).2.1
     obtain ⟨w, _, _, _, hw, _, _, _⟩ := rs.at (ahQ hj)
     refine ⟨a, us, z, w, rfl, r2.sc rfl, sO.of (S2.zh _ _ ha), ?_, k v0 w H2 Z2 (z1.trans z2) (s1.trans s2) S2 ev (at2.snoc ⟨a, us, rfl, .inr (S2.zh _ _ ha), hw⟩)⟩
     unfold wF
     rw [← rs.length, hk]
     exact hw)
theorem oS (h : F4 X CL b e δ i p) (hi : δ[i]? = some (some t)) (hg : T.iC p t = some (.sh d)) : bS X CL b e δ (.sh d) δ := fun H Z σ ts vs Q S k =>
 h H Z σ ts vs _ S fun v0 v H' Z' z s S' ev nI => by
   obtain ⟨w, f2, at', r⟩ := S'.GX ev hi hg
   have := at'.inj nI
   subst this
   cases r with
   | sh r => exact k _ H' Z' z s (S'.push r)
theorem oU (h : F4 X CL b e δ i p) (hi : δ[i]? = some (some t)) (hg : T.iC p t = some u) (hd : u.aZ = d) : eF X CL b e δ d δ := fun H Z σ ts vs Q S k =>
 h H Z σ ts vs _ S fun v0 v H' Z' z s S' ev nI => by
   obtain ⟨w, f2, at', r⟩ := S'.GX ev hi hg
   have := at'.inj nI
   subst this
   subst hd
   exact k _ H' Z' z s S' (r.aZ S'.zh fun _ _ => rfl)
theorem Tf (h : F4 X CL b e δ i p) (hi : δ[i]? = some (some t)) (hg : T.iC p t = some u) : bS X CL b e δ u (δ.set i (some (T.j9 p (.sh .any) t))) := fun H Z σ ts vs Q S k =>
 h H Z σ ts vs _ S fun v0 v H' Z' z s S' ev nI => k v H' Z' z s (S'.abi ev hi hg nI)
theorem CT (hE : F4 X CL b e0 δ i p) (h0 : δ[i]? = some (some t0)) (hp0 : T.iC p t0 = some (.lst Rh)) (h : bS X CL b e δ t δ1) (h1 : δ1[i]? = some (some t1)) (Tg : T.iC p t1 = some (.lst tl)) (hl : tl.length <= 1000000) (k : cH X CL b dm (δ1.set i (some (T.j9 p (.lst (tl ++ [t])) t1))) D)
   (eV : attributeBase e0 "append" X.env (eval e0 X.env) = eval e0 X.env := by rfl)
   (sP : Q.G := by rfl)
   (hline : (pa.endLine == pb.line) = true := by rfl) (hs : Q.y := by exact aV rfl) (t7 : swapsWith (.Call (.Attribute e0 "append" pa) [e] [] pb) none pos.line X.env = pure false := by rfl) :
   cH X CL b (.Expr (.Call (.Attribute e0 "append" pa) [e] [] pb) pos :: dm) δ D := aY fun H Z σ ts vs E S M =>
 kL (oE (Bv aiu ajG ajH nK c7 (bI c7 dF hs) eV sP hline hs rfl) t7) (hE H Z σ ts vs _ S fun v0 v H0 Z0 z0 s0 S0 ev nI => by
   obtain ⟨w, f2, at', r⟩ := S0.GX ev h0 hp0
   have := at'.inj nI
   subst this
   refine ⟨?_, h H0 Z0 σ ts vs _ S0 fun v2 H1 Z1 z1 k1 S1 => ?_⟩
   . cases r with
     | lst ha _ => exact .inl ⟨rfl, _, oB.of ha⟩
   . obtain ⟨a, us, ea, ha, hu, S2⟩ := S1.Te ev h1 Tg (nI.mono k1)
     exact ⟨a, us, v2, ea, rfl, ha, by rw [hu]; exact aiD hl (by rw [aix]; decide), M.nx _ σ _ Z1 (z0.trans z1) S2 k⟩)
theorem Ti (hE : F4 X CL b e0 δ i p) (h0 : δ[i]? = some (some t0)) (hp0 : T.iC p t0 = some (.lst Rh)) (h : eF X CL b e δ (.lst ds) δ1) (XS : L3.D.bJ ds = true) (h1 : δ1[i]? = some (some t1)) (Tg : T.iC p t1 = some (.lst tl)) (hl : tl.length + ds.length <= 1000000) (k : cH X CL b dm (δ1.set i (some (T.j9 p (.lst (tl ++ ds.map T.sh)) t1))) D)
   (eV : attributeBase e0 "extend" X.env (eval e0 X.env) = eval e0 X.env := by rfl)
   (sP : Q.G := by rfl)
   (hline : (pa.endLine == pb.line) = true := by rfl) (hs : Q.y := by exact aV rfl) (t7 : swapsWith (.Call (.Attribute e0 "extend" pa) [e] [] pb) none pos.line X.env = pure false := by rfl) :
   cH X CL b (.Expr (.Call (.Attribute e0 "extend" pa) [e] [] pb) pos :: dm) δ D := aY fun H Z σ ts vs E S M =>
 kL (oE (Bv aiu PySem.F.slot_list_extend PySem.F.type_list_extend Tc c7 (bI c7 dF hs) eV sP hline hs rfl) t7) (hE H Z σ ts vs _ S fun v0 v H0 Z0 z0 s0 S0 ev nI => by
   obtain ⟨w, f2, at', r⟩ := S0.GX ev h0 hp0
   have := at'.inj nI
   subst this
   refine ⟨?_, h H0 Z0 σ ts vs _ S0 fun v2 H1 Z1 z1 k1 S1 rr => ?_⟩
   . cases r with
     | lst ha _ => exact .inl ⟨rfl, _, oB.of ha⟩
   . cases rr with
     | lst hq rr =>
       obtain ⟨a, ws, ea, ha, hu, S2⟩ := S1.Ot (aI.mq S1.tp XS rr) ev h1 Tg (nI.mono k1)
       have hz := rr.length
       exact ⟨a, _, ws, _, ea, rfl, ha, hq, by rw [hu, ← hz]; exact aiC (aiD hl (by rw [aix]; decide)), M.nx _ σ _ Z1 (z0.trans z1) S2 k⟩)
theorem XT {z : Int} (h : bS X CL b e δ t δ1) (hE : F4 X CL b e0 δ1 i p) (h2 : eF X CL b e2 δ1 (.int z) δ1) (h1 : δ1[i]? = some (some t1)) (Tg : T.iC p t1 = some (.lst tl)) (hk : Ew tl.length z = some j) (kk : cH X CL b dm (δ1.set i (some (T.j9 p (.lst (tl.set j t)) t1))) D)
   (ha : ∀ v, assign (.Subscript e0 e2 ps) X.env v = (do
     let ov ← holding [v] (eval e0 X.env)
     let iv ← holding [v, ov] (eval e2 X.env)
     standAt ps
     holding [v, ov, iv] (setItem ov iv v)
     release [v, ov, iv] []) := by intro _; rfl)
   (hs : swapsWithSole [.Subscript e0 e2 ps] e pos.line X.env = pure false := by rfl) (hw : swappedStores [.Subscript e0 e2 ps] e X.env = pure none := by rfl) (Sg : (assignEach [.Subscript e0 e2 ps] X.env).map (·.2) = [assign (.Subscript e0 e2 ps) X.env] := by rfl) :
   cH X CL b (.Assign [.Subscript e0 e2 ps] e pos :: dm) δ D := by
 refine aY fun H Z σ ts vs E S M => kL (MG c7 (MF c7 c7 set_list ha) hs hw Sg) (h H Z σ ts vs _ S fun v H1 Z1 z1 k1 S1 => ?_)
 have hj : j < tl.length := (qZ hk).2.1
 refine hE H1 Z1 σ _ _ _ S1 fun v0 w H2 Z2 z2 k2 S2 ev nI => h2 H2 Z2 σ _ _ _ S2 fun v2 H3 Z3 z3 k3 S3 r3 => ?_
 obtain ⟨a, us, ea, Kr, hu, S4⟩ := S3.XR ev h1 Tg (nI.mono k3) hj
 exact ⟨a, us, z, j, ea, r3.sc rfl, Kr, by rw [hu]; exact hk, M.nx _ σ _ Z3 (z1.trans (z2.trans z3)) S4 kk⟩
theorem xG (hE : F4 X CL b e0 δ i p) (h : δ[i]? = some (some t0)) (hp : T.iC p t0 = some (.lst (tl ++ [t]))) (eV : attributeBase e0 "pop" X.env (eval e0 X.env) = eval e0 X.env := by rfl) (hline : (pa.endLine == pos.line) = true := by rfl) :
   iB X CL b (.Call (.Attribute e0 "pop" pa) [] [] pos) δ t (δ.set i (some (T.j9 p (.lst tl) t0))) := fun H Z σ ts vs Q S k =>
 bZ (WY aiu PySem.F.slot_list_pop PySem.F.type_list_pop W0 c7 eV hline) (hE H Z σ ts vs _ S fun v0 w H0 Z0 z0 s0 S0 ev nI => by
   obtain ⟨a, us, x, ea, ha, S2⟩ := S0.ad7 ev h hp nI
   subst ea
   refine ⟨.inl ⟨rfl, _, .inl (.inl ha)⟩, a, us ++ [x], x, rfl, rfl, ha, by simp, ?_⟩
   rw [List.dropLast_concat]
   exact k x _ Z0 z0 S2)
theorem Ou {kj : Nat} {pc : Pos} (hE : F4 X CL b e0 δ i p) (h : δ[i]? = some (some t0)) (hp : T.iC p t0 = some (.lst (t :: tl))) (eV : attributeBase e0 "pop" X.env (eval e0 X.env) = eval e0 X.env := by rfl)
   (sP : ((backTo pos (starEach [.Constant (.int 0) kj pc] X.env)).all (fun x => !x.1) && (backToKw pos (keywordEach [] X.env)).all (fun x => x.1.isSome) && decide ([Expr.Constant (.int 0) kj pc].length + ([] : List Keyword).length + (if ([] : List Keyword).isEmpty then 0 else 1) < 30)) = true := by rfl)
   (hline : (pa.endLine == pos.line) = true := by rfl) (hs : starEach [.Constant (.int 0) kj pc] X.env = (false, eval (.Constant (.int 0) kj pc) X.env) :: starEach [] X.env := by exact aV rfl) :
   iB X CL b (.Call (.Attribute e0 "pop" pa) [.Constant (.int 0) kj pc] [] pos) δ t (δ.set i (some (T.j9 p (.lst tl) t0))) := fun H Z σ ts vs Q S k =>
 bZ (Bv aiu PySem.F.slot_list_pop PySem.F.type_list_pop Nh c7 (bI F7 dF hs) eV sP hline hs rfl) (hE H Z σ ts vs _ S fun v0 w H0 Z0 z0 s0 S0 ev nI => by
   obtain ⟨a, us, x, ea, ha, S2⟩ := S0.abh ev h hp nI
   subst ea
   refine ⟨.inl ⟨rfl, _, .inl (.inl ha)⟩, a, x :: us, 0, 0, x, rfl, rfl, ha, by decide, by decide, ?_, rfl, ?_⟩
   . unfold seqIndex?
     simp
   . exact k x _ Z0 z0 S2)
end
theorem cT.none {m : Str} : ∀ {fs : List (Str × T)} {gs : List (Str × V)} {fp : List Addr}, cT K CL H Z fs gs fp -> fs.lookup m = none -> gs.lookup m = none := by
 intro fs
 induction fs with
 | nil => intro gs fp r _; cases r; rfl
 | cons p fs ih =>
   intro gs fp r h
   cases r with
   | cons q r =>
     rw [ah1] at h ⊢
     split at h
     . cases h
     . exact ih r h
section
variable {δ1 : Q.f} {e o : Expr} {es : List Expr} {pos pp apos : Pos} {x c m : Str} {is : List Nat} {fx : List Addr -> Prop} {al : List Addr -> List T} {y : Addr} {fs : List (Str × T)} {A : Type} {k n : Nat} {f : Addr} {fd : FuncData} {ps : List Str} {arg : A -> List T} {Pre : A -> Prop} {res : A -> T} {out : A -> List T}
abbrev XK0 : XK := fun _ _ _ => True
theorem vq {H1 Z1 : Hp} {al : List T} {ys : List Addr} {ns : List T} {Q : VK} {E : XK} (a : A) (Sg : arg a = al) (SG : (arg a).length = n) (hp : Pre a) (hrs : res a = t) (hpu : kH (out a) ys ns) (GQ : AtS σ is ys) (rY : ∀ i ∈ is, i < δ1.length) (SR : us.length = al.length)
   (S1 : aL X.K CL b H1 Z1 δ1 σ (al.reverse ++ ts) (us.reverse ++ vs)) (kk : ∀ v H' Z', aB Z1 Z' -> aL X.K CL b H' Z' (GP δ1 is ns) σ (t :: ts) (v :: vs) -> Q v H') : F2 X.K CL n arg Pre res out us H1 Q E := by
 obtain ⟨g, r, nd, S2⟩ := S1.cut (by simp [SR])
 obtain ⟨g', r', pm⟩ := r.rev
 have ec : qb H1 g = qb H1 g' := funext fun c => by
   by_cases hc : c ∈ g
   . rw [oR hc, oR (pm.mem_iff.mpr hc)]
   . rw [gQ hc, gQ (fun z => hc (pm.mem_iff.mp z))]
 rw [ec] at S2
 rw [← Sg] at r'
 refine ⟨Z1, a, g', S2.zh, S1.tp, r', pm.nodup_iff.mpr nd, SG, hp, S1.Gu, fun v H' W' fp hh ww wh nw tp rt Ef own => ?_⟩
 cases rt with
 | @cons _ _ _ _ f1 f2 q1 q2 =>
   have Jb : (f2 ++ (f1 ++ [])).Perm (f1 ++ f2) := by rw [ahJ]; exact ahV
   have S3 := S2.N7 hh ww wh nw tp (aD.app q2 (.cons q1 .nil)) (Jb.nodup_iff.mpr Ef) fun c hc => own c (Jb.mem_iff.mp hc)
   rw [ahv, ahv] at S3
   have S4 := S3.SM q2.length GQ hpu rY
   rw [hrs] at S4
   exact kk v H' W' ww S4
inductive Recv (δ : Q.f) (i : Nat) (c : Str) (fs : List (Str × T)) : (Addr -> Prop) -> Prop where
 | own : δ[i]? = some (some (.ins c fs)) -> Recv δ i c fs (fun _ => True)
 | pin {y : Addr} : δ[i]? = some (some (.pin y (.ins c fs))) -> Recv δ i c fs (fun z => z = y)
theorem aL.recv {g : Addr -> Prop} (S : aL X.K CL b H Z δ σ ts vs) (h : Recv δ i c fs g) : ∃ y dx gs, g y /\ σ[i]? = some (some (.ref y)) /\ H y = some (.ins (CL c) dx gs) /\ (∀ m, fs.lookup m = none -> gs.lookup m = none) /\ aL X.K CL b H Z (δ.set i none) σ (.pin y (.ins c fs) :: ts) (.ref y :: vs) := by
 cases h with
 | own h =>
   obtain ⟨v, e, S1⟩ := S.move h
   obtain ⟨y, rfl, S0⟩ := S1.N9 rfl
   obtain ⟨fp, gp, _, r, _, _⟩ := S0.rep
   cases r with
   | cons r _ =>
     cases r with
     | pin r =>
       cases r with
       | ins ha rs => exact ⟨y, _, _, trivial, e, ha, fun m hm => rs.none hm, S0⟩
 | @pin y h =>
   obtain ⟨v, e, S0⟩ := S.move h
   obtain ⟨fp, gp, _, r, _, _⟩ := S0.rep
   cases r with
   | cons r _ =>
     cases r with
     | pin r =>
       cases r with
       | ins ha rs => exact ⟨y, _, _, rfl, e, ha, fun m hm => rs.none hm, S0⟩
theorem Ov {pl : Sem Bool} {g : Addr -> Prop} (a : Addr -> List Addr -> A) (ns : List T) (cc : j5 X.K (CL c)) (hm : Meth X.K (CL c) m f) (F : cJ X.prog X.w X.K X.mg X.base lu k f fd ps (F2 X.K CL n arg Pre res out)) (hr : c6 k X.A) (hb : Binds X.K fd ps [])
   (nm : Vn X i x) (hi : Recv δ i c fs g) (hf : fs.lookup m = none) (h : KN X CL b (e :: es) (δ.set i none) is fx al δ1)
   (ha : ∀ y ys, g y -> ys.length = is.length -> fx ys -> arg (a y ys) = .pin y (.ins c fs) :: al ys /\ (arg (a y ys)).length = n /\ Pre (a y ys) /\ res (a y ys) = t /\ kH (out (a y ys)) (y :: ys) ns) (rY : ∀ j ∈ i :: is, j < δ1.length)
   (he : Q.r := by exact aV rfl) (hpl : Q.w := by rfl)
   (ht : eval (.Call (.Attribute (.Name x pp) m apos) (e :: es) [] pos) X.env = (do
     let ov ← eval (.Name x pp) X.env
     standAt apos.atName
     let (f, first) ← holding [ov] (getMethod ov m pl)
     callWith pos f first (backTo pos (starEach (e :: es) X.env)) Q.A) := by rfl) :
   iB X CL b (.Call (.Attribute (.Name x pp) m apos) (e :: es) [] pos) δ t (GP δ1 (i :: is) ns) := fun H Z σ ts vs Q S kk => by
 obtain ⟨y, dx, gs, hy, ev, hH, hn, S0⟩ := S.recv hi
 refine bZ (IC (eB nm.hi nm.hv nm.hd nm.j3) cc hm F hr hb .nil qh Cp he hpl ht) ⟨_, ev, y, dx, gs, rfl, hH, hn m hf, h H Z σ _ _ _ S0 fun ys us H1 Z1 hly GQ hfx SR z1 k1 S1 => ?_⟩
 rw [ahJ]
 obtain ⟨h1, h2, h3, h4, h5⟩ := ha y ys hy hly hfx
 refine vq (al := .pin y (.ins c fs) :: al ys) (us := .ref y :: us) (is := i :: is) (ys := y :: ys) (a y ys) h1 h2 h3 h4 h5 ⟨ev, GQ⟩ rY (by simp [SR]) ?_ fun v H' Z' z S' => kk v H' Z' (z1.trans z) S'
 rw [aib, aib, ahv, ahv]
 exact S1
theorem KY {pl : Sem Bool} {g : Addr -> Prop} (a : Addr -> A) (nt : T) (cc : j5 X.K (CL c)) (hm : Meth X.K (CL c) m f) (F : cJ X.prog X.w X.K X.mg X.base lu k f fd ps (F2 X.K CL n arg Pre res out)) (hr : c6 k X.A) (hb : Binds X.K fd ps [])
   (nm : Vn X i x) (hi : Recv δ i c fs g) (hf : fs.lookup m = none)
   (ha : ∀ y, g y -> arg (a y) = [.pin y (.ins c fs)] /\ (arg (a y)).length = n /\ Pre (a y) /\ res (a y) = t /\ kH (out (a y)) [y] [nt]) (rY : i < δ.length)
   (ht : eval (.Call (.Attribute (.Name x pp) m apos) [] [] pos) X.env = (do
     let ov ← eval (.Name x pp) X.env
     standAt apos.atName
     let (f, first) ← holding [ov] (getMethod ov m pl)
     callWith pos f first (backTo pos (starEach [] X.env)) Q.A) := by rfl) :
   iB X CL b (.Call (.Attribute (.Name x pp) m apos) [] [] pos) δ t (δ.set i (some nt)) := fun H Z σ ts vs Q S kk => by
 obtain ⟨y, dx, gs, hy, ev, hH, hn, S0⟩ := S.recv hi
 refine bZ (Es (E := XK0) (eB nm.hi nm.hv nm.hd nm.j3) cc hm F hr hb .nil qh ht) ⟨_, ev, y, dx, gs, rfl, hH, hn m hf, ?_⟩
 obtain ⟨h1, h2, h3, h4, h5⟩ := ha y hy
 refine vq (E := XK0) (al := [.pin y (.ins c fs)]) (us := [.ref y]) (is := [i]) (ys := [y]) (ns := [nt]) (δ1 := δ.set i none) (a y) h1 h2 h3 h4 h5 ⟨ev, trivial⟩ (fun j hj => by cases ail.mp hj; rw [ajz]; exact rY) rfl S0 fun v H' Z' z S' => kk v H' Z' z ?_
 have e : GP (δ.set i none) [i] [nt] = δ.set i (some nt) := by
   show ((δ.set i none).set i (some nt)) = _
   rw [List.set_set]
 rw [e] at S'
 exact S'
structure XU (X : Cx) (CL : Q.e) (c m : Str) (k n : Nat) {A : Type} (arg : A -> List T) (Pre : A -> Prop) (res : A -> T) (out : A -> List T) : Prop where
 ex : ∃ f fd ps, Meth X.K (CL c) m f /\ cJ X.prog X.w X.K X.mg X.base lu k f fd ps (F2 X.K CL n arg Pre res out) /\ Binds X.K fd ps []
 room : c6 k X.A
 cls : j5 X.K (CL c)
theorem qM {pl : Sem Bool} {g : Addr -> Prop} {dl : List L3.D} (a : Addr -> A) (nt : T) (F : XU X CL c m k n arg Pre res out) (nm : Vn X i x) (hi : Recv δ i c fs g) (h : Ec X CL b (e :: es) (δ.set i none) (dl.map T.sh) δ1) (hp : ∀ y, g y -> Pre (a y)) (yG : ∀ y, g y -> res (a y) = t) (CJ : ∀ y, g y -> kH (out (a y)) [y] [nt])
   (hf : fs.lookup m = none := by rfl) (wW : ∀ y, g y -> arg (a y) = .pin y (.ins c fs) :: dl.map T.sh := by intros; rfl) (hlen : ∀ y, (arg (a y)).length = n := by intros; rfl) (rY : i < δ1.length := by exact ahA rfl)
   (he : Q.r := by exact aV rfl) (hpl : Q.w := by rfl)
   (ht : eval (.Call (.Attribute (.Name x pp) m apos) (e :: es) [] pos) X.env = (do
     let ov ← eval (.Name x pp) X.env
     standAt apos.atName
     let (f, first) ← holding [ov] (getMethod ov m pl)
     callWith pos f first (backTo pos (starEach (e :: es) X.env)) Q.A) := by rfl) :
   iB X CL b (.Call (.Attribute (.Name x pp) m apos) (e :: es) [] pos) δ t (δ1.set i (some nt)) := by
 obtain ⟨⟨f, fd, ps, M, G, bd⟩, r, cc⟩ := F
 have h' : KN X CL b (e :: es) (δ.set i none) [] (fun _ => True) (fun _ => dl.map T.sh) δ1 := fun H Z σ ts vs Q S k => h H Z σ ts vs Q S fun us H' Z' hl z s S' => k [] us H' Z' rfl trivial trivial hl z s S'
 exact Ov (fun y _ => a y) [nt] cc M G r bd nm hi hf h' (fun y ys hy hl _ => by
   cases ajL.mp hl
   exact ⟨wW y hy, hlen y, hp y hy, yG y hy, CJ y hy⟩) (fun j hj => by cases ail.mp hj; exact rY) he hpl ht
theorem qM0 {pl : Sem Bool} {g : Addr -> Prop} (a : Addr -> A) (nt : T) (F : XU X CL c m k n arg Pre res out) (nm : Vn X i x) (hi : Recv δ i c fs g) (hp : ∀ y, g y -> Pre (a y)) (yG : ∀ y, g y -> res (a y) = t) (CJ : ∀ y, g y -> kH (out (a y)) [y] [nt])
   (hf : fs.lookup m = none := by rfl) (wW : ∀ y, g y -> arg (a y) = [.pin y (.ins c fs)] := by intros; rfl) (hlen : ∀ y, (arg (a y)).length = n := by intros; rfl) (rY : i < δ.length := by exact ahA rfl)
   (ht : eval (.Call (.Attribute (.Name x pp) m apos) [] [] pos) X.env = (do
     let ov ← eval (.Name x pp) X.env
     standAt apos.atName
     let (f, first) ← holding [ov] (getMethod ov m pl)
     callWith pos f first (backTo pos (starEach [] X.env)) Q.A) := by rfl) :
   iB X CL b (.Call (.Attribute (.Name x pp) m apos) [] [] pos) δ t (δ.set i (some nt)) := by
 obtain ⟨⟨f, fd, ps, M, G, bd⟩, r, cc⟩ := F
 exact KY a nt cc M G r bd nm hi hf (fun y hy => ⟨wW y hy, hlen y, hp y hy, yG y hy, CJ y hy⟩) rY ht
end
end L3
namespace L2
open PySem PySem.Spec PyProof.Rows
section
variable {X : Cx} {CX : J9} {k : Nat} {f C : Addr} {fd : FuncData} {ps : List Str} {sp : Sp} {wC : List V} {ds : List Value} {E : XK} {x m : Str} {p pos apos : Pos} {e : Expr} {es : List Expr} {t : TA}
structure VN (K : Q.h) (C : Addr) (m : Str) (f : Addr) : Prop where
 ga : PySem.W.specialIn K (.ref C) "__getattribute__" = some (some (.builtin "type.__getattribute__"))
 rd : PySem.W.readsIn K C (.type "type") = true
 fnd : PySem.W.findCls K (.ref C) (.type "type") m = some (.val (.ref f))
 kp : PySem.W.keepIn K (.ref f) = true
theorem Ow {pl : Sem Bool} (hc : VN X.K C m f) (F : cJ X.prog X.w X.K X.mg X.base CX k f fd ps sp) (hr : c6 k X.A) (hg : Gl X x) (W4 : X.mg x = some (.ref C)) (hb : Binds X.K fd ps ds) (hd : Vals wC ds) (hx : Passes CX X E) (ha : PA X (e :: es) t)
   (qg : Q.m := by decide) (kG : Q.r := by rfl) (hpl : Q.w := by rfl)
   (ht : eval (.Call (.Attribute (.Name x p) m apos) (e :: es) [] pos) X.env = (do
     let ov ← eval (.Name x p) X.env
     standAt apos.atName
     let (f, first) ← holding [ov] (getMethod ov m pl)
     callWith pos f first (backTo pos (starEach (e :: es) X.env)) Q.A) := by rfl) :
   PE X (.Call (.Attribute (.Name x p) m apos) (e :: es) [] pos) (M3 sp wC E t) := by
 intro pins s σ H Q I h
 refine ai2 (pl := pl) (di (Ca (v := .ref C) hg W4 rfl qg pins s σ H (fun v H1 => v = .ref C /\ H1 = H) I ⟨rfl, rfl⟩) fun u s1 ⟨x, H1, I1, rx, ex, eh⟩ => ?_) ht
 subst ex
 subst eh
 obtain rfl : u = Value.ref C := rx
 refine PySem.W.method_cls I1.wR hc.ga (PySem.W.cls_value I1.wR hc.rd hc.fnd rfl ?_)
 have I2 := I1.tok (s1.toks + 1)
 refine ajE (h₀ := X.base) I.ok.mod.Zj hc.kp (di (ha pos pins _ σ H1 _ I2 h) fun us s2 ⟨vs, H2, I3, r, q2⟩ => ⟨I3.wR, ?_⟩) kG hpl
 exact yh F hr hb hd hx I3 r q2
end
end L2
namespace L3
open PySem PySem.Spec PyProof.Rows L2
section
variable {X : Cx} {CL : Q.e} {b : Bx} {δ δ1 : Q.f} {e : Expr} {es : List Expr} {t : T} {pos pp apos : Pos} {i : Nat} {x m : Str} {is : List Nat} {fx : List Addr -> Prop} {al : List Addr -> List T} {y : Addr} {A : Type} {k n : Nat} {arg : A -> List T} {Pre : A -> Prop} {res : A -> T} {out : A -> List T}
structure FkM (X : Cx) (CL : Q.e) (x m : Str) (k n : Nat) {A : Type} (arg : A -> List T) (Pre : A -> Prop) (res : A -> T) (out : A -> List T) : Prop where
 ex : ∃ f fd ps, VN X.K (CL x) m f /\ cJ X.prog X.w X.K X.mg X.base lu k f fd ps (F2 X.K CL n arg Pre res out) /\ X.mg x = some (.ref (CL x)) /\ Binds X.K fd ps []
 room : c6 k X.A
theorem kM1 {pl : Sem Bool} (a : Addr -> A) (nt : T) (F : FkM X CL x m k n arg Pre res out) (hg : Gl X x) (h : KN X CL b (e :: es) δ [i] fx al δ1) (hp : ∀ y, fx [y] -> Pre (a y)) (yG : ∀ y, fx [y] -> res (a y) = t) (CJ : ∀ y, fx [y] -> kH (out (a y)) [y] [nt])
   (wW : ∀ y, fx [y] -> arg (a y) = al [y] := by intros; rfl) (hlen : ∀ y, (arg (a y)).length = n := by intros; rfl) (rY : i < δ1.length := by exact ahA rfl)
   (qg : Q.m := by decide) (he : Q.r := by exact aV rfl) (hpl : Q.w := by rfl)
   (ht : eval (.Call (.Attribute (.Name x pp) m apos) (e :: es) [] pos) X.env = (do
     let ov ← eval (.Name x pp) X.env
     standAt apos.atName
     let (f, first) ← holding [ov] (getMethod ov m pl)
     callWith pos f first (backTo pos (starEach (e :: es) X.env)) Q.A) := by rfl) :
   iB X CL b (.Call (.Attribute (.Name x pp) m apos) (e :: es) [] pos) δ t (δ1.set i (some nt)) := fun H Z σ ts vs Q S kk => by
 obtain ⟨⟨f, fd, ps, C, G, mg, bd⟩, r⟩ := F
 refine bZ (Ow C G r hg mg bd .nil qh Cp qg he hpl ht) (h H Z σ ts vs _ S fun ys us H1 Z1 hly GQ hf SR z1 k1 S1 => ?_)
 rw [ahJ]
 match ys, hly, hf, GQ, S1, SR with
 | [y], _, hf, GQ, S1, SR => exact vq (al := al [y]) (is := [i]) (ys := [y]) (ns := [nt]) (a y) (wW y hf) (hlen y) (hp y hf) (yG y hf) (CJ y hf) GQ (fun j hj => by cases ail.mp hj; exact rY) SR S1 fun v H' Z' z S' => kk v H' Z' (z1.trans z) S'
end
theorem gH.none {K : Q.h} {CL : Q.e} {Z : Hp} {m : Str} : ∀ {fs : List (Str × D)} {gs : List (Str × V)}, gH K CL Z fs gs -> fs.lookup m = none -> gs.lookup m = none := by
 intro fs
 induction fs with
 | nil => intro gs r _; cases r; rfl
 | cons p fs ih =>
   intro gs r h
   cases r with
   | cons q r =>
     rw [ah1] at h ⊢
     split at h
     . cases h
     . exact ih r h
section
variable {X : Cx} {CL : Q.e} {b : Bx} {δ δ1 δ2 : Q.f} {e e1 e2 o : Expr} {es : List Expr} {pos apos pos' : Pos} {i : Nat} {x c m : Str} {fs : List (Str × L3.D)} {ds : List L3.D} {D : c9} {dm : List Stmt} {A : Type} {k n : Nat} {arg : A -> List L3.D} {Pre : A -> Prop} {res : A -> T}
theorem q_ {pl : Sem Bool} (a : A) (F : Fq X CL c m k n arg Pre res) (ho : eF X CL b o δ (.ins c fs) δ1) (hf : fs.lookup m = none) (h : Mu X CL b (e :: es) δ1 ds δ2) (Sl : arg a = .ins c fs :: ds) (hp : Pre a) (hc : (res a).clean = true) (hn : (arg a).length = n := by rfl)
   (he : Q.r := by exact aV rfl) (hpl : Q.w := by rfl)
   (ht : eval (.Call (.Attribute o m apos) (e :: es) [] pos) X.env = (do
     let ov ← eval o X.env
     standAt apos.atName
     let (f, first) ← holding [ov] (getMethod ov m pl)
     callWith pos f first (backTo pos (starEach (e :: es) X.env)) Q.A) := by rfl) :
   bS X CL b (.Call (.Attribute o m apos) (e :: es) [] pos) δ (res a) δ2 := by
 obtain ⟨⟨f, fd, ps, M, G, bd⟩, r, cc⟩ := F
 exact Sj a cc M G r bd ho hf h Sl hn hp hc he hpl ht
theorem q0_ {pl : Sem Bool} (a : A) (F : Fq X CL c m k n arg Pre res) (ho : eF X CL b o δ (.ins c fs) δ1) (hf : fs.lookup m = none) (Sl : arg a = [.ins c fs]) (hp : Pre a) (hc : (res a).clean = true) (hn : (arg a).length = n := by rfl)
   (ht : eval (.Call (.Attribute o m apos) [] [] pos) X.env = (do
     let ov ← eval o X.env
     standAt apos.atName
     let (f, first) ← holding [ov] (getMethod ov m pl)
     callWith pos f first (backTo pos (starEach [] X.env)) Q.A) := by rfl) :
   bS X CL b (.Call (.Attribute o m apos) [] [] pos) δ (res a) δ1 := by
 obtain ⟨⟨f, fd, ps, M, G, bd⟩, r, cc⟩ := F
 exact NV a cc M G r bd ho (fun q => q.none hf) Sl hn hp hc ht
theorem XW {z w : Int} (g : Gx X) (nm : Ln X i x) (hx : δ[i]? = some (some (.sh (.int z)))) (h : eF X CL b e δ (.int w) δ) (k : cH X CL b dm (δ.set i (some (.sh (.int (z + w))))) D) :
   cH X CL b (.AugAssign (.Name x pos') .Add e pos :: dm) δ D := aY fun H Z σ ts vs E S M =>
 kL (Ww g.nd nm.hi nm.loc c7 Wx nm.hf) (by
   obtain ⟨v, hv, r⟩ := S.IX hx
   cases r
   refine ⟨_, hv, h H Z σ ts vs _ S fun v2 H1 Z1 z1 k1 S1 r2 => ?_⟩
   cases r2
   have hl : i < δ.length := by
     rcases Nat.lt_or_ge i δ.length with h | h
     . exact h
     . rw [ais h] at hx; cases hx
   exact ⟨z, w, rfl, rfl, M.nx _ _ H1 Z1 z1 ((S1.push (.int (z + w))).set hl) k⟩)
theorem Tj {VD : List L3.D} (h1 : bS X CL b e1 δ (.lst (ds.map T.sh)) δ1) (h2 : iB X CL b e2 δ1 (.lst (VD.map T.sh)) δ2) (hz : ds.length + VD.length <= sizeLine) :
   iB X CL b (.BinOp e1 .Add e2 pos) δ (.lst ((ds ++ VD).map T.sh)) δ2 := fun H Z σ ts vs Q S k =>
 bZ (MN Sq c7 c7) (h1 H Z σ ts vs _ S fun v1 H1 Z1 z1 k1 S1 => h2 H1 Z1 σ _ _ _ S1 fun v2 H2 Z2 z2 S2 => by
   obtain ⟨fp, gp, _, r, _, _⟩ := S2.rep
   cases r with
   | cons r2 r =>
     cases r with
     | cons r1 _ =>
       cases r2 with
       | @lst a2 Ri _ g2 SG rs2 =>
         cases r1 with
         | @lst a1 us1 _ g1 Sg rs1 =>
           have f1 := (aD.toF rs1).1
           have f2 := (aD.toF rs2).1
           refine ⟨_, _, _, _, rfl, rfl, oB.of Sg, oB.of SG, by rw [← f1.length, ← f2.length]; exact hz, fun p hp => ?_⟩
           have rc := aI.app f1 f2
           obtain ⟨c, S4⟩ := (aL.tZ rc S2.pop.pop).oJ (g0 := []) (by simp [rc.length, f1.length, f2.length]) hp
           exact k _ _ _ (z1.trans z2) S4)
theorem XY {t : T} {f : Str} {a : Addr} {gs : List (Str × T)} {pa pb pc : Pos} (hc : j5 X.K (CL c)) (n : aG X.K (CL c) f) (nm : Vn X i x) (h : iB X CL b e δ t δ1) (h1 : δ1[i]? = some (some (.pin a (.ins c gs)))) (hl : gs.length < 1000)
   (k : cH X CL b dm (δ1.set i (some (.pin a (.ins c (iA f t gs))))) D) (hs : swapsWith e (some (.Attribute (.Name x pa) f pb)) pc.line X.env = pure false := by rfl) :
   cH X CL b (.Assign [.Attribute (.Name x pa) f pb] e pc :: dm) δ D := aY fun H Z σ ts vs E S M =>
 kL (MY (eB nm.hi nm.hv nm.hd nm.j3) c7 hs) (h H Z σ ts vs _ S fun v H' Z' z S' => by
   obtain ⟨dx, ws, hv, hx, hlen, S2⟩ := S'.setField (f := f) h1
   exact ⟨.ref a, hv, a, CL c, dx, ws, rfl, hx, hc, n, by rw [hlen]; exact hl, M.nx _ σ _ Z' z S2 k⟩)
end
theorem ju {p : T} {δ : Q.f} {ds : List D} : Keeps (some p :: δ) (p :: ds.map T.sh) := fun j y t h => by
 cases j with
 | zero => cases h; rfl
 | succ j =>
   have h' : (ds.map T.sh)[j]? = some (T.pin y t) := h
   rw [ahW] at h'
   cases e : ds[j]? with
   | none => rw [e] at h'; cases h'
   | some d => rw [e] at h'; cases h'
end L3
namespace L2
open PySem PySem.Spec PyProof.Rows
def jh {α : Type} (xs : List α) (lo hi st : Option Int) : List α :=
 (sliceRange (sliceBounds lo hi st xs.length).1 (sliceBounds lo hi st xs.length).2.1 (sliceBounds lo hi st xs.length).2.2).filterMap (xs[·]?)
theorem BK (its : List Value) (lo hi st : Option Int) : slicePick its.toArray lo hi st = (jh its lo hi st).toArray := by
 unfold slicePick jh
 simp only [ahM, List.getElem?_toArray] <;> rfl
theorem Ox {α : Type} (f : α -> Value) (xs : List α) (lo hi st : Option Int) : (jh xs lo hi st).length <= xs.length := by
 have h := slicePick_size_le (xs.map f).toArray lo hi st
 rw [BK] at h
 have e : (jh (xs.map f) lo hi st) = (jh xs lo hi st).map f := by
   unfold jh
   rw [ahx, List.map_filterMap]
   simp only [ahW]
 rw [e] at h
 simpa using h
theorem Vals.jh {xs : List V} {us : List Value} (r : Vals xs us) (lo hi st : Option Int) : Vals (jh xs lo hi st) (jh us lo hi st) := by
 unfold L2.jh
 rw [r.length]
 generalize sliceRange _ _ _ = l
 induction l with
 | nil => exact .nil
 | cons i l ih =>
   rw [ah9, ah9]
   cases e : xs[i]? with
   | none =>
     have e2 : us[i]? = none := ais (by
       have := r.length
       have := List.getElem?_eq_none_iff.mp e
       omega)
     rw [e2]
     exact ih
   | some x =>
     obtain ⟨u, e2, ru⟩ := r.get e
     rw [e2]
     exact .cons ru ih
variable {X : Cx} {e st : Expr} {lo hi : Option Expr} {te : TE} {tl th tk : TO} {pos p2 : Pos}
theorem KZ (he : PE X e te) (hl : PO X lo tl) (hu : PO X hi th) (hk : PO X (some st) tk) : PE X (.Subscript e (.Slice lo hi (some st) p2) pos) (fun σ H Q => te σ H fun x H1 => tl σ H1 fun l H2 => th σ H2 fun u H3 => tk σ H3 fun k H4 => ∃ a xs, x = .ref a /\ oB X.K H4 a xs /\ k ≠ some 0 /\ ∀ p, H4 p = none -> Q (.ref p) (upd H4 p (.lst (jh xs l u k)))) := by
 intro pins s σ H Q I h
 refine Subscript_ (di (he pins s σ H _ I h) fun v s1 ⟨x, H1, I1, r1, q1⟩ => ?_)
 refine wpAny_Slice (di (hl pins s1 σ H1 _ I1 q1) fun vl s2 ⟨l, H2, I2, pl, q2⟩ => di (hu pins s2 σ H2 _ I2 q2) fun vu s3 ⟨u, H3, I3, pu, q3⟩ => di (hk pins s3 σ H3 _ I3 q3) fun vk s4 ⟨k, H4, I4, pk, q4⟩ => ?_)
 obtain ⟨a, xs, rfl, hx, hk0, q⟩ := q4
 cases r1
 have I5 : Inv X pins σ H4 { s4 with heap := s4.heap.push { cls := .type "slice", data := .fields #[vl, vu, vk] } } := I4.kept (t' := s4.toks) fun b ob q => ahE _ q
 obtain ⟨its, r, ht, hz⟩ := I5.list hx
 have hlen := r.length
 show wpAny Q.d X.A (subscriptTail e (.Slice lo hi (some st) p2) (.ref a) (.ref s4.heap.objs.size)) (EP X pins σ Q) X.xe { s4 with heap := s4.heap.push { cls := .type "slice", data := .fields #[vl, vu, vk] } }
 refine tail_any (ops := [.ref a, .ref s4.heap.objs.size]) ht.isList.typeIs slot_list_getitem.lookup ?_ (by with_unfolding_all rfl)
 refine wpAny_getItem_list_slice ht.isList (Heap.IsSliceOf.new ..) pl pu pk hk0 ?_ (by rw [ahM] <;> omega)
 rw [BK]
 have hc := Ox (fun _ : V => Value.none) xs l u k
 refine ⟨.ref _, _, I5.laid (t' := s4.toks) (o := .lst (jh xs l u k)) (fun b ob q => ahE _ q) (ahG _) ?_, rfl, q _ (I5.bY.fresh (ahG _))⟩
 exact ⟨ain hc hz, _, 0, r.jh l u k, ahU _ rfl⟩
end L2
namespace L3
open PySem PySem.Spec PyProof.Rows L2
theorem Oz {α β : Type} {f : α -> β} {l : List α} {lo hi st : Option Int} : jh (l.map f) lo hi st = (jh l lo hi st).map f := by
 unfold jh
 rw [ahx, List.map_filterMap]
 simp only [ahW]
variable {X : Cx} {CL : Q.e} {b : Bx} {δ δ1 δ2 δ3 δ4 : Q.f} {e st : Expr} {lo hi : Option Expr} {l u k : Option Int} {ds : List L3.D} {pos p2 : Pos}
theorem aI.jh {K : Q.h} {Z : Hp} {us : List V} (r : aI K CL Z ds us) (lo hi st : Option Int) : aI K CL Z (jh ds lo hi st) (jh us lo hi st) := by
 unfold L2.jh
 rw [r.length]
 generalize sliceRange _ _ _ = l
 induction l with
 | nil => exact .nil
 | cons i l ih =>
   rw [ah9, ah9]
   cases e : ds[i]? with
   | none =>
     have e2 : us[i]? = none := ais (by
       have := r.length
       have := List.getElem?_eq_none_iff.mp e
       omega)
     rw [e2]
     exact ih
   | some x =>
     obtain ⟨u, e2, ru⟩ := r.get e
     rw [e2]
     exact .cons ru ih
theorem K0 (h1 : eF X CL b e δ (.lst ds) δ1) (hi1 : D.bJ ds = true) (h2 : TOv X CL b lo δ1 l δ2) (h3 : TOv X CL b hi δ2 u δ3) (h4 : TOv X CL b (some st) δ3 k δ4) (hk : k ≠ some 0) :
   bS X CL b (.Subscript e (.Slice lo hi (some st) p2) pos) δ (.lst ((jh ds l u k).map T.sh)) δ4 := by
 intro H Z σ ts vs Q S kk
 obtain ⟨t2, po2, w2⟩ := h2
 obtain ⟨t3, po3, w3⟩ := h3
 obtain ⟨t4, po4, w4⟩ := h4
 refine bZ (KZ c7 po2 po3 po4) (h1 H Z σ ts vs _ S fun v H1 Z1 z1 k1 S1 r => w2 H1 Z1 σ ts vs _ S1 fun H2 Z2 z2 k2 S2 => w3 H2 Z2 σ ts vs _ S2 fun H3 Z3 z3 k3 S3 => w4 H3 Z3 σ ts vs _ S3 fun H4 Z4 z4 k4 S4 => ?_)
 have r := r.mono (k2.trans (k3.trans k4))
 cases r with
 | lst hq rr =>
   refine ⟨_, _, rfl, hq, hk, fun p hp => ?_⟩
   have rc := (aI.mq S4.tp hi1 rr).jh l u k
   obtain ⟨c, S5⟩ := (aL.tZ rc S4).oJ (g0 := []) (by simp [rc.length]) hp
   exact kk _ _ _ (z1.trans (z2.trans (z3.trans z4))) (k1.trans (k2.trans (k3.trans (k4.trans c)))) S5
section
variable {p : Bool} {D : c9} {dm a c : List Stmt}
def TTm (X : Cx) (CL : Q.e) (b : Bx) (e : Expr) (δ : Q.f) (p : Bool) (δ' : Q.f) : Prop :=
 ∀ (H Z : Hp) (σ : L2.St) (ts : List T) (vs : List V) (Q : Bool -> Hp -> Prop), aL X.K CL b H Z δ σ ts vs -> (∀ H' Z', aB Z Z' -> aL X.K CL b H' Z' δ' σ ts vs -> Q p H') -> Nt X e σ H Q
theorem XZ (h : TTm X CL b e δ p δ1) (h1 : p = true -> cH X CL b a δ1 D) (h2 : p = false -> cH X CL b c δ1 D) : Ks X CL b (.If e a c pos) δ D := fun H Z σ ts vs E S M =>
 kL (Vs Vz IV IV) (h H Z σ ts vs _ S fun H1 Z1 z1 S1 => by
   cases p with
   | true => exact Nk (h1 rfl H1 Z1 σ ts vs E S1 (M.mono z1))
   | false => exact Nj (h2 rfl H1 Z1 σ ts vs E S1 (M.mono z1)))
theorem VP (h : TTm X CL b e δ p δ1) (h1 : p = true -> cH X CL b a δ1 { D with nx := fun δ2 => cH X CL b dm δ2 D }) (h2 : p = false -> cH X CL b c δ1 { D with nx := fun δ2 => cH X CL b dm δ2 D }) : cH X CL b (.If e a c pos :: dm) δ D := aY (XZ h h1 h2)
end
def X3 {α : Type} : Nat -> (List α -> Prop) -> Prop
 | 0, P => P []
 | n + 1, P => ∀ a, X3 n fun r => P (a :: r)
variable {n : Nat}
theorem fP {α : Type} {P : List α -> Prop} (h : X3 n P) : ∀ us : List α, us.length = n -> P us := by
 intro us hl
 induction us generalizing n P with
 | nil => subst hl; exact h
 | cons a r ih => subst hl; exact ih (P := fun r => P (a :: r)) (h a) rfl
abbrev uW (K : Q.h) (x : Str) (f : Addr) : Prop := PySem.W.nsIn K mainGlobals x = some (some (.ref f))
theorem X4 (P : Program) (w : World) (mg : Q.p) (base : Heap) {K : Q.h} {h : Heap} (CL : Q.e) (XX : K.In h) (G : h.Ns mainGlobals mg) {x qual : Str} {st : Stmt} {f : Addr} {fd : FuncData} {N ps : List Str} (k : Nat) {A : Type} (arg : A -> List D) (Pre : A -> Prop) (res : A -> T) (F : nG K x qual st f fd) (S : aP N ps (ak st)) (m : uW K x f)
   (hb : ∀ (gn : Value) (Ar : Around) (outer : List Env) (s : Shared) (H : Hp) (E : XK) (b : Bx) (a : A), c6 k (Ar.deeper (envOfC qual (ak st) s.heap.objs.size f gn)) -> dg (ve lu P w K mg base N qual (ak st) f gn Ar outer s H E).Rw -> Pre a →
     cH (ve lu P w K mg base N qual (ak st) f gn Ar outer s H E).Rw CL b (b9 st) (entry N (arg a)) { nx := fun _ => res a = .sh .non, rt := fun t _ => t = res a })
   (q : ∀ (kV doc pm : Value) (an : Option Addr) (gn ct : Value), X3 ps.length fun us => bindArgs (W.fnOf x qual (tW st) (b9 st) (ak st) Value.none kV doc pm an gn ct) { pos := us } = pure (ps.zip us) := by (repeat intro _); rfl) :
   ∃ f fd ps', cJ P w K mg base lu (k + 1) f fd ps' (AG K CL ps.length arg Pre res) /\ mg x = some (.ref f) /\ PySem.W.keepIn K (.ref f) = true /\ Binds K fd ps' [] := ⟨f, fd, ps, mw F S fun a b c d e f g h r p => hb a b c d e f g h r ⟨⟨S.nd, rfl, .never⟩, r.units⟩ p, aip XX G m, F.kp, F.binds fun a b c d e f => fP (q a b c d e f)⟩
variable {e1 e2 : Expr} {es : List Expr} {t : T} {d d1 d2 : L3.D} {tl : List T} {pp : Pos}
def X5 (X : Cx) (CL : Q.e) (b : Bx) (es : List Expr) (δ : Q.f) (tl : List T) (δ' : Q.f) : Prop :=
 ∀ (H Z : Hp) (σ : L2.St) (ts : List T) (vs : List V) (Q : List V -> Hp -> Prop), aL X.K CL b H Z δ σ ts vs →
   (∀ us H' Z', us.length = tl.length -> aB Z Z' -> aL X.K CL b H' Z' δ' σ (tl.reverse ++ ts) (us.reverse ++ vs) -> Q us H') -> Ko X es σ H Q
theorem Ec.m (h : Ec X CL b es δ tl δ1) : X5 X CL b es δ tl δ1 := fun H Z σ ts vs Q S k => h H Z σ ts vs Q S fun v H' Z' l z _ S' => k v H' Z' l z S'
theorem jI : X5 X CL b [] δ [] δ := bA.m
theorem bw (h1 : iB X CL b e δ t δ1) (h2 : X5 X CL b es δ1 tl δ2) (hs : Q.r := by exact aV rfl) : X5 X CL b (e :: es) δ (t :: tl) δ2 := fun H Z σ ts vs Q S k =>
 Cq (bI c7 Cp hs) (h1 H Z σ ts vs _ S fun v H1 Z1 z1 S1 => h2 H1 Z1 σ _ _ _ S1 fun us H2 Z2 hl z2 S2 => k (v :: us) H2 Z2 (by simp [hl]) (z1.trans z2) (by
   rw [aib, aib, ahv, ahv]
   exact S2))
theorem CV {op : Operator} {r : R2} {w1 w2 w : V} (ho : u9 X (binaryOp op) r) (h1 : iB X CL b e1 δ (.sh d1) δ1) (h2 : iB X CL b e2 δ1 (.sh d2) δ2) (s1 : Rg d1 = some w1) (s2 : Rg d2 = some w2) (s3 : Rg d = some w)
   (hr : ∀ (H : Hp) (Q : VK), Q w H -> r w1 w2 H Q) : iB X CL b (.BinOp e1 op e2 pos) δ (.sh d) δ2 := fun H Z σ ts vs Q S k => by
 refine bZ (MN ho c7 c7) (h1 H Z σ ts vs _ S fun v1 H1 Z1 z1 S1 => h2 H1 Z1 σ _ _ _ S1 fun v2 H2 Z2 z2 S2 => ?_)
 have r2 := S2.view
 have r1 := S2.pop.view
 rw [T.aZ] at r1 r2
 rw [r1.sc s1, r2.sc s2]
 exact hr H2 Q (k w H2 Z2 (z1.trans z2) (S2.pop.pop.push (I0 s3)))
variable {i : Int}
theorem CW {j : Int} (h1 : iB X CL b e1 δ (.sh (.int i)) δ1) (h2 : iB X CL b e2 δ1 (.sh (.int j)) δ2) : iB X CL b (.BinOp e1 .Add e2 pos) δ (.sh (.int (i + j))) δ2 := CV MP h1 h2 rfl rfl rfl fun _ _ q => ⟨i, j, rfl, rfl, q⟩
theorem CY {j : Int} (h1 : iB X CL b e1 δ (.sh (.int i)) δ1) (h2 : iB X CL b e2 δ1 (.sh (.int j)) δ2) : iB X CL b (.BinOp e1 .Sub e2 pos) δ (.sh (.int (i - j))) δ2 := CV MQ h1 h2 rfl rfl rfl fun _ _ q => ⟨i, j, rfl, rfl, q⟩
variable {x : Str}
theorem OB {y : Str} (h1 : iB X CL b e1 δ (.sh (.str x)) δ1) (h2 : iB X CL b e2 δ1 (.sh (.str y)) δ2) (c : x.length + y.length <= sizeLine) : iB X CL b (.BinOp e1 .Add e2 pos) δ (.sh (.str (x ++ y))) δ2 := CV yg h1 h2 rfl rfl rfl fun _ _ q => ⟨x, y, rfl, rfl, c, q⟩
theorem Jk (h : iB X CL b e δ t δ1) : iB X CL b e δ (.sh t.aZ) δ1 := fun H Z σ ts vs Q S k => h H Z σ ts vs Q S fun v H1 Z1 z1 S1 => by
 obtain ⟨Z2, z2, S2⟩ := S1.Cr
 exact k v H1 Z2 (z1.trans z2) S2
theorem Tp {j : Nat} (h : X5 X CL b es δ tl δ1) (hl : tl.length <= sizeLine) : iB X CL b (.Tuple es j pos) δ (.tup tl) δ1 := fun H Z σ ts vs Q S k =>
 bZ (MZ Cp) (h H Z σ ts vs _ S fun us H1 Z1 hu z1 S1 => ⟨by rw [hu]; exact hl, fun p hp => by
   obtain ⟨a, c, S2⟩ := S1.Cu hu hp
   exact k _ _ _ (z1.trans a) S2⟩)
theorem iD {j : Nat} (h : X5 X CL b es δ (ds.map T.sh) δ1) (hl : ds.length <= sizeLine) : iB X CL b (.Tuple es j pos) δ (.sh (.tup ds)) δ1 := by
 have := Jk (Tp (pos := pos) (j := j) h (by simpa using hl))
 rwa [T.aZ, iz] at this
theorem Tq (h : X5 X CL b es δ tl δ1) (hl : tl.length <= sizeLine) : iB X CL b (.List es pos) δ (.lst tl) δ1 := fun H Z σ ts vs Q S k =>
 bZ (M0 Cp) (h H Z σ ts vs _ S fun us H1 Z1 hu z1 S1 => ⟨by rw [hu]; exact hl, fun p hp => by
   obtain ⟨c, S2⟩ := S1.oJ (g0 := []) hu hp
   exact k _ _ _ z1 S2⟩)
theorem OD (h : iB X CL b e δ t δ1) (q : t.aZ = d) : iB X CL b e δ (.sh d) δ1 := q ▸ Jk h
theorem CZ {k : Int} (h1 : iB X CL b e1 δ (.sh (.lst ds)) δ1) (h2 : iB X CL b e2 δ1 (.sh (.int k)) δ2) (hk : wF ds k = some d) (hs : oG e2 := by exact fun _ _ => rfl) : iB X CL b (.Subscript e1 e2 pos) δ (.sh d) δ2 := fun H Z σ ts vs Q S kk =>
 bZ (yk Cg c7 c7 hs) (h1 H Z σ ts vs _ S fun v1 H1 Z1 z1 S1 => h2 H1 Z1 σ _ _ _ S1 fun v2 H2 Z2 z2 S2 => by
   have r2 := S2.view
   rw [T.aZ] at r2
   obtain ⟨fp, gp, _, r, _, _⟩ := S2.pop.rep
   cases r with
   | cons r _ =>
     cases r with
     | sh r =>
       cases r with
       | lst hq rr =>
         obtain ⟨v, hv, rv⟩ := xB rr hk
         exact ⟨_, _, k, v, rfl, r2.sc rfl, S2.zh.seq hq, hv, kk v H2 Z2 (z1.trans z2) (S2.pop.pop.push rv)⟩)
theorem OG (hm : X.mg "str" = none) (hg : Gl X "str") (h : iB X CL b e δ (.sh (.int i)) δ1) (hi : i.natAbs.log2 < 1920) (hs : Q.y := by exact aV rfl) :
   iB X CL b (.Call (.Name "str" pp) [e] [] pos) δ (.sh (.str (toString i))) δ1 := fun H Z σ ts vs Q S k =>
 bZ (ic tT hg hm boot_str (bI c7 dF hs) (he := hs)) (h H Z σ ts vs _ S fun v H1 Z1 z1 S1 => by
   have r := S1.view
   rw [T.aZ] at r
   rw [r.sc rfl]
   exact ⟨i, rfl, hi, k _ H1 Z1 z1 (S1.pop.push (.str _))⟩)
variable {A : Type}
theorem K1 {k i : Nat} {y : Addr} {al : List Addr -> List T} {arg : A -> List T} {Pre : A -> Prop} {res : A -> T} {out : A -> List T} (a : A) (nt : T) (F : GR X CL x k n arg Pre res out) (hg : Gl X x) (h : KN X CL b (e :: es) δ [i] (fun ys => ys.headD 0 = y /\ True) al δ1) (hp : Pre a) (yG : res a = t) (CJ : kH (out a) [y] [nt])
   (wW : arg a = al [y] := by rfl) (hlen : (arg a).length = n := by rfl) (rY : i < δ1.length := by exact ahA rfl)
   (qg : Q.m := by decide) (he : Q.r := by exact aV rfl) (hpl : Q.w := by rfl) :
   iB X CL b (.Call (.Name x pp) (e :: es) [] pos) δ t (δ1.set i (some nt)) :=
 KP (fun _ => a) nt F hg h (fun _ _ => hp) (fun _ _ => yG) (fun z hz => (show z = y from hz.1) ▸ CJ) (fun z hz => (show z = y from hz.1) ▸ wW) (fun _ => hlen) rY qg he hpl
theorem Jl {i : Nat} {pos' pr pc : Pos} {n : Int} {D : c9} {body dm : List Stmt} (g : Gx X) (nm : Ln X i x) (P : Nat -> List (Option T) -> Prop) (hm : X.mg "range" = none) (hg : Gl X "range") (h : iB X CL b e δ (.sh (.int n)) δ1) (hn : -(2 ^ 62) <= n /\ n < 2 ^ 62) (h0 : P 0 δ1) (hl : ∀ j δ, P j δ -> i < δ.length)
   (hs : ∀ (j : Nat) δ, j < n.toNat -> P j δ -> cH X CL b body (δ.set i (some (.sh (.int j)))) { nx := P (j + 1), rt := D.rt, bk := fun δ2 => cH X CL b dm δ2 D, ct := P (j + 1) }) (hd : ∀ δ, P n.toNat δ -> cH X CL b dm δ D)
   (kG : starEach [e] X.env = [(false, eval e X.env)] := by rfl) (GF : Q.y := by exact aV rfl)
   (hq : ∀ x, foldedSetIterable (.Call (.Name "range" pr) [e] [] pc) X.env x = pure x := by intro _; rfl) :
   cH X CL b (.For (.Name x pos') (.Call (.Name "range" pr) [e] [] pc) body [] pos :: dm) δ D := aY fun H Z σ ts vs E S M =>
 kL (Gb g.xe g.calm (uY hg hm (bI c7 dF GF) kG) (kK g.nd nm.hi nm.loc nm.hf) IV hq) (h H Z σ ts vs _ S fun v H1 Z1 z1 S1 => by
   have r := S1.view
   rw [T.aZ] at r
   refine ⟨n, by rw [r.sc rfl], hn.1, hn.2, J4 (lo := 0) (n := n.toNat) (fun j σ H2 => ∃ Z2 δ2, aB Z1 Z2 /\ aL X.K CL b H2 Z2 δ2 σ ts vs /\ P j δ2) ⟨Z1, δ1, .refl _, S1.pop, h0⟩ ?_ ?_⟩
   . rintro j σ H2 hj ⟨Z2, δ2, s, S2, p2⟩
     rw [ajo]
     have S3 := (S2.push (.int (j : Int))).set (hl j δ2 p2)
     refine hs j δ2 hj p2 H2 Z2 _ ts vs _ S3 ⟨fun δ' σ' H' Z' s' S' k => ⟨Z', δ', s.trans s', S', k⟩, fun t v H' Z' δ' σ' s' S' k => M.rt t v H' Z' δ' σ' (z1.trans (s.trans s')) S' k, fun δ' σ' H' Z' s' S' k => M.nx δ' σ' H' Z' (z1.trans (s.trans s')) S' k, fun δ' σ' H' Z' s' S' k => ⟨Z', δ', s.trans s', S', k⟩⟩
   . rintro σ H2 ⟨Z2, δ2, s, S2, p2⟩
     exact M.nx δ2 σ H2 Z2 (z1.trans s) S2 (hd δ2 p2))
def AH (δ : Q.f) (ix : List Nat) (i : Nat) (t : T) : List (Option T) := ix.map fun k => if k = i then some t else Xp δ[k]?
variable {K : Q.h} {H H' Z Z' : Hp} {σ : L2.St} {ts : List T} {vs : List V} {v : V} {i : Nat} {fp : List Addr} {d : D}
theorem OI {ix : List Nat} (h : i ∉ ix) : AH δ ix i t = t8 δ ix := aiX fun k hk => ahC fun (e : k = i) => h (e ▸ hk)
theorem Tr {o : Option (Option T)} {w : Option V} {r : Q.f} {σ' : L2.St} (S : Q.q) (zz : aB Z Z') (k : Nat) (ih : cF K CL H' Z' r σ' fp) : cF K CL H' Z' (Xp δ[k]? :: r) ((σ[k]?).getD none :: σ') fp := by
 cases e : δ[k]? with
 | none => exact .skip ih
 | some o =>
   cases o with
   | none => exact .skip ih
   | some t =>
     cases t with
     | sh d =>
       obtain ⟨v, hv, rv⟩ := S.IX e
       rw [hv]
       exact cF.cons (fp := []) (.sh (rv.mono zz)) ih
     | _ => exact .skip ih
theorem EZ (S : Q.q) (zz : aB Z Z') (hv : σ[i]? = some (some v)) (rt : aU K CL H' Z' t v fp) : ∀ {ix : List Nat}, i ∈ ix -> ix.Nodup -> cF K CL H' Z' (AH δ ix i t) (ix.map fun k => (σ[k]?).getD none) fp
 | [], h, _ => absurd h ahK
 | k :: r, h, nd => by
   have nd := aia.mp nd
   show cF K CL H' Z' ((if k = i then some t else Xp δ[k]?) :: AH δ r i t) (((σ[k]?).getD none) :: r.map fun k => (σ[k]?).getD none) fp
   by_cases e : k = i
   . subst e
     rw [ahN rfl, hv, OI nd.1]
     have q : cF K CL H' Z' (t8 δ r) (r.map fun k => (σ[k]?).getD none) [] := (yt S r H').mono zz fun a ha => absurd ha ahK
     have := cF.cons (δ := t8 δ r) rt q
     rwa [ahJ] at this
   . rw [ahC e]
     exact Tr (o := none) (w := none) S zz k (EZ S zz hv rt ((ahH.mp h).resolve_left fun z => e z.symm) nd.2)
theorem yK (hv : σ[i]? = some (some v)) : ∀ {ix : List Nat} {fp : List Addr}, i ∈ ix -> cF K CL H Z (AH δ ix i t) (ix.map fun k => (σ[k]?).getD none) fp -> ∃ f3, aU K CL H Z t v f3 /\ f3.Sublist fp
 | [], _, h, _ => absurd h ahK
 | k :: r, fp, h, q => by
   have q : cF K CL H Z ((if k = i then some t else Xp δ[k]?) :: AH δ r i t) (((σ[k]?).getD none) :: r.map fun k => (σ[k]?).getD none) fp := q
   by_cases e : k = i
   . subst e
     rw [ahN rfl, hv] at q
     cases q with
     | cons rt _ => exact ⟨_, rt, List.sublist_append_left _ _⟩
   . rw [ahC e] at q
     have hm := (ahH.mp h).resolve_left fun z => e z.symm
     generalize Xp δ[k]? = o at q
     generalize (σ[k]?).getD none = w at q
     cases q with
     | skip q => exact yK hv hm q
     | cons _ q2 =>
       obtain ⟨f3, h1, h2⟩ := yK hv hm q2
       exact ⟨f3, h1, h2.trans (aij _ _)⟩
theorem aL.X6 {D : Addr} (S : aL K CL b H Z δ σ (.sh d :: .lst tl :: ts) (v :: .ref D :: vs)) : ∃ us, H D = some (.lst us) /\ us.length = tl.length /\ aL K CL b (upd H D (.lst (us ++ [v]))) Z δ σ (.lst (tl ++ [.sh d]) :: ts) (.ref D :: vs) := by
 obtain ⟨fp, gp, e, r, nd, k⟩ := S.rep
 cases r with
 | cons r1 r2 =>
   cases r1 with
   | sh rd =>
     cases r2 with
     | cons r2 r3 =>
       cases r2 with
       | @lst a us _ g ha rs =>
         rename_i gr
         rw [ajf] at nd k
         have pm : (fp ++ ((D :: g) ++ gr)).Perm (D :: (fp ++ (g ++ gr))) := by
           rw [ahT]
           exact aiE
         have ne : ∀ c ∈ fp ++ (g ++ gr), c ≠ D := fun c hc z => by
           subst z
           exact (aia.mp (pm.nodup_iff.mp nd)).1 hc
         refine ⟨us, ha, rs.length.symm, S.CD rfl k (by simp) (e.mono (.refl _) fun c hc => aj Q.n) (.cons (.lst aC (aD.app (rs.mono (.refl _) fun c hc => aj Q.n) (.cons (.sh rd) .nil))) (r3.mono (.refl _) fun c hc => aj Q.n)) ?_ fun c hc => ?_⟩
         . simpa using nd
         . simpa using hc
variable {scope : Scope} {Nc : List Str} {ix : List Nat} {elt : Expr} {px pr pc : Pos} {y : Addr}
theorem K2 (t : Nat -> T) (gv : Nat -> L3.D) (sc : gu X scope x Nc ix) (hc : X.calm = true) (hm : X.mg "range" = none) (hg : Gl X "range") (h : iB X CL b e δ (.sh (.int n)) δ1) (hn : n <= 1000) (hi : δ1[i]? = some (some (.pin y (t 0)))) (XS : i ∈ ix) (ZD : ix.Nodup)
   (inner : ∀ C s0 H0 f0 b' (j : Nat), j < n -> iB (bH X scope Nc C s0 H0 f0) CL b' elt (some (.sh (.int j)) :: AH δ1 ix i (.pin y (t j))) (.sh (gv j)) (some (.sh (.int j)) :: AH δ1 ix i (.pin y (t (j + 1)))))
   (kG : starEach [e] X.env = [(false, eval e X.env)] := by rfl) (GF : Q.y := by exact aV rfl)
   (hs : ∀ x, foldedSetIterable (.Call (.Name "range" pr) [e] [] pc) X.env x = pure x := by intro _; rfl) :
   iB X CL b (.ListComp elt [⟨.Name x px, .Call (.Name "range" pr) [e] [] pc, [], 0⟩] scope pos) δ (.lst ((List.range n).map fun j => T.sh (gv j))) (δ1.set i (some (.pin y (t n)))) := fun H Z σ ts vs Q S k pins s I => by
 rw [eval_ListComp]
 refine aiS (use := none) rfl hs (GH sc I) sc.kind sc.names ?_
 refine di ((uY (tg := .Name x px) hg hm (bI c7 dF GF) kG) pins s σ H (fun J H1 => J = WB 0 n /\ ∃ Z1, aB Z Z1 /\ aL X.K CL b H1 Z1 δ1 σ ts vs) I (h H Z σ ts vs _ S fun v H1 Z1 z1 S1 => ?_)) fun v s1 h1 => di h1 fun Wz s2 zz => ?_
 . have r := S1.view
   rw [T.aZ] at r
   exact ⟨n, by rw [r.sc rfl], by omega, by omega, by rw [aiz], Z1, z1, S1.pop⟩
 obtain ⟨it, fp, tn, J, H1, e0, I1, Tn, st, hf, rfl, Z1, z1, S1⟩ := zz
 subst e0
 have rY : i < δ1.length := by
   rcases Nat.lt_or_ge i δ1.length with h | h
   . exact h
   . rw [ais h] at hi; cases hi
 refine Kv (G := fun D H' => ∃ Z', aB Z1 Z' /\ aL X.K CL b H' Z' (δ1.set i (some (.pin y (t n)))) σ (.lst ((List.range n).map fun j => T.sh (gv j)) :: ts) (.ref D :: vs)) (RR := fun acc C => compPost Q.d X.A X.xe none (EP X pins σ Q) acc C) sc hc I1 Tn st hf (fun D hD => ?_) fun D C' s' H' m io nC ch ci ⟨Z', z', S'⟩ => ?_
 . refine ⟨fun j m H2 => m = n - j /\ j <= n /\ ∃ Z2, aB Z1 Z2 /\ aL X.K CL b H2 Z2 (δ1.set i (some (.pin y (t j)))) σ (.lst ((List.range j).map fun j => T.sh (gv j)) :: ts) (.ref D :: vs), ⟨n, rfl, ah8 _, Z1, .refl _, ?_⟩, ?_⟩
   . rw [cK hi]
     exact (aL.oJ (tl := []) (us := []) (g0 := []) S1 rfl hD).2
   rintro j m H2 ⟨rfl, hj, Z2, z2, S2⟩
   by_cases nJ : j < n
   . refine .inr ⟨nJ, fun H' => ∃ Z2, aB Z1 Z2 /\ aL X.K CL b H' Z2 (δ1.set i (some (.pin y (t (j + 1))))) σ (.lst ((List.range (j + 1)).map fun j => T.sh (gv j)) :: ts) (.ref D :: vs), fun H' h => ⟨n - (j + 1), by omega, rfl, nJ, h⟩, fun xv H3 yy C s0 H0 f0 => ?_⟩
     obtain ⟨rfl, rfl⟩ := yy
     unfold NB
     dsimp only
     rw [ahN rfl]
     obtain ⟨v0, ev, Sm⟩ := S2.move (aji rY)
     have hv0 : v0 = .ref y := by
       obtain ⟨_, _, _, r, _, _⟩ := Sm.rep
       cases r with
       | cons r _ => cases r; rfl
     subst hv0
     rw [List.set_set] at Sm
     obtain ⟨gp, r, nd, Sc⟩ := aL.cut (tl := [.pin y (t j)]) (us := [.ref y]) Sm rfl
     have aea : ∀ u : T, AH (δ1.set i (some (.pin y (t j)))) ix i u = AH δ1 ix i u := fun u => aiX fun q _ => by
       by_cases e : q = i
       . rw [ahN e, ahN e]
       . rw [ahC e, ahC e, List.getElem?_set_ne fun z => e z.symm]
     obtain ⟨g1, r1, hg1⟩ : ∃ g1, aU X.K CL H3 Z2 (.pin y (t j)) (.ref y) g1 /\ gp = g1 := by
       cases r with
       | cons r1 r2 =>
         cases r2
         exact ⟨_, r1, by rw [ahJ]⟩
     subst hg1
     have zn : ∀ c ∈ gp, Z2 c = none := fun c hc => by
       cases q : Z2 c with
       | none => rfl
       | some o => exact absurd hc (jr (Sc.zh c o q)).1
     have abk := EZ (ix := ix) S2 (.refl _) ev r1 XS ZD
     rw [aea] at abk
     have S0 : aL X.K CL ⟨qb H3 gp, Z2⟩ H3 Z2 (some (.sh (.int (j : Int))) :: AH δ1 ix i (.pin y (t j))) (lB σ ix (some (.int (0 + (j : Int))))) [] [] :=
       ⟨⟨[] ++ gp, [], .cons (by rw [ajo]; exact .sh (.int _)) abk, .nil, by rw [ahJ]; exact nd, fun c hc => by
         have hc : c ∈ gp := by simpa using hc
         exact ⟨zn c hc, oR hc⟩⟩, fun c o q => (jr q).2, .refl _, S2.zh, fun c o q z => (by have z' : Z2 c = none := z; rw [show Z2 c = some o from q] at z'; cases z'), S2.tp, S2.Gu⟩
     refine inner C s0 H0 f0 ⟨qb H3 gp, Z2⟩ j nJ H3 Z2 _ [] [] _ S0 fun yv H5 Z5 z5 S5 => ?_
     obtain ⟨f1, g5, e1, r5, nd5, aeb⟩ := S5.rep
     cases r5 with
     | cons ry rn =>
       cases rn
       cases ry with
       | sh ry =>
         cases e1 with
         | @cons _ _ _ _ f0 f2 rk e2 =>
           obtain ⟨f3, rp, sb⟩ := yK ev XS e2
           have nf : f2.Nodup := by
             have := (ah3.mp nd5).1
             exact (ah3.mp this).2.1
           have S6 := Sc.N7 (H' := H5) (W' := Z5) (tl := [.pin y (t (j + 1)), .sh (gv j)]) (us := [.ref y, yv]) (fp := f3 ++ ([] ++ [])) S5.bh z5 S5.zh S5.new S5.tp (.cons rp (.cons (.sh ry) .nil)) (by simpa using nf.sublist sb) (fun c hc => by
             have hc : c ∈ f3 := by simpa using hc
             exact aeb c (ahy _ (ahu _ (sb.subset hc))))
           have S7 := aL.set (i := i) S6 (by rw [ajz]; exact rY)
           rw [cK ev, List.set_set] at S7
           obtain ⟨us, hus, hul, S8⟩ := aL.X6 S7
           refine ⟨us, hus, ?_, Z5, z2.trans z5, ?_⟩
           . rw [hul, ahx, air]
             have := aix
             exact ah4 (show j < 1000 by omega) (by rw [aix]; decide)
           . rw [aiT, ahD]
             exact S8
   . have ej : j = n := by omega
     subst ej
     exact .inl ⟨ahG _, Z2, z2, S2⟩
 . obtain ⟨m, hn'⟩ := m
   exact ⟨m, hn', fun h' GC => ⟨.ref D, H', ci h' GC, rfl, k _ H' Z' (z1.trans z') S'⟩⟩
theorem OJ {C : Addr} {s : Shared} {k : Nat} {arg out : A -> List T} {Pre : A -> Prop} {res : A -> T} (F : GR X CL x k n arg Pre res out) : GR (bH X scope Nc C s H fp) CL x k n arg Pre res out := ⟨F.ex, F.room⟩
theorem Tt {i j : Int} (h1 : iB X CL b e1 δ (.sh (.int i)) δ1) (h2 : eF X CL b e2 δ1 (.int j) δ2) : TTm X CL b (.Compare e1 [.Eq] [e2] pos) δ (decide (i = j)) δ2 := fun H Z σ ts vs Q S k =>
 EA (tS MS c7 c7 (mU _)) (h1 H Z σ ts vs _ S fun v1 H1 Z1 z1 S1 => h2 H1 Z1 σ _ _ _ S1 fun v2 H2 Z2 z2 s2 S2 r2 => by
   have r1 := S2.view
   rw [T.aZ] at r1
   rw [r1.sc rfl, r2.sc rfl]
   exact ⟨rfl, _, rfl, by rw [show decide (V.int i = V.int j) = decide (i = j) by simp]; exact k H2 Z2 (z1.trans z2) S2.pop⟩)
variable {t0 : T} {Rh : List T} {pa pb : Pos} {dm : List Stmt} {DD : c9}
theorem mZ {t2 : T} (h : iB X CL b e δ t δ1) (q : t = t2) : iB X CL b e δ t2 δ1 := q ▸ h
theorem OL (hm : X.mg "tuple" = none) (h : iB X CL b e δ (.lst (ds.map T.sh)) δ1) (hi : D.bJ ds = true) (hg : Gl X "tuple") (hs : Q.y := by exact aV rfl) : iB X CL b (.Call (.Name "tuple" pp) [e] [] pos) δ (.sh (.tup ds)) δ1 := fun H Z σ ts vs Q S k =>
 bZ (ic mV hg hm qp (bI c7 dF hs) (he := hs)) (h H Z σ ts vs _ S fun v H1 Z1 z1 S0 => by
   have r := S0.view
   rw [T.aZ, iz] at r
   have S1 := S0.pop
   cases r with
   | lst hq rr =>
     refine ⟨_, _, rfl, .inl ⟨hq, fun l hl => ?_⟩⟩
     obtain ⟨a, c, S2⟩ := (aL.tZ (aI.mq S1.tp hi rr) S1).Cu (by simp [rr.length]) hl
     obtain ⟨Z3, z3, S3⟩ := S2.Cr
     rw [T.aZ, iz] at S3
     exact k _ _ Z3 (z1.trans (a.trans z3)) S3)
theorem GZ (n : Vn X i x) (h0 : δ[i]? = some (some (.lst Rh))) (h : iB X CL b e δ t δ1) (h1 : δ1[i]? = some (some (.lst tl))) (hl : tl.length <= 1000000) (k : cH X CL b dm (δ1.set i (some (.lst (tl ++ [t])))) DD)
   (eV : attributeBase (.Name x pp) "append" X.env (eval (.Name x pp) X.env) = eval (.Name x pp) X.env := by rfl)
   (sP : Q.G := by rfl)
   (hline : (pa.endLine == pb.line) = true := by rfl) (hs : Q.y := by exact aV rfl) (t7 : swapsWith (.Call (.Attribute (.Name x pp) "append" pa) [e] [] pb) none pos.line X.env = pure false := by rfl) :
   cH X CL b (.Expr (.Call (.Attribute (.Name x pp) "append" pa) [e] [] pb) pos :: dm) δ DD := aY fun H Z σ ts vs E S M =>
 kL (oE (Bv aiu ajG ajH nK (eB n.hi n.hv n.hd n.j3) (bI c7 dF hs) eV sP hline hs rfl) t7) (by
   obtain ⟨v0, e0, r0⟩ := S.look h0
   refine ⟨v0, e0, ?_, ?_⟩
   . rw [T.aZ] at r0
     cases r0 with
     | lst hq _ => exact .inl ⟨rfl, _, hq⟩
   . refine h H Z σ ts vs _ S fun v H1 Z1 z1 S1 => ?_
     obtain ⟨a, us, ea, ha, hu, S2⟩ := S1.append h1
     rw [e0] at ea
     cases ea
     exact ⟨a, us, v, rfl, rfl, ha, by rw [hu]; exact aiD hl (by rw [aix]; decide), M.nx _ σ _ Z1 z1 S2 k⟩)
theorem K3 {h : Int} (h1 : bS X CL b e δ (.sh (.lst ds)) δ1) (hi1 : D.bJ ds = true) (h3 : iB X CL b e2 δ1 (.sh (.int h)) δ2) : iB X CL b (.Subscript e (.Slice none (some e2) none p2) pos) δ (.lst ((cutD ds none (some h)).map T.sh)) δ2 := fun H Z σ ts vs Q S k => by
 refine bZ (M8 RL c7 IG (II c7)) (h1 H Z σ ts vs _ S fun v H1 Z1 z1 k1 S1 => h3 H1 Z1 σ _ _ _ S1 fun v2 H2 Z2 z2 S2 => ?_)
 have r2 := S2.view
 rw [T.aZ] at r2
 refine ⟨h, r2.sc rfl, ?_⟩
 have r := S2.pop.view
 rw [T.aZ] at r
 have S3 := S2.pop.pop
 cases r with
 | lst hq rr =>
   refine ⟨_, _, rfl, hq, fun p hp => ?_⟩
   have rc := aI.mq S3.tp (oN fun d hd => gb hi1 d (Se hd)) (rr.cut none (some h))
   obtain ⟨c, S4⟩ := (aL.tZ rc S3).oJ (g0 := []) (by simp [rc.length]) hp
   exact k _ _ _ (z1.trans z2) S4
theorem aec {k i2 : Nat} {x2 : Str} {d : L3.D} {t2 : T} {p3 : Pos} {arg : A -> List T} {Pre : A -> Prop} {res : A -> T} {out : A -> List T} (a : Addr -> A) (F : GR X CL x k n arg Pre res out) (hg : Gl X x) (h : bS X CL b e δ t0 δ1) (ho : t0.isRef = true) (h1 : bS X CL b e1 δ1 (.sh d1) δ1) (n2 : Vn X i2 x2) (ZE : δ1[i2]? = some (some t2)) (hp : ∀ y, Pre (a y)) (yG : ∀ y, res (a y) = .sh d) (hd : d.mq = true)
   (wW : ∀ y, arg (a y) = [.pin y t0, .sh d1, .sh t2.aZ]) (hlen : 3 = n := by rfl)
   (qg : Q.m := by decide) (he : starEach [e, e1, .Name x2 p3] X.env = (false, eval e X.env) :: starEach [e1, .Name x2 p3] X.env := by exact aV rfl) (he1 : starEach [e1, .Name x2 p3] X.env = (false, eval e1 X.env) :: starEach [.Name x2 p3] X.env := by exact aV rfl) (he2 : starEach [.Name x2 p3] X.env = (false, eval (.Name x2 p3) X.env) :: starEach [] X.env := by exact aV rfl) (hpl : (backTo pos (starEach [e1, .Name x2 p3] X.env)).any (·.1) = false := by rfl) :
   iB X CL b (.Call (.Name x pp) [e, e1, .Name x2 p3] [] pos) δ (.sh d) δ1 := by
 obtain ⟨⟨f, fd, ps, G, m, q, bd⟩, r⟩ := F
 intro H Z σ ts vs Q S kk
 refine bZ (Ce G r hg m q bd .nil qh (bI c7 (bI c7 (bI (eB n2.hi n2.hv n2.hd n2.j3) dF he2) he1) he) qg he hpl) (h H Z σ ts vs _ S fun v0 H1 Z1 z1 k1 S1 => h1 H1 Z1 σ _ _ _ S1 fun v1 H2 Z2 z2 k2 S2 => ?_)
 obtain ⟨v2, e2, _⟩ := S2.look ZE
 refine ⟨v2, e2, ?_⟩
 have r1 := S2.N5
 obtain ⟨g, rr, nd, S3⟩ := aL.cut (tl := [t0]) (us := [v0]) S2.pop rfl
 obtain ⟨y, ey, rp⟩ : ∃ y, v0 = .ref y /\ aU X.K CL H2 Z2 (.pin y t0) (.ref y) g := by
   cases rr with
   | cons r1 r2 =>
     cases r2
     rw [ahJ]
     cases r1 with
     | sh r => cases ho
     | tup r _ => cases ho
     | pin r => cases ho
     | lst r q => exact ⟨_, rfl, .pin (.lst r q)⟩
     | ins r q => exact ⟨_, rfl, .pin (.ins r q)⟩
     | q8 r q => exact ⟨_, rfl, .pin (.q8 r q)⟩
     | dct r q => exact ⟨_, rfl, .pin (.dct r q)⟩
 subst ey
 have r2 : bf X.K CL (qb H2 g) t2.aZ v2 := by
   obtain ⟨fp, gp, e, _, _, _⟩ := S3.rep
   obtain ⟨v', _, f2, _, hv, _, rt, _, _⟩ := e.get ZE
   rw [e2] at hv
   cases hv
   exact rt.aZ S3.zh fun _ _ => rfl
 have ra : aD X.K CL H2 (qb H2 g) (arg (a y)) [.ref y, v1, v2] (g ++ ([] ++ ([] ++ []))) := by
   rw [wW]
   exact .cons (rp.mono S3.zh fun _ _ => rfl) (.cons (.sh (r1.mono S3.zh)) (.cons (.sh r2) .nil))
 rw [show g ++ ([] ++ ([] ++ [])) = g by simp] at ra
 have zn : ∀ c ∈ g, Z2 c = none := fun c hc => by
   cases q : Z2 c with
   | none => rfl
   | some o => exact absurd hc (jr (S3.zh c o q)).1
 refine ⟨qb H2 g, a y, g, .refl _, fun c o q im => ?_, ra, nd, by rw [wW]; exact hlen, hp y, S3.Gu.mono S3.zh, fun v H' W' fp hh ww wh nw tp rt Ef own => ?_⟩
 . refine (gQ fun hc => ?_).trans q
   have := S2.tp c o q im
   rw [zn c hc] at this
   cases this
 . cases rt with
   | @cons _ _ _ _ f1 f2 q1 q2 =>
     rw [yG] at q1
     obtain ⟨Z', z', S4⟩ := S3.back hh S3.zh ww wh nw tp q1 (ah3.mp Ef).1 (fun c hc => own c (ahy _ hc)) (.inr (by rw [T.clean]; exact hd))
     exact kk v H' Z' (z1.trans (z2.trans z')) S4
namespace Dk
variable {prog : Program} {w : World} {A : Around} {E : Q.l} {s : Shared} {it d : Addr} {ep : Nat} {es : Array DictEntry} {od : Obj}
theorem OO {Q : Q.l} (hd : (d == sysModules) = false) (ho : s.heap.get? d = some od) (hT : s.TypeIs (.ref d) "dict") (sV : od.data = .dict es ep)
   (hQ : Q (.ref s.heap.objs.size) { s with heap := s.heap.push { cls := .type "dict_keyiterator", data := .fields #[.ref d, .int 0 0, .int es.size 0, .int ep 0] } }) : wpAny (model prog w) A (pyIter (.ref d)) Q E s := by
 refine wpAny_pyIter_slot hT PySem.F.slot_dict_iter (aiF PySem.F.slot_dict_iter hT PySem.F.entry_dict_iter ?_ (PySem.F.args_dict_iter_1 _))
 unfold Builtin.«dict.__iter__» Builtin.Dict.dictSlotNone
 refine aht (aht (wpAny_notOrdered_dict hT (show wpAny _ _ (pure (Value.ref d)) _ _ s from ahF ?_)))
 show wpAny _ _ (Builtin.Dict.showsAll d >>= _) _ _ s
 unfold Builtin.Dict.showsAll
 rw [ahC (by rw [hd]; exact ahI)]
 exact wpAny_bind (wpAny_pure (wpAny_bind (wpAny_dictEntries ho sV (wpAny_bind (wpAny_dictEpoch ho sV (wpAny_bind (wpAny_newObj_type (wpAny_pure ⟨_, rfl, "dict_keyiterator", _, ⟨_, Heap.get?_push_size _ rfl, rfl⟩, PySem.F.slot_dict_keyiterator_next.lookup, by simpa [rawInt] using hQ⟩))))))))
theorem next_item {Q : Option Value -> Shared -> Prop} (hit : s.heap.IsKeyIter it d i es.size ep) (OQ : s.heap.get? d = some od) (OS : od.data = .dict es ep) {e : DictEntry} (hx : es[i]? = some e)
   (hQ : ∀ h', h'.IsKeyIter it d (i + 1) es.size ep -> Heap.SameBut it s.heap h' -> Q (some e.key) { s with heap := h' }) : wpAny (model prog w) A (pyNext (.ref it)) Q E s := by
 obtain ⟨o, ho, hc, hd⟩ := id hit
 have G0 : Builtin.Dict_items.ownsTuple "dict_keyiterator" = false := by decide
 unfold pyNext
 refine aht (ajc (aiJ (name := Str.ofString "__next__") hit.typeIs aiL (aiF aiL hit.typeIs PySem.F.entry_dict_keyiterator_next (aht (ahF ?_)) (PySem.F.args_dict_keyiterator_next_1 _))))
 refine aht (aht (aht (aiW hit.typeIs (ahF (aht (wpAny_fieldsOf ho hd ?_))))))
 simp only [G0, ajF, ajp]
 show wpAny _ _ (if (Value.ref d == Value.none) = true then _ else _) _ _ s
 rw [ahC (show ¬ ((Value.ref d == Value.none) = true) from ahI)]
 refine aht (ahF (aht (ajl OQ OS ?_)))
 rw [ahC (by simp)]
 refine aht (ahF (aht (ajB OQ OS ?_)))
 rw [ahC (by simp)]
 refine ahF ?_
 obtain ⟨nJ, he⟩ := ai4.mp hx
 simp only [show ¬ ((i : Int) < 0) from by omega, ajp, aiz, Array.getElem?_eq_getElem nJ]
 refine aht (aht (aiW hit.typeIs (ahF (aht (wpAny_isOneOf_keyiter hit.typeIs ?_)))))
 show wpAny _ _ (setField (.ref it) 1 (rawInt ((i : Int) + 1)) >>= _) _ _ s
 have abl : (s.heap.update it (Obj.mapFields (·.setIfInBounds 1 (rawInt ((i : Int) + 1))))).IsKeyIter it d (i + 1) es.size ep :=
   ⟨_, ai3 _ ho (ajn (aiG hd _)), (Obj.cls_mapFields ..).trans hc, by rw [aiG hd]; simp [rawInt]⟩
 refine aht (ai7 ho hd (by simp) (aht (ajM (aht (wpAny_isOneOf_keyiter (s := { s with heap := s.heap.update it (Obj.mapFields (·.setIfInBounds 1 (rawInt ((i : Int) + 1)))) }) abl.typeIs ?_)))))
 show wpAny _ _ (pure es[i].key) _ _ _
 rw [he]
 exact ahF (ahF ⟨_, rfl, ahF (hQ _ abl (aja ..))⟩)
theorem next_end {Q : Option Value -> Shared -> Prop} (hh : A.handled = none) (hit : s.heap.IsKeyIter it d i es.size ep) (OQ : s.heap.get? d = some od) (OS : od.data = .dict es ep) (hx : es.size <= i)
   (hQ : ∀ h', Heap.ExtBut it s.heap h' -> Q none { s with heap := h' }) : wpAny (model prog w) A (pyNext (.ref it)) Q E s := by
 obtain ⟨o, ho, hc, hd⟩ := id hit
 have G0 : Builtin.Dict_items.ownsTuple "dict_keyiterator" = false := by decide
 unfold pyNext
 refine aht (ajc (aiJ (name := Str.ofString "__next__") hit.typeIs aiL (aiF aiL hit.typeIs PySem.F.entry_dict_keyiterator_next (aht (ahF ?_)) (PySem.F.args_dict_keyiterator_next_1 _))))
 refine aht (aht (aht (aiW hit.typeIs (ahF (aht (wpAny_fieldsOf ho hd ?_))))))
 simp only [G0, ajF, ajp]
 show wpAny _ _ (if (Value.ref d == Value.none) = true then _ else _) _ _ s
 rw [ahC (show ¬ ((Value.ref d == Value.none) = true) from ahI)]
 refine aht (ahF (aht (ajl OQ OS ?_)))
 rw [ahC (by simp)]
 refine aht (ahF (aht (ajB OQ OS ?_)))
 rw [ahC (by simp)]
 refine ahF ?_
 simp only [show ¬ ((i : Int) < 0) from by omega, ajp, aiz, Array.getElem?_eq_none hx]
 refine aht (aht (aiW hit.typeIs (ahF ?_)))
 show wpAny _ _ (setField (.ref it) 0 .none >>= _) _ _ s
 refine aht (ai7 ho hd (by simp) ?_)
 show wpAny _ _ (newExc (.type "StopIteration") [] >>= _) _ _ _
 refine aht ?_
 simp only [newExc, newTuple]
 refine aht (aiy (aht (m := firstArgMember _ _) (wpAny_of_eq (a := Value.none) (by first | rfl | (simp only [firstArgMember]; rfl)) (aiy ?_ (by size_fits)))) (by size_fits))
 simp only [raiseNew]
 refine aht (wpAny_handled ?_)
 rw [show A.in1.handled = none from hh]
 refine aht (ahF (wpAny_throw ?_))
 exact aht (wpAny_isInstance (T := "StopIteration") (b := true) ⟨_, ahU _ rfl, rfl⟩ isSubtype_stop (ahF (hQ _ (((aja ..).extBut.push _).push _))))
end Dk
end L3
namespace L2
open PySem PySem.Spec PyProof.Rows
variable {X : Cx} {pins : Q.i} {σ : St} {H : Hp} {s : Shared} {a : Addr} {gs : List (List Key × V)} {o : Obj}
theorem Inv.told {u u0 : HO} (I : Q.g) (ha : H a = some u0) (hu : dD X.prog X.w (upd H a u) s.heap a u) (ht : ∀ xs, u0 ≠ .tup xs) (hz : ∀ ob q, X.H₀ a ≠ some (.aZ ob q)) (hb : ∀ ps, u0 ≠ .Vk ps) (hw : ∀ y, u0 ≠ .own y) (hc : ∀ q, u0 ≠ .Vl q) : Inv X pins σ (upd H a u) s := by
 have ne : ∀ b, H b = none -> b ≠ a := fun b e z => by rw [z, ha] at e; cases e
 have n1 : ∀ b xs, H b = some (.tup xs) -> upd H a u b = some (.tup xs) := fun b xs e => by
   rw [aj fun z => by rw [z, ha] at e; cases e; exact ht _ rfl]; exact e
 refine ⟨I.ok, I.os, I.bare, ⟨I.base.keep, I.base.slot, fun b ob e n hx => ?_, I.base.there, fun b xs e => n1 b xs (I.base.yb b xs e), fun b ob q e => ?_, fun b ps e => ?_⟩, I.loc, I.cell, ?_, fun x c e => ?_, fun p hp => ?_, fun b v q => ?_, I.len⟩
 . have := I.base.free b ob e n hx
   rw [aj (ne b this)]; exact this
 . rw [aj fun z => by rw [z] at e; exact hz _ _ e]
   exact I.base.c5 b ob q e
 . obtain ⟨more, q⟩ := I.base.yc b ps e
   exact ⟨more, by rw [aj fun z => by rw [z, ha] at q; cases q; exact hb _ rfl]; exact q⟩
 . rw [aj (ne _ I.free)]; exact I.free
 . rw [aj (ne _ (I.jT x c e))]; exact I.jT x c e
 . obtain ⟨p1, p2, p3⟩ := I.pin p hp
   exact ⟨p1, by rw [aj (ne _ p2)]; exact p2, p3⟩
 . by_cases e : b = a
   . subst e
     rw [aC] at q
     cases q
     exact hu
   . rw [aj e] at q
     exact (I.bY b v q).x9 (fun _ _ _ e => e) (fun c z => by rw [aj fun z2 => by rw [z2, ha] at z; cases z; exact hw _ rfl]; exact z) n1 fun c k z => by rw [aj fun z2 => by rw [z2, ha] at z; cases z; exact hc _ rfl]; exact z
theorem Inv.abm (I : Q.g) (ha : H a = some (.dT gs)) : ∃ o, s.heap.get? a = some o /\ (∀ ob q, X.H₀ a ≠ some (.aZ ob q)) /\ Inv X pins σ (upd H a Q.k) s := by
 have hz : ∀ ob q, X.H₀ a ≠ some (.aZ ob q) := fun ob q e => by
   have := I.base.c5 a ob q e
   rw [ha] at this; cases this
 have k := (show dD X.prog X.w H s.heap a (.dT gs) from I.bY a _ ha)
 obtain ⟨_, _, _, _, o, es, ep, e, _⟩ := id k
 refine ⟨o, e, hz, I.told ha ⟨e, ?_⟩ (fun _ z => nomatch z) hz (fun _ z => nomatch z) (fun _ z => nomatch z) fun _ z => nomatch z⟩
 exact k.x9 (fun _ _ _ e => e) (fun c z => by rw [aj fun z2 => by rw [z2, ha] at z; cases z]; exact z) (fun c xs z => by rw [aj fun z2 => by rw [z2, ha] at z; cases z]; exact z) fun c k z => by rw [aj fun z2 => by rw [z2, ha] at z; cases z]; exact z
theorem Inv.E1 (I : Q.g) (ha : H a = some Q.k) (hz : ∀ ob q, X.H₀ a ≠ some (.aZ ob q)) : Inv X pins σ (upd H a (.dT gs)) s := by
 obtain ⟨_, k⟩ := (show dD X.prog X.w H s.heap a Q.k from I.bY a _ ha)
 refine I.told ha ?_ (fun _ z => nomatch z) hz (fun _ z => nomatch z) (fun _ z => nomatch z) fun _ z => nomatch z
 exact k.x9 (fun _ _ _ e => e) (fun c z => by rw [aj fun z2 => by rw [z2, ha] at z; cases z]; exact z) (fun c xs z => by rw [aj fun z2 => by rw [z2, ha] at z; cases z]; exact z) fun c k z => by rw [aj fun z2 => by rw [z2, ha] at z; cases z]; exact z
def Itd (a : Addr) (o : Obj) (gs : List (List Key × V)) : It :=
 ⟨fun i H => i < gs.length /\ H a = some Q.k, fun i H x H' => H' = H /\ ∃ b k v, x = .ref b /\ gs[i]? = some (k, v) /\ H b = some (.tup (k.map kV)), fun i H => gs.length <= i /\ H a = some Q.k⟩
theorem Paired.nth {α β : Type} {F : α -> β -> Prop} {l : List α} {m : List β} (r : Paired F l m) : ∀ {i : Nat} {x : α}, l[i]? = some x -> ∃ y, m[i]? = some y /\ F x y := by
 induction r with
 | nil => intro i x e; simp at e
 | cons h _ ih =>
   intro i x e
   cases i with
   | zero => cases e; exact ⟨_, rfl, h⟩
   | succ j => exact ih e
theorem OU {P : Program} {w : World} {K : Q.h} {tg : Expr} {it : Addr} {es : Array DictEntry} {ep : Nat} (sV : o.data = .dict es ep) : Turn P w K tg (Itd a o gs) [it] it (fun i h => h.IsKeyIter it a i es.size ep) where
 mem := by simp
 obj := fun i h st b hb => by
   have e : b = it := by simpa using hb
   subst e
   obtain ⟨ob, e, c, d⟩ := st
   exact ⟨ob, e, fun v z => by rw [d] at z; cases z⟩
 keep := fun i h h' st k => st.at fun ob e => k it (by simp) ob e
 item := by
   intro X hP hw hK hc i pins s σ H E I hf st hg
   subst hP hw hK
   obtain ⟨nJ, ha⟩ := hg
   obtain ⟨e, z, y, xs, r, o', Vo, Wi, e', c, d, Tv, nd⟩ := (show dD X.prog X.w H s.heap a Q.k from I.bY a _ ha)
   rw [e] at e'
   cases e'
   rw [sV] at d
   cases d
   obtain ⟨f0, f1, f2, f3, f4, f5⟩ := hf it (by simp)
   obtain ⟨q, hq, q1, q2, q3⟩ := Paired.nth r (i := i) (x := gs[i]) (ahQ nJ)
   have hx : es[i]? = some (entryOfKey (tupleKind (eW X.prog X.w)) q) := by
     rw [← ajm, Tv, ahW, hq]
     rfl
   refine L3.Dk.next_item st e sV hx fun h' MK sb => ?_
   have I1 : Inv X pins σ H { s with heap := h' } := I.turned (t' := s.toks) (fun b ob hb e => (sb.2 b hb).trans e) f0 f1 f3 f4 f5
   obtain ⟨ob, e2, c2, d2⟩ := id MK
   exact ⟨_, rfl, Iw (s := { s with heap := h' }) e2 c2 d2 Q.b ⟨.ref q.2.1, H, I1, rfl, ⟨rfl, q.2.1, gs[i].1, gs[i].2, rfl, ahQ nJ, q2⟩, MK, fun b hb => (hf b hb).1⟩⟩
 done := by
   intro X hP hw hK hc i pins s σ H E I hf st hg
   subst hP hw hK
   obtain ⟨hge, ha⟩ := hg
   obtain ⟨e, z, y, xs, r, o', Vo, Wi, e', c, d, Tv, nd⟩ := (show dD X.prog X.w H s.heap a Q.k from I.bY a _ ha)
   rw [e] at e'
   cases e'
   rw [sV] at d
   cases d
   obtain ⟨f0, f1, f2, f3, f4, f5⟩ := hf it (by simp)
   have hl := ajt r
   have hsz : es.size = xs.length := by rw [← ajy, Tv, ahx]
   exact L3.Dk.next_end (I.ok.hd hc) st e sV Q.c fun h' eb => ⟨rfl, I.turned (t' := s.toks) (fun b ob hb e => eb b ob hb e) f0 f1 f3 f4 f5⟩
 self := fun _ _ _ _ _ st h => wpAny_pyIter_keyiter st h
end L2
namespace L3
open PySem PySem.Spec PyProof.Rows L2
def Conv (Z Z' : Hp) : Prop := ∀ c o, Z c = some o -> Z' c = some o \/ (∃ gs ob, o = .dT gs /\ Z' c = some (.aZ ob (.dT gs))) \/ ∃ gs ob, o = .aZ ob (.dT gs) /\ Z' c = some (.dT gs)
variable {K : Q.h} {CL : Q.e} {Z Z' : Hp} {a : Addr}
theorem Conv.keep {o : HO} (e : Conv Z Z') (h : Z a = some o) (h1 : ∀ gs, o ≠ .dT gs) (h2 : ∀ gs ob, o ≠ .aZ ob (.dT gs)) : Z' a = some o := by
 rcases e a o h with q | ⟨gs, ob, q, _⟩ | ⟨gs, ob, q, _⟩
 . exact q
 . exact absurd q (h1 gs)
 . exact absurd q (h2 gs ob)
theorem Conv.Gs {xs : List V} (e : Conv Z Z') (h : sO K Z a xs) : sO K Z' a xs := by
 rcases h with (h | ⟨o, h⟩) | h
 . exact .inl (.inl (e.keep h (fun _ z => nomatch z) fun _ _ z => nomatch z))
 . exact .inl (.inr ⟨o, e.keep h (fun _ z => nomatch z) fun _ _ z => nomatch z⟩)
 . exact .inr h
theorem Conv.sqL {xs : List V} (e : Conv Z Z') (h : oB K Z a xs) : oB K Z' a xs := by
 rcases h with (h | ⟨o, h⟩) | h
 . exact .inl (.inl (e.keep h (fun _ z => nomatch z) fun _ _ z => nomatch z))
 . exact .inl (.inr ⟨o, e.keep h (fun _ z => nomatch z) fun _ _ z => nomatch z⟩)
 . exact .inr h
variable {gs : List (List Key × V)}
theorem Conv.rd (e : Conv Z Z') (h : Rd Z a (.dT gs)) : Rd Z' a (.dT gs) := by
 rcases h with h | ⟨o, h⟩
 . rcases e a _ h with q | ⟨g, ob, q, z⟩ | ⟨g, ob, q, z⟩
   . exact .inl q
   . cases q; exact .inr ⟨ob, z⟩
   . cases q
 . rcases e a _ h with q | ⟨g, ob, q, z⟩ | ⟨g, ob, q, z⟩
   . exact .inr ⟨o, q⟩
   . cases q
   . cases q; exact .inl z
variable {v : V}
theorem bf.conv (e : Conv Z Z') {d : D} (h : bf K CL Z d v) : bf K CL Z' d v :=
 bf.rec (motive_1 := fun d v _ => bf K CL Z' d v) (motive_2 := fun d v _ => aI K CL Z' d v) (motive_3 := fun d v _ => gH K CL Z' d v) (motive_4 := fun d v _ => cA K CL Z' d v) (motive_5 := fun d v _ => cD K CL Z' d v)
   .non .bl .int .str .any .val (fun h _ r => .tup (e.Gs h) r) (fun h _ r => .lst (e.sqL h) r) (fun h _ r => .ins (e.keep h (fun _ z => nomatch z) fun _ _ z => nomatch z) r) (fun h _ r => .q8 (e.keep h (fun _ z => nomatch z) fun _ _ z => nomatch z) r) (fun h _ r => .dct (e.rd h) r) .nil Q.t .nil Q.t .nil Q.t .nil Q.t h
theorem cA.conv (e : Conv Z Z') {d : List (Key × D)} {v : List (Key × V)} (h : cA K CL Z d v) : cA K CL Z' d v :=
 cA.rec (motive_1 := fun d v _ => bf K CL Z' d v) (motive_2 := fun d v _ => aI K CL Z' d v) (motive_3 := fun d v _ => gH K CL Z' d v) (motive_4 := fun d v _ => cA K CL Z' d v) (motive_5 := fun d v _ => cD K CL Z' d v)
   .non .bl .int .str .any .val (fun h _ r => .tup (e.Gs h) r) (fun h _ r => .lst (e.sqL h) r) (fun h _ r => .ins (e.keep h (fun _ z => nomatch z) fun _ _ z => nomatch z) r) (fun h _ r => .q8 (e.keep h (fun _ z => nomatch z) fun _ _ z => nomatch z) r) (fun h _ r => .dct (e.rd h) r) .nil Q.t .nil Q.t .nil Q.t .nil Q.t h
variable {H H' : Hp} {t : T} {fp : List Addr}
theorem aU.conv (e : Conv Z Z') (k : ∀ a ∈ fp, H' a = H a) (h : aU K CL H Z t v fp) : aU K CL H' Z' t v fp :=
 aU.rec (motive_1 := fun t v fp _ => (∀ a ∈ fp, H' a = H a) -> aU K CL H' Z' t v fp) (motive_2 := fun t v fp _ => (∀ a ∈ fp, H' a = H a) -> aD K CL H' Z' t v fp) (motive_3 := fun t v fp _ => (∀ a ∈ fp, H' a = H a) -> cT K CL H' Z' t v fp) (motive_4 := fun t v fp _ => (∀ a ∈ fp, H' a = H a) -> ck K CL H' Z' t v fp)
   (fun h _ => .sh (h.conv e)) (fun h _ r k => .tup (e.keep h (fun _ z => nomatch z) fun _ _ z => nomatch z) (r k)) (fun h _ r k => .lst ((k _ ahw).trans h) Q.v) (fun h _ r k => .ins ((k _ ahw).trans h) Q.v) (fun h f k => .q8 ((k _ ahw).trans h) (cA.conv e f)) (fun h _ r k => .dct ((k _ ahw).trans h) Q.v) (fun _ r k => .pin (r k)) (fun _ => .nil) Q.z (fun _ => .nil) Q.z (fun _ => .nil) Q.z h k
theorem aD.conv (e : Conv Z Z') {t : List T} {v : List V} (k : ∀ a ∈ fp, H' a = H a) (h : aD K CL H Z t v fp) : aD K CL H' Z' t v fp :=
 aD.rec (motive_1 := fun t v fp _ => (∀ a ∈ fp, H' a = H a) -> aU K CL H' Z' t v fp) (motive_2 := fun t v fp _ => (∀ a ∈ fp, H' a = H a) -> aD K CL H' Z' t v fp) (motive_3 := fun t v fp _ => (∀ a ∈ fp, H' a = H a) -> cT K CL H' Z' t v fp) (motive_4 := fun t v fp _ => (∀ a ∈ fp, H' a = H a) -> ck K CL H' Z' t v fp)
   (fun h _ => .sh (h.conv e)) (fun h _ r k => .tup (e.keep h (fun _ z => nomatch z) fun _ _ z => nomatch z) (r k)) (fun h _ r k => .lst ((k _ ahw).trans h) Q.v) (fun h _ r k => .ins ((k _ ahw).trans h) Q.v) (fun h f k => .q8 ((k _ ahw).trans h) (cA.conv e f)) (fun h _ r k => .dct ((k _ ahw).trans h) Q.v) (fun _ r k => .pin (r k)) (fun _ => .nil) Q.z (fun _ => .nil) Q.z (fun _ => .nil) Q.z h k
variable {δ : Q.f} {σ : L2.St}
theorem cF.conv (e : Conv Z Z') (k : ∀ a ∈ fp, H' a = H a) (r : cF K CL H Z δ σ fp) : cF K CL H' Z' δ σ fp := by
 induction r with
 | nil => exact .nil
 | skip _ ih => exact .skip (ih k)
 | cons r _ ih => exact .cons (r.conv e fun a ha => k a (ahy _ ha)) (ih fun a ha => k a (ahu _ ha))
def aee (X : Cx) (te : TE) : TI := fun σ H R => te σ H fun x H1 => ∃ a gs, x = .ref a /\ ((H1 a = some (.dT gs) /\ ∀ o, (∀ ob q, X.H₀ a ≠ some (.aZ ob q)) -> R (Itd a o gs) (upd H1 a Q.k)) \/ ∃ o, H1 a = some Q.k /\ R (Itd a o gs) H1)
variable {X : Cx} {e : Expr}
theorem X7 {tg : Expr} {te : TE} (he : PE X e te) : PI X tg e (aee X te) := by
 intro pins s σ H R I h
 refine di (he pins s σ H _ I h) fun v s1 zz => ?_
 obtain ⟨x, H1, I1, r1, a, gs, ex, q⟩ := zz
 subst ex
 cases r1
 have main : ∀ (H2 : Hp) (o : Obj), L2.Inv X pins σ H2 s1 -> H2 a = some Q.k -> R (Itd a o gs) H2 -> wpAny Q.d X.A (pyIter (.ref a)) (Z7 X pins σ tg R) X.xe s1 := fun H2 o I2 ha hR => by
   obtain ⟨e, z, y, xs, r, o', es, ep, e', c, d, Tv, nd⟩ := (show dD X.prog X.w H2 s1.heap a Q.k from I2.bY a _ ha)
   rw [e] at e'
   cases e'
   obtain ⟨_, _, _, _, dd⟩ := BE I2.bY (.inr ⟨o, ha⟩)
   refine Dk.OO y e dd.typeIs d ?_
   refine ⟨s1.heap.objs.size, [s1.heap.objs.size], _, _, H2, rfl, I2.kept (t' := s1.toks) fun b ob e => ahE _ e, OU d, ⟨_, ahU _ rfl, rfl, rfl⟩, fun b hb => ?_, hR⟩
   have e : b = s1.heap.objs.size := by simpa using hb
   subst e
   exact I2.Er (ahG _) (I2.bY.fresh (ahG _))
 rcases q with ⟨ha, q⟩ | ⟨o, ha, q⟩
 . obtain ⟨o, e, hz, I2⟩ := I1.abm ha
   exact main _ o I2 aC (q o hz)
 . exact main _ o I1 ha q
def vt (X : Cx) (E : Ends) : Ends :=
 { nx := fun σ H => E.nx σ H \/ ∃ a o gs, H a = some Q.k /\ (∀ ob q, X.H₀ a ≠ some (.aZ ob q)) /\ E.nx σ (upd H a (.dT gs))
   rt := fun v H => E.rt v H \/ ∃ a o gs, H a = some Q.k /\ (∀ ob q, X.H₀ a ≠ some (.aZ ob q)) /\ E.rt v (upd H a (.dT gs))
   bk := E.bk
   ct := E.ct }
theorem BL {st : Stmt} {E : Ends} (h : Kp X st (vt X E) σ H) : Kp X st E σ H := fun pins s I => by
 refine aik (h pins s I) (fun f s' z => ?_) fun _ _ z => z
 cases f with
 | next =>
   obtain ⟨σ', H', I', q⟩ := z
   rcases q with q | ⟨a, o, gs, ha, hz, q⟩
   . exact ⟨σ', H', I', q⟩
   . exact ⟨σ', _, I'.E1 ha hz, q⟩
 | ret u =>
   obtain ⟨v, σ', H', I', r, q⟩ := z
   rcases q with q | ⟨a, o, gs, ha, hz, q⟩
   . exact ⟨v, σ', H', I', r, q⟩
   . exact ⟨v, σ', _, I'.E1 ha hz, r, q⟩
 | brk => exact z
 | cont => exact z
def qx (b : Bx) (a : Addr) (F : HO) : Bx := ⟨fun c => if c = a /\ (b.B a).isSome = true then some F else b.B c, fun c => if c = a /\ (b.Z a).isSome = true then some F else b.Z c⟩
variable {b : Bx} {ts : List T} {vs : List V} {o : Obj}
theorem dP {F : HO} {c : Addr} (h : c ≠ a) : (qx b a F).B c = b.B c /\ (qx b a F).Z c = b.Z c := ⟨ahC fun z => h z.1, ahC fun z => h z.1⟩
theorem aL.still (S : Q.q) (ha : Z a = some (.dT gs)) (o : Obj) : aL K CL (qx b a Q.k) (upd H a Q.k) (upd Z a Q.k) δ σ ts vs := by
 have cv : Conv Z (upd Z a Q.k) := fun c u q => by
   by_cases e : c = a
   . subst e
     rw [ha] at q
     cases q
     exact .inr (.inl ⟨gs, o, rfl, aC⟩)
   . exact .inl (by rw [aj e]; exact q)
 obtain ⟨fp, gp, e, r, nd, k⟩ := S.rep
 have ne : ∀ c ∈ fp ++ gp, c ≠ a := fun c hc z => by
   have := (k c hc).1
   rw [z, ha] at this; cases this
 have hH := S.zh a _ ha
 refine ⟨⟨fp, gp, e.conv cv fun c hc => aj (ne c (ahy _ hc)), r.conv cv fun c hc => aj (ne c (ahu _ hc)), nd, fun c hc => ⟨by rw [aj (ne c hc)]; exact (k c hc).1, by rw [(dP (ne c hc)).1]; exact (k c hc).2⟩⟩, fun c u q => ?_, fun c u q => ?_, fun c u q => ?_, fun c u q z => ?_, fun c u q im => ?_, fun x hx h0 => ?_⟩
 . by_cases e : c = a
   . subst e
     rw [aC]
     have q : (if c = c /\ (b.B c).isSome = true then some _ else b.B c) = some u := q
     by_cases hs : (b.B c).isSome = true
     . rw [ahN ⟨rfl, hs⟩] at q; exact q
     . rw [ahC fun z => hs z.2] at q
       rw [q] at hs; exact absurd rfl hs
   . rw [(dP e).1] at q
     rw [aj e]; exact S.bh c u q
 . by_cases e : c = a
   . subst e
     rw [aC]
     have q : (if c = c /\ (b.Z c).isSome = true then some _ else b.Z c) = some u := q
     by_cases hs : (b.Z c).isSome = true
     . rw [ahN ⟨rfl, hs⟩] at q; exact q
     . rw [ahC fun z => hs z.2] at q
       rw [q] at hs; exact absurd rfl hs
   . rw [(dP e).2] at q
     rw [aj e]; exact S.zz c u q
 . by_cases e : c = a
   . subst e
     rw [aC] at q ⊢; exact q
   . rw [aj e] at q ⊢; exact S.zh c u q
 . by_cases e : c = a
   . subst e
     have z : (if c = c /\ (b.Z c).isSome = true then some _ else b.Z c) = none := z
     have hz : b.Z c = none := by
       by_cases hs : (b.Z c).isSome = true
       . rw [ahN ⟨rfl, hs⟩] at z; cases z
       . rw [ahC fun z => hs z.2] at z; exact z
     have hB := S.new c _ ha hz
     show (if c = c /\ (b.B c).isSome = true then some _ else b.B c) = none
     rw [ahC fun z => by rw [hB] at z; exact absurd z.2 Q.b]
     exact hB
   . rw [aj e] at q
     rw [(dP e).2] at z
     rw [(dP e).1]; exact S.new c u q z
 . by_cases e : c = a
   . subst e
     rw [aC] at q ⊢; exact q
   . rw [aj e] at q ⊢; exact S.tp c u q im
 . have q := S.tab x hx h0
   have e : CL x ≠ a := fun z => by
     have := S.zz _ _ q
     rw [z, ha] at this; cases this
   rw [(dP e).2]; exact q
theorem aL.E1 (S : aL K CL (qx b a Q.k) H Z δ σ ts vs) (ha : Z a = some Q.k) (h1 : ∀ u, b.B a = some u -> u = .dT gs) (h2 : ∀ u, b.Z a = some u -> u = .dT gs) (h3 : b.Z a = none -> b.B a = none) : aL K CL b (upd H a (.dT gs)) (upd Z a (.dT gs)) δ σ ts vs := by
 have cv : Conv Z (upd Z a (.dT gs)) := fun c u q => by
   by_cases e : c = a
   . subst e
     rw [ha] at q
     cases q
     exact .inr (.inr ⟨gs, o, rfl, aC⟩)
   . exact .inl (by rw [aj e]; exact q)
 obtain ⟨fp, gp, e, r, nd, k⟩ := S.rep
 have ne : ∀ c ∈ fp ++ gp, c ≠ a := fun c hc z => by
   have := (k c hc).1
   rw [z, ha] at this; cases this
 refine ⟨⟨fp, gp, e.conv cv fun c hc => aj (ne c (ahy _ hc)), r.conv cv fun c hc => aj (ne c (ahu _ hc)), nd, fun c hc => ⟨by rw [aj (ne c hc)]; exact (k c hc).1, by rw [← (dP (F := .aZ o (.dT gs)) (ne c hc)).1]; exact (k c hc).2⟩⟩, fun c u q => ?_, fun c u q => ?_, fun c u q => ?_, fun c u q z => ?_, fun c u q im => ?_, fun x hx h0 => ?_⟩
 . by_cases e : c = a
   . subst e
     rw [aC, h1 u q]
   . rw [aj e]
     exact S.bh c u (by rw [(dP e).1]; exact q)
 . by_cases e : c = a
   . subst e
     rw [aC, h2 u q]
   . rw [aj e]
     exact S.zz c u (by rw [(dP e).2]; exact q)
 . by_cases e : c = a
   . subst e
     rw [aC] at q ⊢; exact q
   . rw [aj e] at q ⊢; exact S.zh c u q
 . by_cases e : c = a
   . subst e
     exact h3 z
   . rw [aj e] at q
     have := S.new c u q (by rw [(dP e).2]; exact z)
     rwa [(dP e).1] at this
 . by_cases e : c = a
   . subst e
     rw [aC] at q
     cases q
     cases im
   . rw [aj e] at q ⊢; exact S.tp c u q im
 . have q := S.tab x hx h0
   have e : CL x ≠ a := fun z => by
     have := S.zz _ _ q
     rw [z, ha] at this; cases this
   rwa [(dP e).2] at q
theorem aL.OV (S : Q.q) (r : aU K CL H Z t v []) : aL K CL b H Z δ σ (t :: ts) (v :: vs) := by
 obtain ⟨fp, gp, e, q, nd, k⟩ := S.rep
 exact ⟨⟨fp, [] ++ gp, e, .cons r q, nd, k⟩, S.bh, S.zz, S.zh, S.new, S.tp, S.tab⟩
section
variable {δ1 : Q.f} {D : c9} {pos pos' : Pos} {x : Str} {i : Nat} {dm body : List Stmt} {kvs : List (List Key × L3.D)}
theorem Tw (g : Gx X) (nm : Ln X i x) (P : Nat -> List (Option T) -> Prop) (h : bS X CL b e δ (.sh (.dct kvs)) δ1) (h0 : P 0 δ1) (hl : ∀ j δ, P j δ -> i < δ.length)
   (hs : ∀ (b' : Bx) (j : Nat) (k : List Key) (d : L3.D) δ, kvs[j]? = some (k, d) -> P j δ -> cH X CL b' body (δ.set i (some (pT k))) { nx := P (j + 1), rt := D.rt, bk := fun δ2 => cH X CL b dm δ2 D, ct := P (j + 1) }) (hd : ∀ δ, P kvs.length δ -> cH X CL b dm δ D)
   (hq : ∀ x, foldedSetIterable e X.env x = pure x := by intro _; rfl) : cH X CL b (.For (.Name x pos') e body [] pos :: dm) δ D := aY fun H Z σ ts vs E S M =>
 BL (kL (Gb g.xe g.calm (X7 c7) (kK g.nd nm.hi nm.loc nm.hf) IV hq) (h H Z σ ts vs _ S fun v H1 Z1 z1 k1 S1 => by
   have r := S1.N5
   cases r with
   | @dct a gs _ ha rr =>
     have hkl : kvs.length = gs.length := rr.length
     have RD : ∀ (j : Nat) (k : List Key) (v : V), gs[j]? = some (k, v) -> ∃ d, kvs[j]? = some (k, d) := fun j k v hj => by
       have e1 := congrArg (·[j]?) rr.keys
       simp only [ahW, hj] at e1
       obtain ⟨p, hp, e2⟩ := aif.mp e1
       have e2 : p.1 = k := e2
       exact ⟨p.2, by rw [hp, ← e2]⟩
     have abo : ∀ {Z2 H2 : Hp} {kb : Addr} {k : List Key}, (∀ a o, H2 a = some o -> jU o = true -> Z2 a = some o) -> H2 kb = some (.tup (k.map kV)) -> aU X.K CL H2 Z2 (pT k) (.ref kb) [] := fun tp hk => .tup (tp _ _ hk rfl) (aD.ofF (yF _))
     rcases ha with ha | ⟨o, ha⟩
     . have hH := S1.zh a _ ha
       refine ⟨a, gs, rfl, .inl ⟨hH, fun o hz => ?_⟩⟩
       have S2 := S1.pop.still ha o
       have t1 : ∀ u, b.B a = some u -> u = .dT gs := fun u q => by
         have := S1.bh a u q
         rw [hH] at this; exact (ahP this).symm
       have t2 : ∀ u, b.Z a = some u -> u = .dT gs := fun u q => by
         have := S1.zz a u q
         rw [ha] at this; exact (ahP this).symm
       have t3 : b.Z a = none -> b.B a = none := S1.new a _ ha
       have back : ∀ {Z2 : Hp}, aB (upd Z1 a Q.k) Z2 -> aB Z (upd Z2 a (.dT gs)) := fun {Z2} s c u q => by
         have q1 := z1 c u q
         by_cases e : c = a
         . subst e
           rw [ha] at q1
           cases q1
           exact aC
         . rw [aj e]
           exact s c u (by rw [aj e]; exact q1)
       refine ⟨fun j m σ H2 => m = gs.length - j /\ j <= gs.length /\ ∃ Z2 δ2, aB (upd Z1 a Q.k) Z2 /\ aL X.K CL (qx b a Q.k) H2 Z2 δ2 σ ts vs /\ P j δ2, ⟨_, rfl, ah8 _, _, δ1, .refl _, S2, h0⟩, ?_⟩
       rintro j m σ2 H2 ⟨rfl, hj, Z2, δ2, s, S3, p2⟩
       have za : Z2 a = some Q.k := s a _ aC
       by_cases nJ : j < gs.length
       . refine .inr ⟨⟨nJ, S3.zh a _ za⟩, fun σ' H' => ∃ Z2 δ2, aB (upd Z1 a Q.k) Z2 /\ aL X.K CL (qx b a Q.k) H' Z2 δ2 σ' ts vs /\ P (j + 1) δ2, fun σ' H' h => ⟨gs.length - (j + 1), by omega, rfl, nJ, h⟩, fun y H' hy => ?_⟩
         obtain ⟨rfl, kb, k, v, rfl, hg, hk⟩ := hy
         obtain ⟨d, Rt⟩ := RD j k v hg
         have S4 := (S3.OV (abo S3.tp hk)).set (hl j δ2 p2)
         exact hs _ j k d δ2 Rt p2 _ Z2 _ ts vs _ S4 ⟨fun δ' σ' H' Z' s' S' k => ⟨Z', δ', s.trans s', S', k⟩, fun t v H' Z' δ' σ' s' S' k => .inr ⟨a, o, gs, S'.zh a _ (s' a _ za), hz, M.rt t v _ _ δ' σ' (back (s.trans s')) (S'.E1 (s' a _ za) t1 t2 t3) k⟩, fun δ' σ' H' Z' s' S' k => .inr ⟨a, o, gs, S'.zh a _ (s' a _ za), hz, M.nx δ' σ' _ _ (back (s.trans s')) (S'.E1 (s' a _ za) t1 t2 t3) k⟩, fun δ' σ' H' Z' s' S' k => ⟨Z', δ', s.trans s', S', k⟩⟩
       . have ej : j = gs.length := by omega
         subst ej
         exact .inl ⟨⟨ahG _, S3.zh a _ za⟩, .inr ⟨a, o, gs, S3.zh a _ za, hz, M.nx δ2 σ2 _ _ (back s) (S3.E1 za t1 t2 t3) (hd δ2 (hkl ▸ p2))⟩⟩
     . refine ⟨a, gs, rfl, .inr ⟨o, S1.zh a _ ha, ?_⟩⟩
       refine ⟨fun j m σ H2 => m = gs.length - j /\ j <= gs.length /\ ∃ Z2 δ2, aB Z1 Z2 /\ aL X.K CL b H2 Z2 δ2 σ ts vs /\ P j δ2, ⟨_, rfl, ah8 _, _, δ1, .refl _, S1.pop, h0⟩, ?_⟩
       rintro j m σ2 H2 ⟨rfl, hj, Z2, δ2, s, S3, p2⟩
       have za : Z2 a = some Q.k := s a _ ha
       by_cases nJ : j < gs.length
       . refine .inr ⟨⟨nJ, S3.zh a _ za⟩, fun σ' H' => ∃ Z2 δ2, aB Z1 Z2 /\ aL X.K CL b H' Z2 δ2 σ' ts vs /\ P (j + 1) δ2, fun σ' H' h => ⟨gs.length - (j + 1), by omega, rfl, nJ, h⟩, fun y H' hy => ?_⟩
         obtain ⟨rfl, kb, k, v, rfl, hg, hk⟩ := hy
         obtain ⟨d, Rt⟩ := RD j k v hg
         have S4 := (S3.OV (abo S3.tp hk)).set (hl j δ2 p2)
         exact hs _ j k d δ2 Rt p2 _ Z2 _ ts vs _ S4 ⟨fun δ' σ' H' Z' s' S' k => ⟨Z', δ', s.trans s', S', k⟩, fun t v H' Z' δ' σ' s' S' k => .inl (M.rt t v _ _ δ' σ' (z1.trans (s.trans s')) S' k), fun δ' σ' H' Z' s' S' k => .inl (M.nx δ' σ' _ _ (z1.trans (s.trans s')) S' k), fun δ' σ' H' Z' s' S' k => ⟨Z', δ', s.trans s', S', k⟩⟩
       . have ej : j = gs.length := by omega
         subst ej
         exact .inl ⟨⟨ahG _, S3.zh a _ za⟩, .inl (M.nx δ2 σ2 _ _ (z1.trans s) S3 (hd δ2 (hkl ▸ p2)))⟩))
theorem Jm {ks : List Key} (n : Vn X i x) (h : δ[i]? = some (some (pT ks))) : bS X CL b (.Name x pos) δ (pT ks) δ := fun H Z σ ts vs Q S k => by
 obtain ⟨fp, gp, e, q, nd, kk⟩ := S.rep
 obtain ⟨v, f1, f2, f3, hv, kM, rt, _, _⟩ := e.get h
 have h2 : f2 = [] := by
   cases rt with
   | tup hz rr => exact (aD.toF rr).2
 subst h2
 exact bZ (eB n.hi n.hv n.hd n.j3) ⟨v, hv, k v H Z (.refl _) (.refl _) (S.OV rt)⟩
end
variable {t0 : T} {v0 w : V} {i : Nat} {p : List wX} {kvs : List (List Key × T)} {k : List Key}
theorem ck.fresh (rs : ck K CL H Z kvs gs fp) (hk : k ∉ kvs.map (·.1)) (v : V) : putK gs k v = gs ++ [(k, v)] := by
 refine Nm v ?_
 cases hx : ly gs k with
 | none => rfl
 | some z =>
   exfalso
   refine hk ?_
   rw [rs.keys]
   unfold ly at hx
   obtain ⟨q, hf, _⟩ := aif.mp hx
   have h0 := List.find?_some hf
   have h1 : q.1 = k := ahX h0
   rw [← h1]
   exact List.mem_map_of_mem (ai6 hf)
theorem aL.Tz (S : aL K CL b H Z δ σ (t :: ts) (v :: vs)) (ev : σ[i]? = some (some v0)) (hi : δ[i]? = some (some t0)) (hp : T.iC p t0 = some (.dct kvs)) (nI : wY H v0 p w) (hk : k ∉ kvs.map (·.1)) :
   ∃ a gs, w = .ref a /\ H a = some (.dT gs) /\ gs.length = kvs.length /\ aL K CL b (upd H a (.dT (putK gs k v))) Z (δ.set i (some (T.j9 p (.dct (kvs ++ [(k, t)])) t0))) σ ts vs := by
 obtain ⟨f2, gp, ru, rr, nd, go⟩ := S.vp ev hi hp nI
 cases ru with
 | @dct a gs _ g ha rs =>
   cases rr with
   | @cons _ _ _ _ ft gr q1 q2 =>
     have ne : ∀ c ∈ g ++ (ft ++ gr), c ≠ a := fun c hc z => by subst z; exact (aia.mp nd).1 hc
     have pm : ((a :: (g ++ (ft ++ []))) ++ gr).Perm ((a :: g) ++ (ft ++ gr)) := aiA.mpr fun c => by simp only [aiK, ajA, List.count_nil]; omega
     refine ⟨a, gs, rfl, ha, rs.length.symm, ?_⟩
     rw [rs.fresh hk]
     exact go rfl ahw rfl (.dct aC (ck.snoc (rs.mono (.refl _) fun c hc => aj Q.n) (q1.mono (.refl _) fun c hc => aj Q.n)))
       (q2.mono (.refl _) fun c hc => aj Q.n) (pm.nodup_iff.mpr nd) fun c hc => pm.mem_iff.mp hc
section
variable {δ1 : Q.f} {e0 e2 : Expr} {t1 : T} {D : c9} {pos ps : Pos} {dm : List Stmt}
theorem TF (k : List Key) (hu : X.A.units + 64 < cLine) (h : bS X CL b e δ t δ1) (hE : F4 X CL b e0 δ1 i p) (h2 : bS X CL b e2 δ1 (pT k) δ1) (h1 : δ1[i]? = some (some t1)) (Tg : T.iC p t1 = some (.dct kvs)) (hk : k ∉ kvs.map (·.1)) (hl : kvs.length <= 1000000) (kk : cH X CL b dm (δ1.set i (some (T.j9 p (.dct (kvs ++ [(k, t)])) t1))) D)
   (hs : swapsWith e (some (.Subscript e0 e2 ps)) pos.line X.env = pure false := by rfl) : cH X CL b (.Assign [.Subscript e0 e2 ps] e pos :: dm) δ D := aY fun H Z σ ts vs E S M =>
 kL (IU Q.c c7 c7 c7 hs) (h H Z σ ts vs _ S fun v H1 Z1 z1 k1 S1 => hE H1 Z1 σ _ _ _ S1 fun v0 w H2 Z2 z2 k2 S2 ev nI => h2 H2 Z2 σ _ _ _ S2 fun v2 H3 Z3 z3 k3 S3 => by
   obtain ⟨kb, rfl, hb⟩ := S3.CK
   obtain ⟨a, gs, ea, ha, hg, S4⟩ := S3.pop.Tz ev h1 Tg (nI.mono k3) hk
   exact ⟨a, _, ea, Kl.t ha hb (by rw [hg]; exact aiD hl (by rw [aix]; decide)), M.nx _ σ _ Z3 (z1.trans (z2.trans z3)) S4 kk⟩)
end
theorem yL {α : Type} {kvs : List (List Key × α)} {x : α} (h : kO kvs k = some x) : (k, x) ∈ kvs := by
 unfold kO at h
 obtain ⟨q, hf, rfl⟩ := aif.mp h
 have h0 := List.find?_some hf
 have h1 : q.1 = k := ahX h0
 rw [← h1]
 exact ai6 hf
section
variable {δ1 : Q.f} {D : c9} {pos pp : Pos}
theorem K4 {ds : List L3.D} (hm : X.mg "tuple" = none) (h : bS X CL b e δ (.sh (.tup ds)) δ1) (hg : Gl X "tuple") (hs : Q.y := by exact aV rfl) : bS X CL b (.Call (.Name "tuple" pp) [e] [] pos) δ (.sh (.tup ds)) δ1 := fun H Z σ ts vs Q S k =>
 bZ (ic mV hg hm qp (bI c7 dF hs) (he := hs)) (h H Z σ ts vs _ S fun v H1 Z1 z1 k1 S1 => by
   have r := S1.N5
   cases r with
   | tup hq rr => exact ⟨_, _, rfl, .inr ⟨aB.Gs S1.zh hq, k _ H1 Z1 z1 k1 S1⟩⟩)
end
variable {kvs : List (List Key × L3.D)}
theorem cD.nth : ∀ {kvs : List (List Key × D)} {gs : List (List Key × V)}, cD K CL Z kvs gs -> ∀ {j : Nat} {x : List Key × V}, gs[j]? = some x -> ∃ d, kvs[j]? = some (x.1, d) /\ bf K CL Z d x.2 := fun {kvs gs} h => cD.ind (P := fun kvs gs => ∀ {j : Nat} {x : List Key × V}, gs[j]? = some x -> ∃ d, kvs[j]? = some (x.1, d) /\ bf K CL Z d x.2) (fun {j x} e => by simp at e) (fun {k d v _ _} r _ i {j x} e => by
   cases j with
   | zero =>
     simp at e
     subst e
     exact ⟨d, rfl, r⟩
   | succ j =>
     rw [ajK] at e ⊢
     exact i e) h
namespace Dk
variable {prog : Program} {w : World} {A : Around} {E : Q.l} {s : Shared} {it d : Addr} {ep : Nat} {es : Array DictEntry} {od : Obj} {ok ov : Value}
theorem K5 {Q : Q.l} (hd : (d == sysModules) = false) (hT : s.TypeIs (.ref d) "dict") (hQ : Q (.ref s.heap.objs.size) { s with heap := s.heap.push { cls := .type "dict_items", data := .fields #[.ref d] } }) : wpAny (model prog w) A (call (.builtin "dict.items") [.ref d]) Q E s := by
 refine aiF PySem.F.slot_dict_items hT PySem.F.entry_dict_items ?_ (PySem.F.args_dict_items_1 _)
 unfold Builtin.«dict.items» Builtin.Dict.noArgs
 refine aht (aht (wpAny_notOrdered_dict hT (show wpAny _ _ (pure d) _ _ s from ahF ?_)))
 show wpAny _ _ (Builtin.Dict.showsAll d >>= _) _ _ s
 unfold Builtin.Dict.showsAll
 rw [ahC (by rw [hd]; exact ahI)]
 exact aht (ahF (aht (aiy (ahF ⟨_, rfl, hQ⟩))))
theorem G3 {v : Addr} {Q : Q.l} (hv : s.heap.IsItemsView v d) (ho : s.heap.get? d = some od) (sV : od.data = .dict es ep)
   (hQ : Q (.ref s.heap.objs.size) { s with heap := s.heap.push { cls := .type "dict_itemiterator", data := .fields #[.none, .bool false, .ref d, .int 0 0, .int es.size 0, .int ep 0, .none, .none] } }) : wpAny (model prog w) A (pyIter (.ref v)) Q E s := by
 obtain ⟨ow, hov, hcv, hdv⟩ := id hv
 refine wpAny_pyIter_slot hv.typeIs PySem.F.slot_dict_items_iter (aiF PySem.F.slot_dict_items_iter hv.typeIs PySem.F.entry_dict_items_iter (aht (ahF (aht ?_))) (PySem.F.args_dict_items_iter_1 _))
 unfold Builtin.Dict_items.dictOf
 refine aht (aiN hov hdv (x := .ref d) rfl (ahF (aht ?_)))
 unfold Builtin.Dict_items.newIterator
 refine aht (ajl ho sV (aht (ajB ho sV ?_)))
 simp only [show Builtin.Dict_items.ownsTuple "dict_itemiterator" = true by decide, ajw]
 exact wpAny_newObj_type (wpAny_pure ⟨_, rfl, "dict_itemiterator", _, ⟨_, Heap.get?_push_size _ rfl, rfl⟩, PySem.F.slot_dict_itemiterator_next.lookup, by simpa [rawInt, Builtin.Dict_items.ownedTupleFields] using hQ⟩) (by simp only [sizeOk, Builtin.Dict_items.ownedTupleFields, List.size_toArray, List.length_append, List.length_cons, List.length_nil, sizeLine_eq]; omega)
theorem G4 {Q : Option Value -> Shared -> Prop} (hit : IsItemIter s.heap it d i es.size ep ok ov) (OQ : s.heap.get? d = some od) (OS : od.data = .dict es ep) {e : DictEntry} (hx : es[i]? = some e)
   (hQ : ∀ h', IsItemIterOut h' it d (i + 1) es.size ep e.key e.val s.heap.objs.size -> h'.get? s.heap.objs.size = some { cls := .type "tuple", data := .seq #[e.key, e.val] } -> (∀ b o, b ≠ it -> s.heap.get? b = some o -> h'.get? b = some o) -> Q (some (.ref s.heap.objs.size)) { s with heap := h' }) :
   wpAny (model prog w) A (pyNext (.ref it)) Q E s := by
 obtain ⟨hp, g, dr, tk, os⟩ := s
 have hT : Shared.TypeIs ⟨hp, g, dr, tk, os⟩ (.ref it) "dict_itemiterator" := ⟨_, hit, rfl⟩
 have G0 : Builtin.Dict_items.ownsTuple "dict_itemiterator" = true := by decide
 unfold pyNext
 refine aht (ajc (aiJ (name := Str.ofString "__next__") hT aiI (aiF aiI hT PySem.F.entry_dict_itemiterator_next (aht (ahF ?_)) (PySem.F.args_dict_itemiterator_next_1 _))))
 refine aht (aht (aht (aiU hT (ahF (aht (wpAny_fieldsOf hit rfl ?_))))))
 simp only [G0, ajw]
 show wpAny _ _ (if (Value.ref d == Value.none) = true then _ else _) _ _ (⟨hp, g, dr, tk, os⟩ : Shared)
 rw [ahC (show ¬ ((Value.ref d == Value.none) = true) from ahI)]
 refine aht (ahF (aht (ajl OQ OS ?_)))
 rw [ahC (by simp)]
 refine aht (ahF (aht (ajB OQ OS ?_)))
 rw [ahC (by simp)]
 refine ahF ?_
 obtain ⟨nJ, he⟩ := ai4.mp hx
 simp only [show ¬ ((i : Int) < 0) from by omega, ajp, aiz, Array.getElem?_eq_getElem nJ]
 refine aht (aht (aiU hT (ahF (aht (wpAny_isOneOf_itemiter hT ?_)))))
 show wpAny _ _ (setField (.ref it) 3 (rawInt ((i : Int) + 1)) >>= _) _ _ (⟨hp, g, dr, tk, os⟩ : Shared)
 refine aht (ajg hit (by simp) fun h₁ Jo Jp => ?_)
 have Jp : Heap.SameBut it hp h₁ := Jp
 have Jo : IsItemIter h₁ it d (i + 1) es.size ep ok ov := by
   have e : ((i + 1 : Nat) : Int) = (i : Int) + 1 := by omega
   unfold IsItemIter
   rw [e]
   simpa [rawInt] using Jo
 have VQ : Shared.TypeIs ⟨h₁, g, dr, tk, os⟩ (.ref it) "dict_itemiterator" := ⟨_, Jo, rfl⟩
 refine aht (ajM (aht (wpAny_isOneOf_itemiter VQ (aht (wpAny_isOneOf_itemiter VQ ?_)))))
 rw [he]
 show wpAny _ _ (Builtin.Dict_items.pairFromOwner (.ref it) 6 e.key e.val) _ _ (⟨h₁, g, dr, tk, os⟩ : Shared)
 unfold Builtin.Dict_items.pairFromOwner
 refine aht (wpAny_newTuple ?_)
 have E2 : IsItemIter (h₁.push { cls := .type "tuple", data := .seq #[e.key, e.val] }) it d (i + 1) es.size ep ok ov := ahE _ Jo
 have VR : h₁.objs.size = hp.objs.size := Jp.1
 have rY : it < hp.objs.size := ahR hit
 have VW : (h₁.push { cls := .type "tuple", data := .seq #[e.key, e.val] }).get? hp.objs.size = some { cls := .type "tuple", data := .seq #[e.key, e.val] } := by rw [← VR]; exact ahU _ rfl
 have VX : ∀ b o, b ≠ it -> hp.get? b = some o -> (h₁.push { cls := .type "tuple", data := .seq #[e.key, e.val] }).get? b = some o := fun b o hb q => ahE _ (Jp.extBut b o hb q)
 generalize h₁.push { cls := .type "tuple", data := .seq #[e.key, e.val] } = h₂ at E2 VW VX ⊢
 show wpAny _ _ (Builtin.Dict_items.ownedTupleIsFree (.ref it) >>= _) _ _ (⟨h₂, g, dr, tk, os⟩ : Shared)
 rw [VR]
 refine aht ?_
 unfold Builtin.Dict_items.ownedTupleIsFree
 refine aht (aiN E2 rfl (x := .none) rfl (ahF ?_))
 simp only [ajw]
 refine aht (aiN E2 rfl (x := ok) rfl (aht (aiN E2 rfl (x := ov) rfl ?_)))
 refine aht (ajg E2 (by simp) fun h₃ OW OX => ?_)
 have OX : Heap.SameBut it h₂ h₃ := OX
 have OW : IsItemIter h₃ it d (i + 1) es.size ep e.key ov := OW
 refine aht (ajg OW (by simp) fun h₄ OY OZ => ?_)
 have OZ : Heap.SameBut it h₃ h₄ := OZ
 have OY : IsItemIter h₄ it d (i + 1) es.size ep e.key e.val := OY
 refine aht (ajg OY (by simp) fun h₅ O1 O2 => ?_)
 have O2 : Heap.SameBut it h₄ h₅ := O2
 have O1 : IsItemIterOut h₅ it d (i + 1) es.size ep e.key e.val hp.objs.size := O1
 refine aht (ajg O1 (by simp) fun h₆ O4 O5 => ?_)
 have O5 : Heap.SameBut it h₅ h₆ := O5
 have O4 : IsItemIterOut h₆ it d (i + 1) es.size ep e.key e.val hp.objs.size := O4
 have fin : ∀ b o, b ≠ it -> h₂.get? b = some o -> h₆.get? b = some o := fun b o hb q => O5.extBut b o hb (O2.extBut b o hb (OZ.extBut b o hb (OX.extBut b o hb q)))
 exact aht (wpAny_letGo (ahF (ahF ⟨_, rfl, ahF (hQ h₆ O4 (fin _ _ (Nat.ne_of_gt rY) VW) fun b o hb q => fin b o hb (VX b o hb q))⟩)))
theorem K6 {Q : Option Value -> Shared -> Prop} (hh : A.handled = none) (hit : IsItemIter s.heap it d i es.size ep ok ov) (OQ : s.heap.get? d = some od) (OS : od.data = .dict es ep) (hx : es.size <= i)
   (hQ : ∀ h', Heap.ExtBut it s.heap h' -> Q none { s with heap := h' }) : wpAny (model prog w) A (pyNext (.ref it)) Q E s := by
 have hT : s.TypeIs (.ref it) "dict_itemiterator" := ⟨_, hit, rfl⟩
 have G0 : Builtin.Dict_items.ownsTuple "dict_itemiterator" = true := by decide
 unfold pyNext
 refine aht (ajc (aiJ (name := Str.ofString "__next__") hT aiI (aiF aiI hT PySem.F.entry_dict_itemiterator_next (aht (ahF ?_)) (PySem.F.args_dict_itemiterator_next_1 _))))
 refine aht (aht (aht (aiU hT (ahF (aht (wpAny_fieldsOf hit rfl ?_))))))
 simp only [G0, ajw]
 show wpAny _ _ (if (Value.ref d == Value.none) = true then _ else _) _ _ s
 rw [ahC (show ¬ ((Value.ref d == Value.none) = true) from ahI)]
 refine aht (ahF (aht (ajl OQ OS ?_)))
 rw [ahC (by simp)]
 refine aht (ahF (aht (ajB OQ OS ?_)))
 rw [ahC (by simp)]
 refine ahF ?_
 simp only [show ¬ ((i : Int) < 0) from by omega, ajp, aiz, Array.getElem?_eq_none hx]
 refine aht (aht (aiU hT (ahF ?_)))
 show wpAny _ _ (setField (.ref it) 2 .none >>= _) _ _ s
 refine aht (ai7 hit rfl (by simp) ?_)
 show wpAny _ _ (newExc (.type "StopIteration") [] >>= _) _ _ _
 refine aht ?_
 simp only [newExc, newTuple]
 refine aht (aiy (aht (m := firstArgMember _ _) (wpAny_of_eq (a := Value.none) (by first | rfl | (simp only [firstArgMember]; rfl)) (aiy ?_ (by size_fits)))) (by size_fits))
 simp only [raiseNew]
 refine aht (wpAny_handled ?_)
 rw [show A.in1.handled = none from hh]
 refine aht (ahF (wpAny_throw ?_))
 exact aht (wpAny_isInstance (T := "StopIteration") (b := true) ⟨_, ahU _ rfl, rfl⟩ isSubtype_stop (ahF (hQ _ (((aja ..).extBut.push _).push _))))
end Dk
def Iti (a : Addr) (o : Obj) (gs : List (List Key × V)) : It :=
 ⟨fun i H => i < gs.length /\ H a = some Q.k, fun i H x H' => ∃ T b k v, H T = none /\ x = .ref T /\ gs[i]? = some (k, v) /\ H b = some (.tup (k.map kV)) /\ H' = upd H T (.tup [.ref b, v]), fun i H => gs.length <= i /\ H a = some Q.k⟩
theorem G5 {P : Program} {w : World} {elts : List Expr} {kk : Nat} {pt : Pos} {it : Addr} {es : Array DictEntry} {ep : Nat} (sV : o.data = .dict es ep) : Turn P w K (.Tuple elts kk pt) (Iti a o gs) [it] it (fun i h => ∃ ok ov, IsItemIter h it a i es.size ep ok ov) where
 mem := by simp
 obj := fun i h st b hb => by
   obtain ⟨ok, ov, he⟩ := st
   have e : b = it := by simpa using hb
   subst e
   exact ⟨_, he, fun v z => by
     have z' : Data.fields _ = Data.cell v := z
     cases z'⟩
 keep := fun i h h' st k => by
   obtain ⟨ok, ov, he⟩ := st
   exact ⟨ok, ov, k it (by simp) _ he⟩
 item := by
   intro X hP hw hK hc i pins s σ H E I hf st hg
   subst hP hw hK
   obtain ⟨nJ, ha⟩ := hg
   obtain ⟨e, z, y, xs, r, o', Vo, Wi, e', c, d, Tv, nd⟩ := (show dD X.prog X.w H s.heap a Q.k from I.bY a _ ha)
   rw [e] at e'
   cases e'
   rw [sV] at d
   cases d
   obtain ⟨ok, ov, he⟩ := st
   have fi := hf it (by simp)
   have hT0 : H s.heap.objs.size = none := I.bY.fresh (ahG _)
   have fT := I.Er (ahG s.heap.objs.size) hT0
   obtain ⟨q, hq, q1, q2, q3⟩ := Paired.nth r (i := i) (x := gs[i]) (ahQ nJ)
   have hx : es[i]? = some (entryOfKey (tupleKind (eW X.prog X.w)) q) := by
     rw [← ajm, Tv, ahW, hq]
     rfl
   refine Dk.G4 he e sV hx fun h' ho hT hk => ⟨_, rfl, ?_⟩
   refine PySem.wpAny_letOwnedTupleGo_items ho fun h2 he2 RH => ?_
   have RH : Heap.SameBut it h' h2 := RH
   have eT : it < s.heap.objs.size := ahR he
   have keep : ∀ b ob, b ≠ it -> s.heap.get? b = some ob -> h2.get? b = some ob := fun b ob h1 q => (RH.2 b h1).trans (hk b ob h1 q)
   have hT2 : h2.get? s.heap.objs.size = some { cls := .type "tuple", data := .seq #[.ref q.2.1, q.2.2] } := (RH.2 _ (Nat.ne_of_gt eT)).trans hT
   have nH : ∀ b ob, H b = some ob -> b ≠ it /\ b ≠ s.heap.objs.size := fun b ob q => ⟨fun z => (by rw [z, fi.1] at q; cases q), fun z => (by rw [z, hT0] at q; cases q)⟩
   have I' : L2.Inv X pins σ (upd H s.heap.objs.size (.tup [.ref q.2.1, gs[i].2])) { s with heap := h2 } := by
     refine I.step (g' := s.gens) (d' := s.drawn) (ch := [it, s.heap.objs.size]) (fun b hb => ?_) (fun b ob _ _ hc q _ => ?_) (fun b ob _ _ hc q _ => ⟨ob.slots, ?_⟩) (fun b ob hc q n => ?_) (fun b ob hc q => ⟨ob, ?_⟩) (fun b ys q => ?_) (fun b ob u q => ?_) (fun b ps q => ⟨#[], ?_⟩) (fun m hm => ?_) (fun b ob q => ?_) I.bare
     . rcases ahH.mp hb with z | hb
       . subst z; exact ⟨fi.2.2.2.1, fi.2.1, fi.2.2.2.2.1, fi.2.2.2.2.2⟩
       . have z : b = s.heap.objs.size := by simpa using hb
         subst z; exact ⟨fT.2.2.2.1, fT.2.1, fT.2.2.2.2.1, fT.2.2.2.2.2⟩
     . exact keep b ob (fun z => hc (by simp [z])) q
     . exact keep b ob (fun z => hc (by simp [z])) q
     . rw [aj (fun z => hc (by simp [z]))]; exact n
     . exact keep b ob (fun z => hc (by simp [z])) q
     . rw [aj (nH b _ q).2]; exact q
     . rw [aj (nH b _ q).2]; exact q
     . rw [aj (nH b _ q).2, q]; simp
     . obtain ⟨ob, es, ep, ho, r⟩ := hm
       exact ⟨ob, es, ep, keep _ ob (ajv fi.2.1) ho, r⟩
     . by_cases hb : b = s.heap.objs.size
       . subst hb
         rw [aC] at q
         cases q
         exact ⟨aiC (jl (ahA rfl)), [.ref _, _], .cons rfl (.cons q3 .nil), ⟨_, hT2, rfl, _, rfl⟩⟩
       . rw [aj hb] at q
         refine (I.bY b ob q).x9 (fun c v hc z => keep c v ?_ z) (fun c z => by rw [aj (nH c _ z).2]; exact z) (fun c ys z => by rw [aj (nH c _ z).2]; exact z) fun c ys z => by rw [aj (nH c _ z).2]; exact z
         rcases hc with z | z
         . rw [z]; exact (nH b _ q).1
         . exact (nH c _ z).1
   refine ⟨.ref s.heap.objs.size, _, I', rfl, ⟨_, q.2.1, gs[i].1, gs[i].2, hT0, rfl, ahQ nJ, q2, rfl⟩, ⟨_, _, he2⟩, fun b hb => ?_⟩
   have z : b = it := by simpa using hb
   subst z
   rw [aj (aid eT)]
   exact fi.1
 done := by
   intro X hP hw hK hc i pins s σ H E I hf st hg
   subst hP hw hK
   obtain ⟨hge, ha⟩ := hg
   obtain ⟨e, z, y, xs, r, o', Vo, Wi, e', c, d, Tv, nd⟩ := (show dD X.prog X.w H s.heap a Q.k from I.bY a _ ha)
   rw [e] at e'
   cases e'
   rw [sV] at d
   cases d
   obtain ⟨ok, ov, he⟩ := st
   obtain ⟨f0, f1, f2, f3, f4, f5⟩ := hf it (by simp)
   have hl := ajt r
   have hsz : es.size = xs.length := by rw [← ajy, Tv, ahx]
   exact Dk.K6 (I.ok.hd hc) he e sV Q.c fun h' eb => ⟨rfl, I.turned (t' := s.toks) (fun b ob hb e => eb b ob hb e) f0 f1 f3 f4 f5⟩
 self := fun _ _ _ _ _ st h => by
   obtain ⟨ok, ov, he⟩ := st
   exact PySem.W.kcp_self he h
def abq (X : Cx) (te : TE) : TI := fun σ H R => te σ H fun x H1 => ∃ a gs, x = .ref a /\ ((H1 a = some (.dT gs) /\ ∀ o, (∀ ob q, X.H₀ a ≠ some (.aZ ob q)) -> R (Iti a o gs) (upd H1 a Q.k)) \/ ∃ o, H1 a = some Q.k /\ R (Iti a o gs) H1)
theorem E3 {te : TE} {elts : List Expr} {kk : Nat} {pt apos rX : Pos} (he : PE X e te) (eV : attributeBase e "items" X.env (eval e X.env) = eval e X.env := by rfl) (hline : (apos.endLine == rX.line) = true := by rfl) : PI X (.Tuple elts kk pt) (.Call (.Attribute e "items" apos) [] [] rX) (abq X te) := by
 intro pins s σ H R I h
 refine wpAny_Call_method0_late eV hline (di (he pins s σ H _ I h) fun v s1 zz => ?_)
 obtain ⟨x, H1, I1, r1, a, gs, ex, q⟩ := zz
 subst ex
 cases r1
 have main : ∀ (H2 : Hp) (o : Obj), L2.Inv X pins σ H2 s1 -> H2 a = some Q.k -> R (Iti a o gs) H2 -> wpAny Q.d X.A (call (.builtin "dict.items") [.ref a]) (fun v s1 => wpAny Q.d X.A (pyIter v) (Z7 X pins σ (.Tuple elts kk pt) R) X.xe s1) X.xe s1 := fun H2 o I2 ha hR => by
   obtain ⟨e, z, y, xs, r, o', es, ep, e', c, d, Tv, nd⟩ := (show dD X.prog X.w H2 s1.heap a Q.k from I2.bY a _ ha)
   rw [e] at e'
   cases e'
   obtain ⟨_, _, _, _, dd⟩ := BE I2.bY (.inr ⟨o, ha⟩)
   refine Dk.K5 y dd.typeIs (Dk.G3 (s := { s1 with heap := s1.heap.push _ }) ⟨_, ahU _ rfl, rfl, rfl⟩ (ahE _ e) d ?_)
   have hz : (s1.heap.push { cls := .type "dict_items", data := .fields #[.ref a] }).objs.size = s1.heap.objs.size + 1 := ajI ..
   refine ⟨s1.heap.objs.size + 1, [s1.heap.objs.size + 1], _, _, H2, by rw [← hz], I2.kept (t' := s1.toks) fun b ob e => ahE _ (ahE _ e), G5 d, ⟨.none, .none, by rw [← hz]; exact ahU _ rfl⟩, fun b hb => ?_, hR⟩
   have e : b = s1.heap.objs.size + 1 := by simpa using hb
   subst e
   exact I2.Er (Nat.le_succ _) (I2.bY.fresh (Nat.le_succ _))
 have go : wpAny Q.d X.A (call (.builtin "dict.items") [.ref a]) (fun v s1 => wpAny Q.d X.A (pyIter v) (Z7 X pins σ (.Tuple elts kk pt) R) X.xe s1) X.xe s1 := by
   rcases q with ⟨ha, q⟩ | ⟨o, ha, q⟩
   . obtain ⟨o, e, hz, I2⟩ := I1.abm ha
     exact main _ o I2 aC (q o hz)
   . exact main _ o I1 ha q
 have hr : Rd H1 a (.dT gs) := by
   rcases q with ⟨ha, _⟩ | ⟨o, ha, _⟩
   . exact .inl ha
   . exact .inr ⟨o, ha⟩
 obtain ⟨_, _, _, _, dd⟩ := BE I1.bY hr
 have Zo := dd
 obtain ⟨ob, Vo, ep, h1, h2, h3, h4, h5⟩ := Zo
 exact ⟨"dict", "dict.items", PySem.F.plainAttrs_dict, PySem.F.slot_dict_items, PySem.F.type_dict_items, dd.typeIs, fun a' e' => ⟨ob, by cases e'; exact h1, h2.2.1⟩, Calls.callWith_builtin rfl (PySem.evalArgs_none go)⟩
def b7 (kvs : List (List Key × L3.D)) : List L3.D := kvs.map fun q => .tup [Jj q.1, q.2]
variable {δ1 : Q.f} {H1 Z1 : Hp}
theorem yM (S : aL X.K CL b H1 Z1 δ1 σ ts vs) (ha : Z1 a = some Q.k) (rr : cD X.K CL Z1 kvs gs) : sS X CL b δ1 σ ts vs Z1 H1 (b7 kvs) (Iti a o gs) H1 := by
 have hl := rr.length
 have rY : (b7 kvs).length = gs.length := by unfold b7; rw [ahx, hl]
 refine ⟨Z1, .refl _, .refl _, S, fun i H2 s hi => ⟨by omega, s a _ ha⟩, fun i Z2 H2 x H' s1 s2 tp hi hy => ?_, fun H2 s => ⟨by omega, s a _ ha⟩⟩
 obtain ⟨T, kb, k, v, hT, rfl, hg, hk, rfl⟩ := hy
 obtain ⟨d, hd, rd⟩ := rr.nth hg
 have gr : EK Z2 H2 _ _ := EK.tup (xs := [.ref kb, v]) s2 tp hT
 refine ⟨_, .tup [Jj k, d], by unfold b7; rw [ahW, hd]; rfl, gr, .tup (sO.of aC) (.cons ?_ (.cons ((rd.mono s1).mono gr.z) .nil))⟩
 exact bf.mono gr.z (.tup (sO.of (tp _ _ hk rfl)) (yF _))
theorem cD.conv (e : Conv Z Z') (h : cD X.K CL Z kvs gs) : cD X.K CL Z' kvs gs := cD.ind (P := fun kvs gs => cD X.K CL Z' kvs gs) .nil (fun r _ i => .cons (r.conv e) i) h
def aeg (X : Cx) (CL : Q.e) (b : Bx) (δ1 : Q.f) (σ : L2.St) (ts : List T) (vs : List V) (Z H : Hp) (ds : List L3.D) (J : It) (Hf : Hp) : Prop :=
 sS X CL b δ1 σ ts vs Z H ds J Hf \/ ∃ a o gs H1 Z1, Z1 a = some (.dT gs) /\ aB Z Z1 /\ aB H H1 /\ aL X.K CL b H1 Z1 δ1 σ ts vs /\ (∀ ob q, X.H₀ a ≠ some (.aZ ob q)) /\ Hf = upd H1 a Q.k /\ sS X CL (qx b a Q.k) δ1 σ ts vs (upd Z1 a Q.k) (upd H1 a Q.k) ds J Hf
theorem O6 (h : bS X CL b e δ (.sh (.dct kvs)) δ1) (S : aL X.K CL b H Z δ σ ts vs) : abq X (pZ X e) σ H (aeg X CL b δ1 σ ts vs Z H (b7 kvs)) := h H Z σ ts vs _ S fun v H1 Z1 z1 k1 S1 => by
 have r := S1.N5
 cases r with
 | @dct a gs _ ha rr =>
   refine ⟨a, gs, rfl, ?_⟩
   rcases ha with ha | ⟨o, ha⟩
   . refine .inl ⟨S1.zh a _ ha, fun o hz => .inr ⟨a, o, gs, H1, Z1, ha, z1, k1, S1.pop, hz, rfl, ?_⟩⟩
     refine yM (S1.pop.still ha o) aC (cD.conv (fun c u q => ?_) rr)
     by_cases e : c = a
     . subst e
       rw [ha] at q
       cases q
       exact .inr (.inl ⟨gs, o, rfl, aC⟩)
     . exact .inl (by rw [aj e]; exact q)
   . obtain ⟨Z2, q1, q2, q3⟩ := (yM S1.pop ha rr).ex
     exact .inr ⟨o, S1.zh a _ ha, .inl ⟨Z2, z1.trans q1, k1.trans q2, q3⟩⟩
theorem E4 {σ2 : L2.St} {ts2 : List T} {Zw : List V} (ha : Z1 a = some (.dT gs)) (z1 : aB Z Z1) (k1 : aB H H1) (S1 : aL X.K CL b H1 Z1 δ1 σ ts vs) (z' : aB (upd Z1 a Q.k) Z') (k' : aB (upd H1 a Q.k) H') (S' : aL X.K CL (qx b a Q.k) H' Z' δ σ2 ts2 Zw) :
   H' a = some Q.k /\ aB Z (upd Z' a (.dT gs)) /\ aB H (upd H' a (.dT gs)) /\ aL X.K CL b (upd H' a (.dT gs)) (upd Z' a (.dT gs)) δ σ2 ts2 Zw := by
 have hH := S1.zh a _ ha
 have za : Z' a = some Q.k := z' a _ aC
 have t1 : ∀ u, b.B a = some u -> u = .dT gs := fun u q => by
   have := S1.bh a u q
   rw [hH] at this; exact (ahP this).symm
 have t2 : ∀ u, b.Z a = some u -> u = .dT gs := fun u q => by
   have := S1.zz a u q
   rw [ha] at this; exact (ahP this).symm
 refine ⟨S'.zh a _ za, fun c u q => ?_, fun c u q => ?_, S'.E1 za t1 t2 (S1.new a _ ha)⟩
 . have q1 := z1 c u q
   by_cases e : c = a
   . subst e
     rw [ha] at q1
     cases q1
     exact aC
   . rw [aj e]
     exact z' c u (by rw [aj e]; exact q1)
 . have q1 := k1 c u q
   by_cases e : c = a
   . subst e
     rw [hH] at q1
     cases q1
     exact aC
   . rw [aj e]
     exact k' c u (by rw [aj e]; exact q1)
theorem G6 {Q : VK} (h : pZ X e σ H fun v H' => Q v H' \/ ∃ a o gs, H' a = some Q.k /\ (∀ ob q, X.H₀ a ≠ some (.aZ ob q)) /\ Q v (upd H' a (.dT gs))) : pZ X e σ H Q := fun pins s I => by
 refine aik (h pins s I) (fun u s' z => ?_) fun _ _ z => z
 obtain ⟨v, H', I', r, q⟩ := z
 rcases q with q | ⟨a, o, gs, ha, hz, q⟩
 . exact ⟨v, H', I', r, q⟩
 . exact ⟨v, _, I'.E1 ha hz, r, q⟩
variable {scope : Scope} {xs Nc : List Str} {ix : List Nat} {elt : Expr} {elts ifs : List Expr} {kk : Nat} {pos pt pa pc : Pos} {p : L3.D -> Bool} {g : L3.D -> T} {δc : Q.f} {parts : L3.D -> Option (List L3.D)}
theorem E5 (sc : j8 X scope xs Nc ix) (hc : X.calm = true) (h : bS X CL b e δ (.sh (.dct kvs)) δ1) (hb : (δc = yr δ1 ix /\ ∀ d ∈ b7 kvs, (g d).clean = true) \/ δc = t8 δ1 ix) (inner : oQ X CL scope Nc xs.length (.Tuple elts kk pt) parts ifs elt δc (b7 kvs) p g) (hlen : kvs.length <= sizeLine)
   (eV : attributeBase e "items" X.env (eval e X.env) = eval e X.env := by rfl) (hline : (pa.endLine == pc.line) = true := by rfl) (hs : ∀ x, foldedSetIterable (.Call (.Attribute e "items" pa) [] [] pc) X.env x = pure x := by intro _; rfl) :
   bS X CL b (.ListComp elt [⟨.Tuple elts kk pt, .Call (.Attribute e "items" pa) [] [] pc, ifs, 0⟩] scope pos) δ (.lst (((b7 kvs).filter p).map g)) δ1 := fun H Z σ ts vs Q S k => G6 fun pins s I => by
 have rY : (b7 kvs).length <= sizeLine := by unfold b7; rw [ahx]; exact hlen
 rw [eval_ListComp]
 refine aiS (use := none) rfl hs (mz sc I) sc.kind sc.names ?_
 refine di (E3 (elts := elts) (kk := kk) (pt := pt) (te := pZ X e) c7 eV hline pins s σ H _ I (O6 h S)) fun v s1 h1 => di h1 fun Wz s2 zz => ?_
 obtain ⟨it, fp, tn, J, Hf, e, I1, Tn, st, hf, C⟩ := zz
 subst e
 rcases C with C | ⟨a, o, gs, H1, Z1, ha, z1, k1, S1, hz, rfl, C⟩
 . refine k7 (RR := fun acc C => compPost Q.d X.A X.xe none (EP X pins σ _) acc C) sc hc C I1 Tn st hf hb inner rY fun D C' s' H' Z' m io nC ch ci z' k' S' => ?_
   obtain ⟨m, hn⟩ := m
   exact ⟨m, hn, fun h' GC => ⟨.ref D, H', ci h' GC, rfl, .inl (k _ H' Z' z' k' S')⟩⟩
 . refine k7 (RR := fun acc C => compPost Q.d X.A X.xe none (EP X pins σ _) acc C) sc hc C I1 Tn st hf hb inner rY fun D C' s' H' Z' m io nC ch ci z' k' S' => ?_
   obtain ⟨m, hn⟩ := m
   obtain ⟨q1, q2, q3, q4⟩ := E4 ha z1 k1 S1 z' k' S'
   exact ⟨m, hn, fun h' GC => ⟨.ref D, H', ci h' GC, rfl, .inr ⟨a, o, gs, q1, hz, k _ _ _ q2 q3 q4⟩⟩⟩
theorem TH {D : c9} {y : Str} {py N3 : Pos} (i : Nat) (sc : j8 X scope xs Nc ix) (hc : X.calm = true) (h : bS X CL b e δ (.sh (.dct kvs)) δ1) (hb : (δc = yr δ1 ix /\ ∀ d ∈ b7 kvs, (g d).clean = true) \/ δc = t8 δ1 ix) (inner : oQ X CL scope Nc xs.length (.Tuple elts kk pt) parts ifs elt δc (b7 kvs) p g) (hlen : kvs.length <= sizeLine)
   (k : D.nx (δ1.set i (some (.lst (((b7 kvs).filter p).map g))))) (hl : i < δ1.length) (hN : X.N.Nodup) (hi : X.N[i]? = some y) (hx : Loc X.env.scope y) (hf' : X.fn y = true \/ X.env.scope.names.lookup y = some .local)
   (t7 : swapsWith (.ListComp elt [⟨.Tuple elts kk pt, .Call (.Attribute e "items" pa) [] [] pc, ifs, 0⟩] scope pos) (some (.Name y py)) N3.line X.env = pure true)
   (eV : attributeBase e "items" X.env (eval e X.env) = eval e X.env := by rfl) (hline : (pa.endLine == pc.line) = true := by rfl) (hs : ∀ x, foldedSetIterable (.Call (.Attribute e "items" pa) [] [] pc) X.env x = pure x := by intro _; rfl) :
   Ks X CL b (.Assign [.Name y py] (.ListComp elt [⟨.Tuple elts kk pt, .Call (.Attribute e "items" pa) [] [] pc, ifs, 0⟩] scope pos) N3) δ D := fun H Z σ ts vs E S M => BL fun pins s I => by
 have rY : (b7 kvs).length <= sizeLine := by unfold b7; rw [ahx]; exact hlen
 rw [exec_Assign_Name_used _ _ _ _ t7]
 refine aht (wpAny_standAt (aht ?_))
 show wpAny _ X.A (do let _ ← comprehension (.ListComp elt [⟨.Tuple elts kk pt, .Call (.Attribute e "items" pa) [] [] pc, ifs, 0⟩] scope pos) scope X.env _ (newList []) false (eval (.Call (.Attribute e "items" pa) [] [] pc) X.env) (some (assign (.Name y py) X.env))) _ _ s
 refine aht (aik (aiS (use := some (assign (.Name y py) X.env)) (Q := fun _ s' => SP X pins (vt X E) .next s') rfl hs (mz sc I) sc.kind sc.names ?_) (fun _ s' hq => ahF (ahF hq)) fun _ _ e => e)
 refine di (E3 (elts := elts) (kk := kk) (pt := pt) (te := pZ X e) c7 eV hline pins s σ H _ I (O6 h S)) fun v s1 h1 => di h1 fun Wz s2 zz => ?_
 obtain ⟨it, fp, tn, J, Hf, e, I1, Tn, st, hf, C⟩ := zz
 subst e
 have fin : ∀ (D' C' : Addr) (s' : Shared) (H' : Hp), (∃ m, s'.heap.Ns C' m) -> (∃ ob, s'.heap.get? C' = some ob /\ ∀ v, ob.data ≠ .cell v) -> H' C' = none -> (C' ≠ X.env.locals /\ C' ∉ X.fs /\ X.s₀.heap.objs.size <= C' /\ (∀ y c, X.env.cells.lookup y = some c -> c ≠ C') /\ ∀ q ∈ X.pn ++ pins, q.1 ≠ C') -> (∀ h', Heap.SameBut C' s'.heap h' -> L2.Inv X pins σ H' { s' with heap := h' }) -> (vt X E).nx (σ.set i (some (.ref D'))) H' -> compPost Q.d X.A X.xe (some (assign (.Name y py) X.env)) (fun _ s' => SP X pins (vt X E) .next s') (.ref D') C' (.ok .next) s' := fun D' C' s' H' m io nC ch ci q => by
   obtain ⟨m, hn⟩ := m
   obtain ⟨ob, ho, pR⟩ := io
   have I' : L2.Inv X pins σ H' s' := ci s'.heap (.refl ..)
   have I2 : L2.Inv X (pins ++ [(C', ob)]) σ H' s' := I'.qX fun q hq => by
     rcases ahB.mp hq with z | z
     . exact I'.pin q (ahu _ z)
     . have e : q = (C', ob) := by simpa using z
       subst e
       exact ⟨ho, nC, ch.1, ch.2.1, pR⟩
   show wpAny _ X.A (assign (.Name y py) X.env (.ref D')) _ _ s'
   have hg : PG X (.Name y py) (sd i) := kK hN hi hx hf'
   refine di (hg _ s' σ H' (.ref D') (.ref D') (fun σ8 H8 => σ8 = σ.set i (some (.ref D')) /\ H8 = H') I2 rfl ⟨rfl, rfl⟩) fun _ s8 zz => ?_
   obtain ⟨σ8, H8, I8, e8, e8'⟩ := zz
   subst e8
   subst e8'
   obtain ⟨hC8, nC8, _⟩ := I8.pin (C', ob) (ahu _ (ahu _ (by simp)))
   refine ⟨m, hn.at' fun o' e' => by rw [ho] at e'; cases e'; exact hC8, fun h' GC => ?_⟩
   have I9 : L2.Inv X pins (σ.set i (some (.ref D'))) _ s8 := I8.qX fun q hq => I8.pin q (ahu _ (ahy _ hq))
   have I10 := I9.turned (it := C') (h' := h') (t' := s8.toks) (fun b o hb e => (GC.2 b hb).trans e) nC8 ch.1.symm.symm (.inr ch.2.2.1) ch.2.2.2.1 ch.2.2.2.2
   exact ⟨_, _, I10, q⟩
 rcases C with C | ⟨a, o, gs, H1, Z1, ha, z1, k1, S1, hz, rfl, C⟩
 . exact k7 (RR := fun acc C => compPost Q.d X.A X.xe (some (assign (.Name y py) X.env)) (fun _ s' => SP X pins (vt X E) .next s') acc C) sc hc C I1 Tn st hf hb inner rY fun D' C' s' H' Z' m io nC ch ci z' k' S' => fin D' C' s' H' m io nC ch ci (.inl (M.nx _ _ _ Z' z' (S'.set hl) k))
 . refine k7 (RR := fun acc C => compPost Q.d X.A X.xe (some (assign (.Name y py) X.env)) (fun _ s' => SP X pins (vt X E) .next s') acc C) sc hc C I1 Tn st hf hb inner rY fun D' C' s' H' Z' m io nC ch ci z' k' S' => ?_
   obtain ⟨q1, q2, q3, q4⟩ := E4 ha z1 k1 S1 z' k' (S'.set hl)
   exact fin D' C' s' H' m io nC ch ci (.inr ⟨a, o, gs, q1, hz, M.nx _ _ _ _ q2 q4 k⟩)
variable {dm : List Stmt}
theorem X8 {D : c9} {x : Str} {pos' ppc : Pos} (gx : Gx X) (n : Ln X i x) (sc : j8 X scope xs Nc ix) (h : bS X CL b e δ (.sh (.dct kvs)) δ1) (hb : (δc = yr δ1 ix /\ ∀ d ∈ b7 kvs, (g d).clean = true) \/ δc = t8 δ1 ix) (inner : oQ X CL scope Nc xs.length (.Tuple elts kk pt) parts ifs elt δc (b7 kvs) p g) (hlen : kvs.length <= sizeLine)
   (k : cH X CL b dm (δ1.set i (some (.lst (((b7 kvs).filter p).map g)))) D) (hl : i < δ1.length)
   (t7 : swapsWith (.ListComp elt [⟨.Tuple elts kk pt, .Call (.Attribute e "items" pa) [] [] pc, ifs, 0⟩] scope ppc) (some (.Name x pos')) pos.line X.env = pure true \/ swapsWith (.ListComp elt [⟨.Tuple elts kk pt, .Call (.Attribute e "items" pa) [] [] pc, ifs, 0⟩] scope ppc) (some (.Name x pos')) pos.line X.env = pure false)
   (eV : attributeBase e "items" X.env (eval e X.env) = eval e X.env := by rfl) (hline : (pa.endLine == pc.line) = true := by rfl) (hs : ∀ x, foldedSetIterable (.Call (.Attribute e "items" pa) [] [] pc) X.env x = pure x := by intro _; rfl) :
   cH X CL b (.Assign [.Name x pos'] (.ListComp elt [⟨.Tuple elts kk pt, .Call (.Attribute e "items" pa) [] [] pc, ifs, 0⟩] scope ppc) pos :: dm) δ D := by
 rcases t7 with t7 | t7
 . exact aY (TH i sc gx.calm h hb inner hlen k hl gx.nd n.hi n.loc n.hf t7 eV hline hs)
 . exact aY (Cw i (E5 sc gx.calm h hb inner hlen eV hline hs) k hl gx.nd n.hi n.loc t7 n.hf)
def T.C1 : List wX -> T -> Option T
 | [], t => some t
 | s :: p, t => (t.core.F3 s).bind (T.C1 p)
def T.AI : List wX -> T -> T -> T
 | [], u, _ => u
 | s :: p, u, t => match t.core.F3 s with
   | some k => t.CQ (t.core.GU s (T.AI p u k))
   | none => t
variable {u : T} {p : List wX} {y : Addr}
theorem aU.raw (zh : aB Z H) : ∀ (p : List wX) {t u : T} {v : V} {fp : List Addr}, aU K CL H Z t v fp -> T.C1 p t = some u -> ∃ w f2, wY H v p w /\ aU K CL H Z u w f2 /\ ∀ {u' : T}, aU K CL H Z u' w f2 -> aU K CL H Z (T.AI p u' t) v fp
 | [], t, u, v, fp, h, e => by
   cases e
   exact ⟨v, fp, rfl, h, fun r => r⟩
 | s :: p, t, u, v, fp, h, e => by
   obtain ⟨h1, h2⟩ := h.GV
   rw [T.C1] at e
   cases hk : t.core.F3 s with
   | none => rw [hk] at e; cases e
   | some k =>
     rw [hk] at e
     obtain ⟨w1, a1, a2, a3, q1, q2, q3, q4⟩ := h1.F3 zh hk
     obtain ⟨w, f2, r1, r3, r4⟩ := aU.raw zh p q3 e
     refine ⟨w, f2, ⟨w1, q1, r1⟩, r3, fun {u'} r' => ?_⟩
     rw [T.AI, hk, q2]
     exact h2 (q4 (k' := T.AI p u' k) (fun _ _ => rfl) (r4 r'))
theorem aL.loose (S : Q.q) (hi : δ[i]? = some (some t0)) (hg : T.C1 p t0 = some (.pin y u)) : aL K CL b H Z (δ.set i (some (T.AI p u t0))) σ ts vs := by
 obtain ⟨fp, gp, e, r, nd, k⟩ := S.rep
 obtain ⟨v1, e1, e2, e3, hv, kM, rt, put, _⟩ := e.get hi
 obtain ⟨w, f2, at', ru, put2⟩ := rt.raw S.zh p hg
 have q2 := put (.refl _) (fun _ _ => rfl) (put2 (u' := u) (by cases ru with | pin r => exact r))
 rw [cK hv] at q2
 subst kM
 exact ⟨⟨_, gp, q2, r, nd, k⟩, S.bh, S.zz, S.zh, S.new, S.tp, S.tab⟩
theorem aL.aei (S : Q.q) (hi : δ[i]? = some (some t)) (hr : t.isRef = true) : ∃ y, aL K CL b H Z (δ.set i (some (.pin y t))) σ ts vs := by
 obtain ⟨fp, gp, e, r, nd, k⟩ := S.rep
 obtain ⟨v1, e1, e2, e3, hv, kM, rt, put, _⟩ := e.get hi
 have : ∃ y, v1 = .ref y := by
   cases rt with
   | sh r => cases hr
   | tup r _ => cases hr
   | pin r => cases hr
   | lst r q => exact ⟨_, rfl⟩
   | ins r q => exact ⟨_, rfl⟩
   | q8 r q => exact ⟨_, rfl⟩
   | dct r q => exact ⟨_, rfl⟩
 obtain ⟨y, rfl⟩ := this
 have q2 := put (.refl _) (fun _ _ => rfl) (aU.pin rt)
 rw [cK hv] at q2
 subst kM
 exact ⟨y, ⟨_, gp, q2, r, nd, k⟩, S.bh, S.zz, S.zh, S.new, S.tp, S.tab⟩
section
variable {o : Expr} {d : L3.D} {D : c9} {apos : Pos} {m : Nat} {x c mm : Str} {fs : List (Str × L3.D)}
theorem X9 (h : δ[i]? = some (some t)) (k : ∀ y, cH X CL b dm (δ.set i (some (.pin y t))) D) (hr : t.isRef = true := by rfl) : cH X CL b dm δ D := fun H Z σ ts vs E S M => by
 obtain ⟨y, S'⟩ := S.aei h hr
 exact k y H Z σ ts vs E S' M
theorem O7 (n : Vn X i x) (h : δ[i]? = some (some (.pin y t))) : bS X CL b (.Name x pos) δ (.pin y t) (δ.set i (some (.sh (.val (.ref y))))) := fun H Z σ ts vs Q S k => by
 have hl : i < δ.length := by
   rcases Nat.lt_or_ge i δ.length with z | z
   . exact z
   . rw [ais z] at h; cases h
 obtain ⟨v, e, S1⟩ := S.move h
 have hv : v = .ref y := by
   obtain ⟨_, _, _, r, _, _⟩ := S1.rep
   cases r with
   | cons r _ => cases r; rfl
 subst hv
 have S2 := (S1.push (d := .val (.ref y)) (.val _)).set (i := i) (by rw [ajz]; exact hl)
 rw [cK e, List.set_set] at S2
 exact bZ (eB n.hi n.hv n.hd n.j3) ⟨_, e, k _ H Z (.refl _) (.refl _) S2⟩
theorem K7 (n : Vn X m x) (hm : δ[m]? = some (some (.sh (.val (.ref y))))) (hi : δ[i]? = some (some t0)) (hg : T.C1 p t0 = some (.pin y u)) (hd : u.aZ = d) : eF X CL b (.Name x pos) δ d δ := fun H Z σ ts vs Q S k => by
 obtain ⟨v, hv, r⟩ := S.look hm
 rw [T.aZ] at r
 cases r
 obtain ⟨fp, gp, e, rr, nd, kk⟩ := S.rep
 obtain ⟨v1, e1, e2, e3, hv1, kM, rt, put, _⟩ := e.get hi
 obtain ⟨w, f2, at', ru, _⟩ := rt.raw S.zh p hg
 cases ru with
 | pin ru =>
   subst hd
   exact bZ (eB n.hi n.hv n.hd n.j3) ⟨_, hv, k _ H Z (.refl _) (.refl _) S (ru.aZ S.zh fun _ _ => rfl)⟩
theorem O8 (p : List wX) (h : bS X CL b e δ t δ1) (hi : δ1[i]? = some (some t0)) (hg : T.C1 p t0 = some (.pin y u)) : bS X CL b e δ t (δ1.set i (some (T.AI p u t0))) := fun H Z σ ts vs Q S k => h H Z σ ts vs Q S fun v H1 Z1 z1 k1 S1 => k v H1 Z1 z1 k1 (S1.loose hi hg)
theorem TJ {e2 : Expr} {t1 t2 : T} {d1 d2 : L3.D} {δ2 : Q.f} {pp : Pos} (hu : X.A.units + 64 < cLine) (n : Vn X i x) (h : δ[i]? = some (some t1)) (h2 : iB X CL b e2 δ t δ2) (hi : δ2[i]? = some (some t2)) (hd : t2.aZ = d1) (ht : t.aZ = d2) (k1 : gI 60 d1) (k2 : gI 60 d2) : TTm X CL b (.Compare (.Name x pp) [.NotEq] [e2] pos) δ (!FY d1 d2) δ2 := fun H Z σ ts vs Q S k =>
 EA (tS (NR hu) (eB n.hi n.hv n.hd n.j3) c7 (mU _)) (by
   obtain ⟨v, hv, _⟩ := S.look h
   refine ⟨v, hv, h2 H Z σ ts vs _ S fun v2 H2 Z2 z2 S2 => ?_⟩
   obtain ⟨v', hv', r1⟩ := S2.look hi
   rw [hv] at hv'
   cases hv'
   rw [hd] at r1
   have r2 := S2.view
   rw [ht] at r2
   exact ⟨d1, d2, r1, r2, k1, k2, _, rfl, k H2 Z2 z2 S2.pop⟩)
theorem abr {δ2 : Q.f} (h : bS X CL b e δ t δ1) (q : δ1 = δ2) : bS X CL b e δ t δ2 := q ▸ h
structure ZF (X : Cx) (CL : Q.e) (c m : Str) (k n : Nat) {A : Type} (arg : A -> List L3.D) (Pre : A -> Prop) (exc : A -> Str) : Prop where
 ex : ∃ f fd ps, Meth X.K (CL c) m f /\ cJ X.prog X.w X.K X.mg X.base (Zy X.prog X.w) k f fd ps (spR X.K CL n arg Pre exc) /\ Binds X.K fd ps []
 room : c6 k X.A
 cls : j5 X.K (CL c)
theorem ZF.pin {p : Q.i} {k n : Nat} {A : Type} {arg : A -> List L3.D} {Pre : A -> Prop} {exc : A -> Str} (F : ZF X CL c mm k n arg Pre exc) : ZF (X.pinned p) CL c mm k n arg Pre exc := ⟨F.ex, F.room, F.cls⟩
theorem K8 {Q : VK} {E : Q.l} (hx : X.xe = fun _ _ => False) (h : pZ X e σ H Q) : pZ (X.wish E) e σ H Q := fun pins s I =>
 aik (h pins s I.j4) (fun us s' ⟨vs, H', I', r, q⟩ => ⟨vs, H', I'.wish E, r, q⟩) fun ev s' z => by rw [hx] at z; exact z.elim
theorem TL {pl : Sem Bool} {k n : Nat} {A : Type} {arg : A -> List L3.D} {Pre : A -> Prop} {exc : A -> Str} (a : A) (hx : X.xe = fun _ _ => False) (F : ZF X CL c mm k n arg Pre exc) (ho : eF X CL b o δ (.ins c fs) δ1) (hf : fs.lookup mm = none) (Sl : arg a = [.ins c fs]) (hp : Pre a) (hn : (arg a).length = n := by rfl)
   (ht : eval (.Call (.Attribute o mm apos) [] [] pos) X.env = (do
     let ov ← eval o X.env
     standAt apos.atName
     let (f, first) ← holding [ov] (getMethod ov mm pl)
     callWith pos f first (backTo pos (starEach [] X.env)) Q.A) := by rfl) :
   TRv X CL b (.Call (.Attribute o mm apos) [] [] pos) δ (exc a) δ1 := fun H Z σ ts vs S pins s I => by
 obtain ⟨f, fd, ps, M, F1, hb⟩ := F.ex
 have hO : pZ X o σ H fun v H1 => ∃ Z1, aB Z Z1 /\ aL X.K CL b H1 Z1 δ1 σ ts vs /\ bf X.K CL H1 (.ins c fs) v := ho H Z σ ts vs _ S fun v H1 Z1 z1 k1 S1 r => ⟨Z1, z1, S1, r⟩
 refine ai2 (pl := pl) (di (K8 hx hO pins s I) fun u s1 zz => ?_) ht
 obtain ⟨xv, H1, I1, rx, Z1, z1, S1, rf⟩ := zz
 have rf0 := rf
 cases rf with
 | @ins aa dx _ gs _ ha rff =>
   obtain rfl : u = Value.ref aa := rx
   refine oF I1 ha F.cls M (rff.none hf) ?_
   refine PySem.W.callWith_K0 (first := [.ref aa]) I1.wR M.kp ?_
   let E0 : XK := fun cv _ H' => cv = .ref (CL (exc a)) /\ ∃ Z', aB Z Z' /\ aL X.K CL b H' Z' δ1 σ ts vs
   have M7 : spR X.K CL n arg Pre exc [.ref aa] H1 (fun _ _ => False) E0 := ⟨H1, a, .refl _, fun _ _ q _ => q, by rw [Sl]; exact .cons rf0 .nil, hn, hp, S1.Kq, fun H' Z' hh ww wh nw tp => ⟨rfl, by
     obtain ⟨Z2, z2, S2⟩ := S1.grown hh S1.zh ww wh nw tp
     exact ⟨Z2, z1.trans z2, S2⟩⟩⟩
   have hl : [Value.ref aa].length = ps.length := F1.len _ _ _ _ M7
   have hbd := hb s1 [.ref aa] I1.wR (by rw [ahJ]; exact hl)
   rw [ahJ] at hbd
   refine wpAny_call (codeAny_mono (F1.run X.A X.stack s1 H1 ⟨[.ref aa], []⟩ [.ref aa] [.ref aa] (fun _ _ => False) E0 F.room I1.j4.WU hbd (.cons rfl .nil) M7) fun rr s' hq => ?_)
   cases rr with
   | error ev =>
     obtain ⟨e1, C, a0, B, H', rfl, o1, o2, o3, o4, o5, o6, hC, Z', z', S'⟩ := hq
     cases hC
     exact ⟨e1, a0, B, pins, σ, H1, s1, H', Z', rfl, ⟨I1.j4, o1, o2, o3, o4, o5, o6⟩, z', S'⟩
   | ok fl =>
     cases fl with
     | ret u =>
       obtain ⟨v, H', _, _, _, _, _, q⟩ := hq
       exact q.elim
     | next => exact False.elim hq
     | brk => exact False.elim hq
     | cont => exact False.elim hq
end
end L3
namespace Law
open PySem L2 L3
def top (i : Nat) : Stmt := PySem.Challenge.pw_moodtree_k54_flat_steps_back.main.body.getD i (.Pass ⟨0, 0, 0, 0⟩)
def chF : Nat -> List Int -> Int -> List Int
 | 0, _, _ => []
 | n + 1, es, k => if k = -1 then [] else k :: chF n es (es.getD k.toNat 0)
def Yb (es : List Int) (m : Int) : List Int := chF (es.length + 1) es (es.getD m.toNat 0)
theorem bX (ds : List L3.D) : T.aZ (.lst (ds.map T.sh)) = .lst ds := by rw [T.aZ, iz]
theorem jv (l : List Int) : (T.lst ((l.map L3.D.int).map T.sh)).clean = true := by rw [jo]; exact qt _
def O9 (BO : Int -> Bool) (es : List Int) (a b t : Int) : Prop :=
 (t = -1 /\ ∀ x ∈ Yb es a, x ∈ Yb es b -> BO x = false) \/ (t ∈ Yb es a /\ t ∈ Yb es b /\ BO t = true /\ ∀ x ∈ Yb es a, x ∈ Yb es b -> BO x = true -> x = t \/ x ∈ Yb es t)
theorem O9.symm {BO : Int -> Bool} {es : List Int} {a b t : Int} (h : O9 BO es a b t) : O9 BO es b a t := by
 rcases h with ⟨e, h⟩ | ⟨h1, h2, h3, h4⟩
 . exact .inl ⟨e, fun x hx hy => h x hy hx⟩
 . exact .inr ⟨h2, h1, h3, fun x hx hy => h4 x hy hx⟩
theorem dJ {ds : List L3.D} (h : D.bJ ds = true) : (T.lst (ds.map T.sh)).clean = true := by
 rw [jo]
 induction ds with
 | nil => rfl
 | cons d ds ih =>
   rw [D.bJ, ah0] at h
   rw [ahO, T.bR, ih h.2, T.clean, h.1]; rfl
def ji (ns : List Int) (k : Int) : Int := if k < ns.length then ns.getD k.toNat 0 else 0
def aej : List Nat := (List.range 26).map (· + 97) ++ (List.range 10).map (· + 48)
def aek (k : Int) : Str := ⟨#[aej.getD k.toNat 0]⟩
def abu (m : Int) : Int := (m * 48271 + 11) % 2147483647
def G7 (p : Int × Str) : Nat -> Int × Str
 | 0 => p
 | n + 1 => (abu (G7 p n).1, (G7 p n).2 ++ aek (abu (G7 p n).1 % 36))
theorem Pa (l : List Int) : gI 60 (.lst (l.map .int)) := .lst fun d hd => by
 obtain ⟨i, _, rfl⟩ := ahS.mp hd
 exact .int _ _
abbrev ZG := List Int × List Int × List Int
inductive J where
 | out (m : Int) | F0 (m : Int) | keep (m p q : Int) | put (x p q : Int) | Pb (w : Str) (ds : List L3.D)
def J.w : J -> Str
 | .out _ => "out"
 | .F0 _ => "in"
 | .keep _ _ _ => "keep"
 | .put _ _ _ => "put"
 | .Pb w _ => w
def J.ds : J -> List L3.D
 | .out m => [.int m]
 | .F0 m => [.int m]
 | .keep m p q => [.int m, .int p, .int q]
 | .put x p q => [.int x, .int p, .int q]
 | .Pb _ ds => ds
def J.d (r : J) : L3.D := .tup (.str r.w :: r.ds)
def TN : List Str := ["sign", "way", "call", "say", "rest"]
def Pg (d : L3.D) : Prop := (∃ i, d = .int i) \/ ∃ x, d = .str x
def J.ok (s : ZG) : J -> Prop
 | .keep m _ _ => 0 <= m /\ m < s.2.1.length
 | .put x _ _ => 0 <= x /\ x < s.2.2.length
 | .Pb w ds => w ∈ TN /\ ds.length <= 3 /\ ∀ d ∈ ds, Pg d
 | _ => True
def yN (back : Bool) (r : J) (bs : List Int) : List Int := match r with
 | .put x p q => bs.set x.toNat (if back then p else q)
 | _ => bs
theorem J.acJ {s : ZG} {r : J} (h : r.ok s) : r.ds.length <= 3 /\ ∀ d ∈ r.ds, Pg d := by
 cases r with
 | Pb w ds => exact h.2
 | out m => exact ⟨ahA rfl, fun d hd => by simp only [J.ds, ahH, ahK, ai8] at hd; exact .inl ⟨_, hd⟩⟩
 | F0 m => exact ⟨ahA rfl, fun d hd => by simp only [J.ds, ahH, ahK, ai8] at hd; exact .inl ⟨_, hd⟩⟩
 | keep m p q => exact ⟨ahA rfl, fun d hd => by
     simp only [J.ds, ahH, ahK, ai8] at hd
     rcases hd with h | h | h <;> exact .inl ⟨_, h⟩⟩
 | put m p q => exact ⟨ahA rfl, fun d hd => by
     simp only [J.ds, ahH, ahK, ai8] at hd
     rcases hd with h | h | h <;> exact .inl ⟨_, h⟩⟩
def Right (n : Nat) (s : ZG) : J -> Prop
 | .out m => m ∈ s.1
 | .F0 m => m ∉ s.1 /\ 0 <= m /\ m < n
 | .keep m p _ => 0 <= m /\ m < s.2.1.length /\ s.2.1.getD m.toNat 0 = p
 | .put x p _ => 0 <= x /\ x < s.2.2.length /\ s.2.2.getD x.toNat 0 = p
 | .Pb w ds => w ∈ TN /\ ds.length <= 3 /\ ∀ d ∈ ds, Pg d
variable {n : Nat}
theorem Right.ok {s : ZG} {r : J} (h : Right n s r) : r.ok s := by
 cases r with
 | out m => trivial
 | F0 m => trivial
 | keep m p q => exact ⟨h.1, h.2.1⟩
 | put m p q => exact ⟨h.1, h.2.1⟩
 | Pb w ds => exact h
def J.Ph : J -> Bool
 | .put _ _ _ => true
 | _ => false
theorem Yc {w : Str} (h : w ∈ TN) : ¬ w = "put" /\ ¬ w = "keep" /\ ¬ w = "in" /\ ¬ w = "out" := by
 have : ∀ w ∈ TN, ¬ w = "put" /\ ¬ w = "keep" /\ ¬ w = "in" /\ ¬ w = "out" := Q.j
 exact this w h
theorem abv {s : ZG} {r : J} (h : r.ok s) : decide (r.w = "put") = r.Ph := by
 cases r with
 | Pb w ds => exact aiM (Yc h.1).1
 | _ => first | exact decide_eq_true rfl | (refine decide_eq_false ?_; dsimp only [J.w]; decide +kernel)
theorem ael (r : J) : wF (L3.D.str r.w :: r.ds) 0 = some (.str r.w) := fS (j := 0) rfl
theorem Pj (back : Bool) (r : J) (l : List Int) : (yN back r l).length = l.length := by
 cases r <;> first | rfl | exact ajz
def eG (bx mo : Int) (bs : List Int) : Int := if bx = -1 then mo else bs.getD bx.toNat 0 + mo
inductive eK where
 | put (x b m : Int)
 | call (s : Str)
 | say (s : Str) (b m : Int)
def eK.w : eK -> Str
 | .put _ _ _ => "put"
 | .call _ => "call"
 | .say _ _ _ => "say"
def eK.ds : eK -> List L3.D
 | .put x b m => [.int x, .tup [.int b, .int m]]
 | .call s => [.str s]
 | .say s b m => [.str s, .tup [.int b, .int m]]
def eK.d (q : eK) : L3.D := .tup (.str q.w :: q.ds)
def TQ (bs : List Int) (b : Int) : Prop := b = -1 \/ (0 <= b /\ b < bs.length)
def eK.ok (bs : List Int) : eK -> Prop
 | .put x b _ => (0 <= x /\ x < bs.length) /\ TQ bs b
 | .call _ => True
 | .say _ b _ => TQ bs b
def eK.row (bs : List Int) : eK -> J
 | .put x b m => .put x (bs.getD x.toNat 0) (eG b m bs)
 | .call s => .Pb "call" [.str s]
 | .say s b m => .Pb "say" [.str s, .int (eG b m bs)]
theorem K9 {s : ZG} {q : eK} (h : q.ok s.2.2) : Right n s (q.row s.2.2) := by
 cases q with
 | put x b m => exact ⟨h.1.1, h.1.2, rfl⟩
 | call s => exact ⟨by decide +kernel, by show 1 <= 3; decide, fun d hd => by simp only [ahH, ahK, ai8] at hd; exact .inr ⟨_, hd⟩⟩
 | say s b m => exact ⟨by decide +kernel, by show 2 <= 3; decide, fun d hd => by
     simp only [ahH, ahK, ai8] at hd
     rcases hd with e | e
     . exact .inr ⟨_, e⟩
     . exact .inl ⟨_, e⟩⟩
variable {bs : List Int}
theorem Yd {q : eK} (h : q.ok bs) : ∃ o m, (q.row bs).ok (o, m, bs) := ⟨[], [], (K9 (n := 0) (s := ([], [], bs)) h).ok⟩
theorem xH (bs : List Int) (q : eK) : (q.row bs).d.mq = true := by cases q <;> rfl
theorem Pk (q : eK) : q.d.mq = true := by cases q <;> rfl
def Rj (bs : List Int) (q : eK) : List Int := yN false (q.row bs) bs
theorem Jq (bs : List Int) (q : eK) : (Rj bs q).length = bs.length := Pj ..
theorem Pn (qs : List eK) : ∀ bs : List Int, (qs.foldl Rj bs).length = bs.length := by
 induction qs with
 | nil => intro bs; rfl
 | cons q qs ih => intro bs; rw [ajh, ih, Jq]
def nS : List eK -> List Int -> List J
 | [], _ => []
 | q :: qs, bs => q.row bs :: nS qs (Rj bs q)
def BP : eK -> Option Str
 | .call s => some s
 | _ => none
def m5 (qs : List eK) : List Str := qs.filterMap BP
theorem Pp (qs : List eK) (q : eK) : ∀ bs : List Int, nS (qs ++ [q]) bs = nS qs bs ++ [q.row (qs.foldl Rj bs)] := by
 induction qs with
 | nil => intro bs; rfl
 | cons p qs ih => intro bs; rw [ahT, nS, ih, nS, ajh, ahT]
theorem Pq (qs : List eK) : ∀ bs : List Int, (nS qs bs).length = qs.length := by
 induction qs with
 | nil => intro bs; rfl
 | cons p qs ih => intro bs; rw [nS, ahY, ih, ahY]
theorem Jr {b2 : List Int} (h : b2.length = bs.length) (q : eK) (hq : q.ok bs) : q.ok b2 := by
 cases q with
 | put x b m =>
   have hq : (0 <= x /\ x < bs.length) /\ TQ bs b := hq
   show (0 <= x /\ x < b2.length) /\ TQ b2 b
   unfold TQ at hq ⊢
   rw [h]; exact hq
 | call s => trivial
 | say s b m =>
   have hq : TQ bs b := hq
   show TQ b2 b
   unfold TQ at hq ⊢
   rw [h]; exact hq
variable {α : Type}
theorem jw {l : List α} {j : Nat} {x : α} (h : l[j]? = some x) : l.take (j + 1) = l.take j ++ [x] := by rw [aiV, h]; rfl
inductive It where
 | out (m : Int) | keep (m p q : Int) | way (i : Int) | F0 (m : Int) | jV (q : eK)
def It.sj : It -> J
 | .out m => .out m
 | .keep m p q => .keep m p q
 | .way i => .Pb "way" [.int i]
 | .F0 m => .F0 m
 | .jV q => .Pb q.w q.ds
def It.d (x : It) : L3.D := x.sj.d
def It.j (bs : List Int) : It -> J
 | .jV q => q.row bs
 | x => x.sj
def It.ok (bs : List Int) : It -> Prop
 | .jV q => q.ok bs
 | _ => True
def It.af (bs : List Int) : It -> List Int
 | .jV q => Rj bs q
 | _ => bs
def It.call : It -> Option Str
 | .jV q => BP q
 | _ => none
def It.told : It -> Bool
 | .jV _ => true
 | _ => false
def kg : List Str := ["out", "keep", "way", "in"]
theorem TV (x : It) : decide (x.sj.w ∈ kg) = !x.told := by
 cases x with
 | jV q =>
   cases q with
   | put x b m => show decide (("put" : Str) ∈ kg) = false; decide +kernel
   | call s => show decide (("call" : Str) ∈ kg) = false; decide +kernel
   | say s b m => show decide (("say" : Str) ∈ kg) = false; decide +kernel
 | out m => show decide (("out" : Str) ∈ kg) = true; decide +kernel
 | keep m p q => show decide (("keep" : Str) ∈ kg) = true; decide +kernel
 | way i => show decide (("way" : Str) ∈ kg) = true; decide +kernel
 | F0 m => show decide (("in" : Str) ∈ kg) = true; decide +kernel
theorem oV (x : It) : x.d.mq = true := by
 cases x with
 | jV q => exact Pk q
 | _ => rfl
theorem Pr (bs : List Int) (x : It) : (x.j bs).d.mq = true := by
 cases x with
 | jV q => exact xH bs q
 | _ => rfl
theorem La (bs : List Int) (x : It) : (x.af bs).length = bs.length := by
 cases x with
 | jV q => exact Jq bs q
 | _ => rfl
theorem oW (xs : List It) : ∀ bs : List Int, (xs.foldl It.af bs).length = bs.length := by
 induction xs with
 | nil => intro bs; rfl
 | cons x xs ih => intro bs; rw [ajh, ih, La]
def tQ : List It -> List Int -> List J
 | [], _ => []
 | x :: xs, bs => x.j bs :: tQ xs (x.af bs)
def aX (xs : List It) : List Str := xs.filterMap It.call
theorem TX (xs : List It) (ys : List It) : ∀ bs : List Int, tQ (xs ++ ys) bs = tQ xs bs ++ tQ ys (xs.foldl It.af bs) := by
 induction xs with
 | nil => intro bs; rfl
 | cons p xs ih => intro bs; rw [ahT, tQ, ih, tQ, ajh, ahT]
theorem uf (xs : List It) : ∀ bs : List Int, (tQ xs bs).length = xs.length := by
 induction xs with
 | nil => intro bs; rfl
 | cons p xs ih => intro bs; rw [tQ, ahY, ih, ahY]
theorem xJ (xs : List It) : ∀ bs : List Int, D.bJ ((tQ xs bs).map J.d) = true := by
 induction xs with
 | nil => intro bs; rfl
 | cons x xs ih => intro bs; rw [tQ, ahO, D.bJ, Pr, ih]; rfl
theorem Lb (qs : List eK) : ∀ bs : List Int, D.bJ ((nS qs bs).map J.d) = true := by
 induction qs with
 | nil => intro bs; rfl
 | cons q qs ih => intro bs; rw [nS, ahO, D.bJ, xH, ih]; rfl
theorem E6 (xs : List It) (x : It) : aX (xs ++ [x]) = aX xs ++ x.call.toList := by
 unfold aX
 rw [List.filterMap_append]
 congr 1
theorem TY {b2 : List Int} (h : b2.length = bs.length) (x : It) (hx : x.ok bs) : x.ok b2 := by
 cases x with
 | jV q => exact Jr h q hx
 | _ => trivial
theorem oX : ∀ {ds : List L3.D}, D.bJ ds = true -> T.bR (ds.map T.sh) = true
 | [], _ => rfl
 | d :: ds, h => by
   rw [D.bJ, ah0] at h
   rw [ahO, T.bR, oX h.2, T.clean, h.1]
   rfl
theorem G8 {l1 l2 l3 : List L3.D} (h1 : D.bJ l1 = true) (h2 : D.bJ l2 = true) (h3 : D.bJ l3 = true) : (T.tup [.lst (l1.map T.sh), .lst (l2.map T.sh), .lst (l3.map T.sh)]).clean = true := by
 rw [T.clean, T.bR, T.bR, T.bR, T.bR, jo, jo, jo, oX h1, oX h2, oX h3]
 rfl
theorem G9 (bs bs2 : List Int) (q : eK) : (T.tup [.lst ((bs2.map L3.D.int).map T.sh), .sh (q.row bs).d]).clean = true := by
 rw [T.clean, T.bR, T.bR, T.bR, T.clean, T.clean, qt, xH]
 rfl
variable {d : L3.D}
theorem VY {ds : List L3.D} : wF (d :: ds) 0 = some d := fS (j := 0) rfl
def T3 : List Str := ["out", "keep", "way", "in"]
def J.told (r : J) : Bool := !decide (r.w ∈ T3)
def BQ (m : Nat) (p : Int) : Int := p % ((m : Int) + 1) - 1
def Mw (m : Nat) (p : Int) : Int := p / ((m : Int) + 1) / 3
def Ax (m : Nat) (p : Int) : Int := if p / ((m : Int) + 1) % 3 = 0 then Mw m p % (2 * 10 ^ (9 : Int).toNat + 1) - 10 ^ (9 : Int).toNat else Mw m p % 7 - 3
def yO (m : Nat) (p : Int) : Int := if p / ((m : Int) + 1) % 3 = 0 then Mw m p / (2 * 10 ^ (9 : Int).toNat + 1) else Mw m p / 7
def wN (k : Int) : Str := ("w" : Str) ++ (toString k : Str)
def Js (m : Nat) (hs : List Str) (p : Int) : It :=
 if p % 9 < 4 then ([.out 1, .keep 0 (-1) 2, .way (p / 9 % 5), .F0 2] : List It).getD (p % 9).toNat (.out 1)
 else if p % 9 < 6 /\ 0 < m then .jV (.put (p / 9 % (m : Int)) (BQ m (p / 9 / (m : Int))) (Ax m (p / 9 / (m : Int))))
 else if p % 9 < 8 then .jV (.say (wN (p / 9 % 3)) (BQ m (p / 9 / 3)) (Ax m (p / 9 / 3)))
 else .jV (.call (hs.getD (p / 9 % (hs.length : Int)).toNat Str.empty))
def Rk (m : Nat) (hs : List Str) (p : Int) : Int :=
 if p % 9 < 4 then p / 9 / 5
 else if p % 9 < 6 /\ 0 < m then yO m (p / 9 / (m : Int))
 else if p % 9 < 8 then yO m (p / 9 / 3)
 else p / 9 / (hs.length : Int)
def VZ (m : Nat) (hs : List Str) (p : Int) : Nat -> Int
 | 0 => p
 | j + 1 => Rk m hs (VZ m hs p j)
def F5 (m : Nat) (hs : List Str) (p : Int) : List It := (List.range (p % 4).toNat).map fun j => Js m hs (VZ m hs (p / 4) j)
def E7 (m : Nat) (hs : List Str) (p : Int) : Int := VZ m hs (p / 4) (p % 4).toNat
abbrev Pu := Str × Int × Int × Int × Int
def V0 (q : Pu) : L3.D := .tup [.str q.1, .tup [.int q.2.1, .int q.2.2.1], .tup [.int q.2.2.2.1, .int q.2.2.2.2]]
def GO : List Str := ["<", "<=", "=", "!="]
def akO (m : Nat) (p : Int) : Pu := (GO.getD (p % 4).toNat Str.empty, BQ m (p / 4), Ax m (p / 4), BQ m (yO m (p / 4)), Ax m (yO m (p / 4)))
def akP (m : Nat) (p : Int) : Int := yO m (yO m (p / 4))
def Pw (m : Nat) (p : Int) : Nat -> Int
 | 0 => p
 | j + 1 => akP m (Pw m p j)
def Px (m : Nat) (p : Int) (n : Nat) : List Pu := (List.range n).map fun j => akO m (Pw m p j)
abbrev cu := List Pu × List It × Int
def yP (r : cu) : L3.D := .tup [.tup (r.1.map V0), .tup (r.2.1.map It.d), .int r.2.2]
def Ye (p : Int) : Nat := (1 + p % 2).toNat
def rwQ (m : Nat) (p : Int) : Int := Pw m (p / 2) (Ye p)
def rwO (m : Nat) (hs : List Str) (f : Nat) (p : Int) : cu := (Px m (p / 2) (Ye p), F5 m hs (rwQ m p), E7 m hs (rwQ m p) % (f : Int))
def rwP (m : Nat) (hs : List Str) (f : Nat) (p : Int) : Int := E7 m hs (rwQ m p) / (f : Int)
def Yg (m : Nat) (hs : List Str) (f : Nat) (p : Int) : Nat -> Int
 | 0 => p
 | j + 1 => rwP m hs f (Yg m hs f p j)
def Py (m : Nat) (hs : List Str) (f : Nat) (p : Int) (n : Nat) : List cu := (List.range n).map fun j => rwO m hs f (Yg m hs f p j)
def rwE (m : Nat) (hs : List Str) (f : Nat) (p : Int) : cu := ([], F5 m hs p, E7 m hs p % (f : Int))
def Yh (m : Nat) (hs : List Str) (f : Nat) (c : Int) : List cu :=
 Py m hs f (c % 10 ^ (64 : Int).toNat / 3) (c % 10 ^ (64 : Int).toNat % 3).toNat ++ [rwE m hs f (Yg m hs f (c % 10 ^ (64 : Int).toNat / 3) (c % 10 ^ (64 : Int).toNat % 3).toNat)]
theorem Hg (r : cu) : (yP r).mq = true := by
 show (D.bJ (r.1.map V0) && (D.bJ (r.2.1.map It.d) && (true && true))) = true
 rw [bF (fun _ => rfl), bF oV]
 rfl
theorem C2 (m : Nat) (hs : List Str) (p : Int) : (F5 m hs p).length <= 3 := by
 unfold F5
 rw [ahx, air]
 omega
theorem qc {n : Int} (a : 0 < n) (c : n < 4294967296) : 0 < n /\ n.natAbs.log2 < 9000 := ⟨a, by
 have : n.natAbs ≠ 0 := by omega
 rw [Nat.log2_lt this]
 exact ah4 (show n.natAbs < 2 ^ 32 by omega) (Nat.pow_le_pow_right Q.b Q.b)⟩
def T4 (q : Str × Int) : L3.D := .tup [.str q.1, .int q.2]
def yQ (s : List Int) : Int := ji s 0 % 10 ^ (12 : Int).toNat
def Lc (s : List Int) : Nat := (yQ s % 4).toNat
def Ay (s : List Int) : Nat := (1 + yQ s / 4 % 13).toNat
def goL : List Str := ["go", "go2"]
def Mx (s : List Int) : Nat := (1 + yQ s / 4 / 13 % 2).toNat
def yR (s : List Int) : List Str := goL.take (Mx s)
def Rl : List Int := [5, 10 ^ (30 : Int).toNat]
def T5 (s : List Int) (k : Nat) : Str × Int := (("b" : Str) ++ (toString (k : Int) : Str), ji s (1 + (k : Int)) % 10 ^ (30 : Int).toNat % Rl.getD (k % 2) 0 - 2)
def Hh (s : List Int) : List (Str × Int) := (List.range (Lc s)).map (T5 s)
def Ld (s : List Int) : List It := F5 (Lc s) (yR s) (ji s 3 % 10 ^ (60 : Int).toNat / 7)
def mh (k : Nat) : L3.D := .tup [.tup [.int 0, .int (1 + (k : Int))], .tup [.int (-1), .int ((k : Int) - 1)]]
abbrev bP := List Key
def My (hs : List Str) (a k : Nat) : bP := [.inl (a : Int), .inr (hs.getD k Str.empty)]
def dcR (s : List Int) (m : Nat) (hs : List Str) (f a k : Nat) : List cu := Yh m hs f (ji s (4 + 2 * (a : Int) + (k : Int)))
def Hi (s : List Int) (m : Nat) (hs : List Str) (f a n : Nat) : List (bP × List cu) := (List.range n).map fun k => (My hs a k, dcR s m hs f a k)
def Jt (s : List Int) (m : Nat) (hs : List Str) (f n : Nat) : List (bP × List cu) := (List.range n).flatMap fun a => Hi s m hs f a hs.length
def Mz (s : List Int) : List (bP × List cu) := Jt s (Lc s) (yR s) (Ay s) (Ay s)
def E8 (l : Q.o) : List (bP × T) := l.map fun q => (q.1, T.lst ((q.2.map yP).map T.sh))
def dcD (l : Q.o) : List (bP × L3.D) := l.map fun q => (q.1, L3.D.lst (q.2.map yP))
theorem T6 (s : List Int) : Lc s <= 3 /\ 1 <= Ay s /\ Ay s <= 13 /\ (yR s).length = Mx s /\ 1 <= Mx s /\ Mx s <= 2 := by
 have h : Mx s <= 2 /\ 1 <= Mx s := by unfold Mx; omega
 refine ⟨by unfold Lc; omega, by unfold Ay; omega, by unfold Ay; omega, ?_, h.2, h.1⟩
 unfold yR
 rw [aio]
 show min (Mx s) 2 = Mx s
 omega
theorem Pz (s : List Int) : (yR s).Nodup := by
 unfold yR
 exact List.Nodup.sublist (List.take_sublist _ _) Q.a
variable {hs : List Str} {a : Nat}
theorem Ju (nd : hs.Nodup) {k a2 k2 : Nat} (h1 : k < hs.length) (h2 : k2 < hs.length) (e : My hs a k = My hs a2 k2) : a = a2 /\ k = k2 := by
 unfold My at e
 injection e with e1 e2
 injection e2 with e2 _
 have e1 := Sum.inl.inj e1
 have e2 := Sum.inr.inj e2
 refine ⟨by omega, ?_⟩
 refine (List.getElem?_inj h1 nd).mp ?_
 rw [aiw, ahQ h1, aiw, ahQ h2] at e2
 rw [ahQ h1, ahQ h2]
 exact congrArg some e2
variable {m f : Nat}
theorem Jv {s : List Int} (nd : hs.Nodup) (hn : n < hs.length) : My hs a n ∉ (E8 (Jt s m hs f a ++ Hi s m hs f a n)).map (·.1) := fun h => by
 unfold E8 at h
 rw [aie, ahD, ahB] at h
 rcases h with h | h
 . obtain ⟨q, hq, e⟩ := ahS.mp h
   obtain ⟨a2, ha, hq⟩ := ajs.mp hq
   obtain ⟨k, hk, rfl⟩ := ahS.mp hq
   have := (Ju nd (aiY.mp hk) hn e).1
   have := aiY.mp ha
   omega
 . obtain ⟨q, hq, e⟩ := ahS.mp h
   obtain ⟨k, hk, rfl⟩ := ahS.mp hq
   have h3 := aiY.mp hk
   have := (Ju nd Q.c hn e).2
   omega
theorem Jw {s : List Int} : (Hi s m hs f a n).length = n := by unfold Hi; rw [ahx, air]
theorem yS {s : List Int} : Jt s m hs f (n + 1) = Jt s m hs f n ++ Hi s m hs f n hs.length := by
 unfold Jt
 rw [aiT, List.flatMap_append]
 simp
theorem C3 {s : List Int} {m : Nat} {hs : List Str} {f : Nat} : ∀ n, (Jt s m hs f n).length = n * hs.length
 | 0 => by simp [Jt]
 | n + 1 => by rw [yS, ahL, Jw, C3 n, Nat.succ_mul]
def Jx (s : List Int) : T := .lst [.lst (((Hh s).map T4).map T.sh), .lst (((yR s).map .str).map T.sh), .sh (.tup ((Ld s).map It.d)), .lst (((List.range (Ay s)).map mh).map T.sh), .dct (E8 (Mz s))]
def T7 : List Str := ["all", "and", "box", "call", "do", "far", "if", "in", "leaf", "near", "on", "one", "open", "out", "put", "say", "shut", "then", "to"]
def isLt (c : Nat) : Bool := decide (97 <= c) && decide (c <= 122)
def aby (c : Nat) : Bool := decide (48 <= c) && decide (c <= 57)
def rZ (x : Str) : Bool := decide (1 <= x.length) && (decide (x.length <= 12) && (!decide (x ∈ T7) && (isLt (x.cps.toList.getD 0 0) && x.cps.toList.all (fun c => isLt c || aby c))))
def ZH (i : Int) (n : Nat) : Bool := decide (0 <= i) && decide (i < (n : Int))
def ZI (i : Int) : Bool := decide (-(10 ^ (30 : Int).toNat) < i) && decide (i < 10 ^ (30 : Int).toNat)
def Rm (n : Nat) (a c : Int) : Bool := (decide (a = -1) || ZH a n) && ZI c
inductive LkA
 | aeo (x : Str) (m : Int)
 | num (mk : Str) (a1 c1 a2 c2 : Int)
def aep : LkA -> Prop
 | .aeo x _ => x ∈ (["open", "shut"] : List Str)
 | .num mk _ _ _ _ => ¬ mk ∈ (["open", "shut"] : List Str)
def qd (q : Str × Int) : L3.D := .tup [.str q.1, .int q.2]
inductive DdG
 | put (i a c : Int)
 | say (w x : Str) (a c : Int)
 | call (x : Str)
structure LgW where
 src : Int
 sign : Str
 al : List LkA
 dl : List DdG
 tgt : Int
 mode : Str
def LgW.ok (w : LgW) : Prop := w.sign.length <= 1000 /\ ∀ q ∈ w.al, aep q
def T8 (l : List Str) : Bool := l.all rZ && decide l.Nodup
def PB (l : List (Str × Int)) : Bool := l.all (fun q => ZI q.2) && T8 (l.map (·.1))
variable {bs hs bg pr : List L3.D} {R : L3.D} {TR : T}
def wZ (bs hs bg pr : List L3.D) (R : L3.D) : List (Str × L3.D) := [("boxes", .lst bs), ("signs", .lst hs), ("begin", .tup bg), ("flats", .lst pr), ("rows", R)]
def r6 (bs hs bg pr : List L3.D) (t : T) : List (Str × T) := [("boxes", .lst (bs.map T.sh)), ("signs", .lst (hs.map T.sh)), ("begin", .sh (.tup bg)), ("flats", .lst (pr.map T.sh)), ("rows", t)]
theorem qy : List.lookup ("boxes" : Str) (wZ bs hs bg pr R) = some (.lst bs) := by
 unfold wZ
 rw [fU]
theorem qz : List.lookup ("signs" : Str) (wZ bs hs bg pr R) = some (.lst hs) := by
 unfold wZ
 rw [aM Q.a, fU]
theorem E9 : List.lookup ("begin" : Str) (wZ bs hs bg pr R) = some (.tup bg) := by
 unfold wZ
 rw [aM Q.a, aM Q.a, fU]
theorem qA : List.lookup ("flats" : Str) (wZ bs hs bg pr R) = some (.lst pr) := by
 unfold wZ
 rw [aM Q.a, aM Q.a, aM Q.a, fU]
theorem sW : List.lookup ("rows" : Str) (wZ bs hs bg pr R) = some R := by
 unfold wZ
 rw [aM Q.a, aM Q.a, aM Q.a, aM Q.a, fU]
theorem vv : List.lookup ("rows" : Str) (r6 bs hs bg pr TR) = some TR := by
 unfold r6
 rw [aM Q.a, aM Q.a, aM Q.a, aM Q.a, fU]
theorem PC {t2 : T} : iA "rows" t2 (r6 bs hs bg pr TR) = r6 bs hs bg pr t2 := by
 unfold r6
 rw [aO Q.a, aO Q.a, aO Q.a, aO Q.a, rg]
theorem Le {y : Addr} {l : List (bP × T)} {t2 : T} : T.j9 [.fld "rows"] t2 (.pin y (.ins "Table" (r6 bs hs bg pr (.dct l)))) = .pin y (.ins "Table" (r6 bs hs bg pr t2)) := by
 have hk : (T.core (.pin y (.ins "Table" (r6 bs hs bg pr (.dct l))))).F3 (.fld "rows") = some (.dct l) := vv (bs := bs) (hs := hs) (bg := bg) (pr := pr)
 rw [T.j9, hk]
 show T.pin y (.ins "Table" (iA "rows" t2 (r6 bs hs bg pr (.dct l)))) = _
 rw [PC]
def jj (kvs : List (bP × List L3.D)) : List (bP × T) := kvs.map fun q => (q.1, T.lst (q.2.map T.sh))
def dM (kvs : List (bP × List L3.D)) : List (bP × L3.D) := kvs.map fun q => (q.1, L3.D.lst q.2)
def Hj (bs hs bg pr : List L3.D) (kvs : List (bP × List L3.D)) : List (Str × T) := r6 bs hs bg pr (.dct (jj kvs))
def eN (bs hs bg pr : List L3.D) (kvs : List (bP × List L3.D)) : L3.D := .ins "Table" (wZ bs hs bg pr (.dct (dM kvs)))
theorem Lf (kvs : List (bP × List L3.D)) : T.tY (jj kvs) = dM kvs := by
 induction kvs with
 | nil => show T.tY [] = []; rw [T.tY]
 | cons q r ih =>
   show T.tY ((q.1, T.lst (q.2.map T.sh)) :: jj r) = (q.1, L3.D.lst q.2) :: dM r
   rw [T.tY, bX, ih]
theorem PD (bs hs bg pr : List L3.D) (kvs : List (bP × List L3.D)) : T.aZ (.ins "Table" (Hj bs hs bg pr kvs)) = eN bs hs bg pr kvs := by
 unfold Hj r6 eN wZ
 rw [T.aZ, T.mj, T.mj, T.mj, T.mj, T.mj, T.mj, bX, bX, bX, T.aZ, T.aZ, Lf]
theorem Fb {kvs : List (bP × List L3.D)} (h : ∀ q ∈ kvs, D.bJ q.2 = true) : T.iy (jj kvs) = true := by
 induction kvs with
 | nil => show T.iy [] = true; rw [T.iy]
 | cons q r ih =>
   show T.iy ((q.1, T.lst (q.2.map T.sh)) :: jj r) = true
   rw [T.iy, dJ (h q ahw), ih fun p hp => h p (ahz _ hp)]
   rfl
theorem yT {kvs : List (bP × List L3.D)} (h1 : D.bJ bs = true) (h2 : D.bJ hs = true) (h3 : D.bJ bg = true) (h4 : D.bJ pr = true) (h5 : ∀ q ∈ kvs, D.bJ q.2 = true) : T.jm (Hj bs hs bg pr kvs) = true := by
 unfold Hj r6
 rw [T.jm, T.jm, T.jm, T.jm, T.jm, T.jm, dJ h1, dJ h2, dJ h4, T.clean, T.clean, D.mq, h3, Fb h5]
 rfl
variable {j : Nat}
theorem T9 {l : List (bP × α)} (nd : (l.map (·.1)).Nodup) {k : bP} {x : α} (h : l[j]? = some (k, x)) : kO l k = some x := by
 induction l generalizing j with
 | nil => simp at h
 | cons p l ih =>
   rw [ahO, aia] at nd
   cases j with
   | zero =>
     simp at h
     subst h
     exact nQ rfl
   | succ j =>
     have h : l[j]? = some (k, x) := h
     rw [nR (p := p) fun e => nd.1 (by rw [e]; exact ahS.mpr ⟨(k, x), aih h, rfl⟩)]
     exact ih nd.2 h
theorem Hl (kvs : List (bP × List L3.D)) : (dM kvs).map (·.1) = kvs.map (·.1) := by
 unfold dM
 rw [aie]
 rfl
theorem Ho (kvs : List (bP × List L3.D)) : (jj kvs).map (·.1) = kvs.map (·.1) := by
 unfold jj
 rw [aie]
 rfl
def itG : It -> DdG
 | .jV (.put x b m) => .put x b m
 | .jV (.say s b m) => .say "say" s b m
 | .jV (.call s) => .call s
 | _ => .call Str.empty
def aer (q : Pu) : LkA := .num q.1 q.2.1 q.2.2.1 q.2.2.2.1 q.2.2.2.2
def abz (xs : List It) : List DdG := (xs.filter It.told).map itG
def aes (a : Nat) (h : Str) (r : cu) : LgW := ⟨(a : Int) + 1, h, r.1.map aer, abz r.2.1, r.2.2 + 1, "new"⟩
def abA (a : Nat) (r : cu) : Bool := decide (r.1 = []) && (decide (r.2.1.filter It.told = []) && decide (r.2.2 = (a : Int)))
def afq (a : Nat) (h : Str) (l : List cu) : List LgW := ((match l.getLast? with | some r => if abA a r = true then l.dropLast else l | none => l) : List cu).map (aes a h)
structure Yi (r : cu) : Prop where
 a : ∀ q ∈ r.1, PyData.strOk q.1 = true
 b : ∀ x ∈ r.2.1, ∀ k, gI (k + 2) x.d
 c : r.2.1.length <= 100
 d : r.1.length <= 100
theorem qB {x y : L3.D} (h1 : gI n x) (h2 : gI n y) : gI (n + 1) (.tup [x, y]) := .tup fun d hd => by
 simp only [ahH, ahK, ai8] at hd
 rcases hd with rfl | rfl
 . exact h1
 . exact h2
theorem PF {x y z : L3.D} (h1 : gI n x) (h2 : gI n y) (h3 : gI n z) : gI (n + 1) (.tup [x, y, z]) := .tup fun d hd => by
 simp only [ahH, ahK, ai8] at hd
 rcases hd with rfl | rfl | rfl
 . exact h1
 . exact h2
 . exact h3
theorem Ua {l : List It} (h : ∀ x ∈ l, ∀ k, gI (k + 2) x.d) (k : Nat) : gI (k + 3) (.tup (l.map It.d)) := .tup fun d hd => by
 obtain ⟨q, hq, rfl⟩ := ahS.mp hd
 exact h q hq _
def jg (R : Q.o) : List (bP × List L3.D) := R.map fun q => (q.1, q.2.map yP)
theorem Ub {R : Q.o} {k : bP} {l : List cu} (h : kO R k = some l) : kO (dM (jg R)) k = some (.lst (l.map yP)) := by
 unfold dM jg
 rw [aie]
 induction R with
 | nil => cases h
 | cons p R ih =>
   by_cases e : p.1 = k
   . rw [nQ e] at h
     cases h
     rw [ahO]
     exact nQ (p := (p.1, L3.D.lst (p.2.map yP))) e
   . rw [nR e] at h
     rw [ahO]
     exact (nR (p := (p.1, L3.D.lst (p.2.map yP))) e).trans (ih h)
def Rn (a : Nat) (h : Str) : bP := [.inl (a : Int), .inr h]
structure abB (R : Q.o) (n : Nat) (hs : List Str) : Prop where
 nn : n <= 13
 hh : hs.length <= 2
 v : ∀ a, a < n -> ∀ x ∈ hs, ∃ l, kO R (Rn a x) = some l /\ l.length <= 3 /\ ∀ r ∈ l, Yi r
def C4 (R : Q.o) (a : Nat) (x : Str) : List cu := (kO R (Rn a x)).getD []
variable {x : Str}
theorem wJ (h : rZ x = true) : PyData.strOk x = true := by
 unfold rZ at h
 simp only [ah0] at h
 have h := aiP.mp h.2.2.2.2
 unfold PyData.strOk
 rw [← Array.all_toList, aiP]
 intro c hc
 have := h c hc
 unfold isLt aby at this
 simp only [Bool.or_eq_true, ah0, ajk] at this
 refine aim ?_
 omega
theorem Jy (m : Nat) (p : Int) : Rm m (BQ m p) (Ax m p) = true := by
 have a := ah7 p (b := (m : Int) + 1) Q.c
 have b := ahZ p (b := (m : Int) + 1) Q.c
 have ZJ : (10 : Int) ^ (30 : Int).toNat = 1000000000000000000000000000000 := Q.j
 have p9 : (10 : Int) ^ (9 : Int).toNat = 1000000000 := Q.j
 have hb : ZI (Ax m p) = true := by
   have h : -(10 ^ (30 : Int).toNat) < Ax m p /\ Ax m p < 10 ^ (30 : Int).toNat := by
     unfold Ax
     rw [ZJ, p9]
     split <;> omega
   unfold ZI
   rw [aim h.1, aim h.2]
   rfl
 unfold Rm
 rw [hb]
 unfold BQ
 by_cases e : p % ((m : Int) + 1) - 1 = -1
 . rw [aim e]; rfl
 . unfold ZH
   rw [aim (show 0 <= p % ((m : Int) + 1) - 1 by omega), aim (show p % ((m : Int) + 1) - 1 < (m : Int) by omega)]
   simp
theorem abC : ∀ k : Nat, k < 3 -> rZ (wN (k : Int)) = true := Q.j
theorem Yj : ∀ x ∈ goL, rZ x = true := Q.j
def Lg (m : Nat) : It -> Prop
 | .jV (.put i a c) => ZH i m = true /\ Rm m a c = true
 | .jV (.say s a c) => rZ s = true /\ Rm m a c = true
 | .jV (.call s) => rZ s = true
 | _ => True
theorem abD {hs : List Str} (h0 : 0 < hs.length) (hn : ∀ x ∈ hs, rZ x = true) (p : Int) : Lg m (Js m hs p) := by
 unfold Js
 split
 . rename_i e
   have a := ah7 p (b := 9) Q.b
   have : p % 9 = 0 \/ p % 9 = 1 \/ p % 9 = 2 \/ p % 9 = 3 := by omega
   rcases this with z | z | z | z <;> rw [z] <;> exact trivial
 split
 . rename_i e
   refine ⟨?_, Jy m _⟩
   unfold ZH
   rw [aim (ah7 _ Q.c), aim (ahZ _ Q.c)]
   rfl
 split
 . refine ⟨?_, Jy m _⟩
   have a := ah7 (p / 9) (b := 3) Q.b
   have b := ahZ (p / 9) (b := 3) Q.b
   have := abC (p / 9 % 3).toNat Q.c
   rwa [show (((p / 9 % 3).toNat : Nat) : Int) = p / 9 % 3 by omega] at this
 . have a := ah7 (p / 9) (b := (hs.length : Int)) Q.c
   have b := ahZ (p / 9) (b := (hs.length : Int)) Q.c
   refine hn _ ?_
   have hl : (p / 9 % (hs.length : Int)).toNat < hs.length := by omega
   rw [aiw, ahQ hl]
   exact List.getElem_mem hl
theorem PJ {hs : List Str} (h0 : 0 < hs.length) (hn : ∀ x ∈ hs, rZ x = true) (p : Int) : ∀ x ∈ F5 m hs p, Lg m x := fun x hx => by
 obtain ⟨j, _, rfl⟩ := ahS.mp hx
 exact abD h0 hn _
structure Fd (m f : Nat) (r : cu) : Prop where
 a : ∀ q ∈ r.1, q.1 ∈ GO /\ Rm m q.2.1 q.2.2.1 = true /\ Rm m q.2.2.2.1 q.2.2.2.2 = true
 b : ∀ x ∈ r.2.1, Lg m x
 c : 0 <= r.2.2 /\ r.2.2 < (f : Int)
 d : r.1.length <= 2
 e : r.2.1.length <= 3
theorem abE (m : Nat) (p : Int) (n : Nat) : ∀ q ∈ Px m p n, q.1 ∈ GO /\ Rm m q.2.1 q.2.2.1 = true /\ Rm m q.2.2.2.1 q.2.2.2.2 = true := fun q hq => by
 obtain ⟨j, _, rfl⟩ := ahS.mp hq
 refine ⟨?_, Jy m _, Jy m _⟩
 have a := ah7 (Pw m p j) (b := 4) Q.b
 have b := ahZ (Pw m p j) (b := 4) Q.b
 have hl : (Pw m p j % 4).toNat < GO.length := by show _ < 4; omega
 show GO.getD (Pw m p j % 4).toNat Str.empty ∈ GO
 rw [aiw, ahQ hl]
 exact List.getElem_mem hl
theorem abF {hs : List Str} (h0 : 0 < hs.length) (hn : ∀ x ∈ hs, rZ x = true) (hf : 1 <= f) (p : Int) : Fd m f (rwO m hs f p) := by
 refine ⟨abE m _ _, PJ h0 hn _, ⟨ah7 _ Q.c, ahZ _ Q.c⟩, ?_, C2 _ _ _⟩
 show (Px m (p / 2) (Ye p)).length <= 2
 unfold Px
 rw [ahx, air]
 unfold Ye
 omega
theorem abG {hs : List Str} (h0 : 0 < hs.length) (hn : ∀ x ∈ hs, rZ x = true) (hf : 1 <= f) (c : Int) : (Yh m hs f c).length <= 3 /\ ∀ r ∈ Yh m hs f c, Fd m f r := by
 unfold Yh
 constructor
 . rw [ahL]
   unfold Py
   rw [ahx, air]
   show _ + 1 <= 3
   omega
 . intro r hr
   rcases ahB.mp hr with h | h
   . obtain ⟨j, _, rfl⟩ := ahS.mp h
     exact abF h0 hn hf _
   . rw [ail.mp h]
     exact ⟨fun q hq => absurd hq ahK, PJ h0 hn _, ⟨ah7 _ Q.c, ahZ _ Q.c⟩, ah8 _, C2 _ _ _⟩
structure qe (m f : Nat) (hs : List Str) (R : Q.o) : Prop where
 a : ∀ a, a < f -> ∀ x ∈ hs, Rn a x ∈ R.map (·.1)
 b : ∀ q ∈ R, q.2.length <= 3 /\ ∀ r ∈ q.2, Fd m f r
 c : (R.map (·.1)).Nodup
 d : R.length <= 26
theorem yL {l : List (bP × α)} {k : bP} (h : k ∈ l.map (·.1)) : ∃ x, kO l k = some x /\ (k, x) ∈ l := by
 induction l with
 | nil => cases h
 | cons p l ih =>
   by_cases e : p.1 = k
   . subst e
     exact ⟨p.2, nQ rfl, ahw⟩
   . obtain ⟨x, h1, h2⟩ := ih ((ahH.mp h).resolve_left fun z => e z.symm)
     exact ⟨x, (nR e).trans h1, ahz _ h2⟩
theorem PK (s : List Int) : ∀ x ∈ yR s, rZ x = true := fun x hx => Yj x (ajr hx)
theorem PL {s : List Int} {m : Nat} {hs : List Str} {f : Nat} (nd : hs.Nodup) : ∀ n, ((Jt s m hs f n).map (·.1)).Nodup
 | 0 => aiZ
 | n + 1 => by
   have gen : ∀ k, k <= hs.length -> ((Jt s m hs f n ++ Hi s m hs f n k).map (·.1)).Nodup := fun k => by
     induction k with
     | zero => exact fun _ => by rw [show Hi s m hs f n 0 = [] from rfl, ahJ]; exact PL nd n
     | succ k ih =>
       intro hk
       have e : Hi s m hs f n (k + 1) = Hi s m hs f n k ++ [(My hs n k, dcR s m hs f n k)] := by
         unfold Hi
         rw [aiT, ahD]
         rfl
       rw [e, ← ahv, ahD, ah3]
       refine ⟨ih Q.c, List.pairwise_singleton _ _, fun x hx y hy e => ?_⟩
       rw [ail.mp hy] at e
       subst e
       refine Jv (s := s) (m := m) (f := f) nd (show k < hs.length by omega) (a := n) ?_
       unfold E8
       rw [aie]
       exact hx
   rw [yS]
   exact gen _ (ahG _)
theorem PN (s : List Int) : qe (Lc s) (Ay s) (yR s) (Mz s) := by
 obtain ⟨b1, b2, b3, b4, b5, b6⟩ := T6 s
 refine ⟨fun a ha x hx => ?_, fun q hq => ?_, PL (Pz s) _, ?_⟩
 . obtain ⟨k, hk, e⟩ := List.getElem_of_mem hx
   refine ahS.mpr ⟨(My (yR s) a k, dcR s (Lc s) (yR s) (Ay s) a k), ajs.mpr ⟨a, aiY.mpr ha, ahS.mpr ⟨k, aiY.mpr hk, rfl⟩⟩, ?_⟩
   show My (yR s) a k = Rn a x
   unfold My Rn
   rw [aiw, ahQ hk, ← e]
   rfl
 . obtain ⟨a, _, h⟩ := ajs.mp hq
   obtain ⟨k, _, rfl⟩ := ahS.mp h
   exact abG Q.c (PK s) b2 _
 . unfold Mz
   rw [C3, b4]
   have : Ay s * Mx s <= 13 * 2 := Nat.mul_le_mul b3 b6
   omega
theorem yU {x : It} (h : Lg m x) (k : Nat) : gI (k + 2) x.d := by
 cases x with
 | jV q =>
   cases q with
   | put i a c => exact PF (.str _ "put" Q.a) (.int _ _) (qB (.int _ _) (.int _ _))
   | say s a c => exact PF (.str _ "say" Q.a) (.str _ _ (wJ h.1)) (qB (.int _ _) (.int _ _))
   | call s => exact qB (.str _ "call" Q.a) (.str _ _ (wJ h))
 | out i => exact qB (.str _ "out" Q.a) (.int _ _)
 | keep i p q =>
   refine .tup (ds := [.str "keep", .int i, .int p, .int q]) fun d hd => ?_
   . simp only [ahH, ahK, ai8] at hd
     rcases hd with rfl | rfl | rfl | rfl
     . exact .str _ _ Q.a
     . exact .int _ _
     . exact .int _ _
     . exact .int _ _
 | way i => exact qB (.str _ "way" Q.a) (.int _ _)
 | F0 i => exact qB (.str _ "in" Q.a) (.int _ _)
theorem Yk (h : x ∈ GO) : PyData.strOk x = true /\ ¬ x ∈ (["open", "shut"] : List Str) := by
 have : ∀ x ∈ GO, PyData.strOk x = true /\ ¬ x ∈ (["open", "shut"] : List Str) := Q.j
 exact this x h
theorem Fd.s {r : cu} (h : Fd m f r) : Yi r := ⟨fun q hq => (Yk (h.a q hq).1).1, fun x hx k => yU (h.b x hx) k, by have := h.e; omega, by have := h.d; omega⟩
theorem qe.ok {hs : List Str} {R : Q.o} (h : qe m f hs R) (hf : f <= 13) (hh : hs.length <= 2) : abB R f hs := ⟨hf, hh, fun a ha x hx => by
 obtain ⟨l, h1, h2⟩ := yL (h.a a ha x hx)
 obtain ⟨q1, q2⟩ := h.b _ h2
 exact ⟨l, h1, q1, fun r hr => (q2 r hr).s⟩⟩
def bN (k : Nat) : Str := ("b" : Str) ++ (toString (k : Int) : Str)
theorem abH : ∀ m : Nat, m < 4 -> T8 ((List.range m).map bN) = true := Q.j
theorem Yl (s : List Int) : PB (Hh s) = true := by
 obtain ⟨b1, _⟩ := T6 s
 unfold PB
 have e : (Hh s).map (·.1) = (List.range (Lc s)).map bN := by
   unfold Hh
   rw [aie]
   rfl
 rw [e, abH _ Q.c, aiP.mpr fun q hq => ?_]
 . rfl
 . obtain ⟨k, _, rfl⟩ := ahS.mp hq
   have ZJ : (10 : Int) ^ (30 : Int).toNat = 1000000000000000000000000000000 := Q.j
   have hf : ∀ j : Nat, j < 2 -> 0 < Rl.getD j 0 /\ Rl.getD j 0 <= 1000000000000000000000000000000 := Q.j
   obtain ⟨f0, f1⟩ := hf (k % 2) Q.c
   have g0 := ah7 (ji s (1 + (k : Int)) % 10 ^ (30 : Int).toNat) (b := Rl.getD (k % 2) 0) Q.c
   have g1 := ahZ (ji s (1 + (k : Int)) % 10 ^ (30 : Int).toNat) (b := Rl.getD (k % 2) 0) f0
   show ZI (ji s (1 + (k : Int)) % 10 ^ (30 : Int).toNat % Rl.getD (k % 2) 0 - 2) = true
   unfold ZI
   rw [aim (by rw [ZJ]; rw [ZJ] at g0; omega), aim (by rw [ZJ]; rw [ZJ] at g1; omega)]
   rfl
theorem Ym {l : List Str} (h : T8 l = true) : (∀ x ∈ l, rZ x = true) /\ l.Nodup := by
 unfold T8 at h
 rw [ah0] at h
 exact ⟨aiP.mp h.1, ahX h.2⟩
theorem Yn {l : List (Str × Int)} (h : PB l = true) : ∀ q ∈ l, rZ q.1 = true := fun q hq => by
 unfold PB at h
 rw [ah0] at h
 exact (Ym h.2).1 _ (ahS.mpr ⟨q, hq, rfl⟩)
theorem Yo {bs : List (Str × Int)} (h : PB bs = true) (k : Nat) : gI (k + 2) (.lst (bs.map qd)) := .lst fun d hd => by
 obtain ⟨q, hq, rfl⟩ := ahS.mp hd
 exact qB (.str _ _ (wJ (Yn h q hq))) (.int _ _)
def ptU (s : List Int) (R : Q.o) : T := .lst [.lst (((Hh s).map qd).map T.sh), .lst (((yR s).map .str).map T.sh), .sh (.tup ((Ld s).map It.d)), .lst (((List.range (Ay s)).map mh).map T.sh), .dct (E8 R)]
theorem PR (s : List Int) : Jx s = ptU s (Mz s) := rfl
theorem Lh (R : Q.o) : T.iy (E8 R) = true := by
 induction R with
 | nil => show T.iy [] = true; rw [T.iy]
 | cons q r ih =>
   show T.iy ((q.1, T.lst ((q.2.map yP).map T.sh)) :: E8 r) = true
   rw [T.iy, dJ (bF Hg _), ih]
   rfl
theorem Uc (R : Q.o) : T.aZ (.dct (E8 R)) = .dct (dcD R) := by
 rw [T.aZ]
 congr 1
 induction R with
 | nil => show T.tY [] = []; rw [T.tY]
 | cons q r ih =>
   show T.tY ((q.1, T.lst ((q.2.map yP).map T.sh)) :: E8 r) = (q.1, L3.D.lst (q.2.map yP)) :: dcD r
   rw [T.tY, bX, ih]
theorem Li (s : List Int) (R : Q.o) : (ptU s R).clean = true := by
 unfold ptU
 rw [T.clean, T.bR, T.bR, T.bR, T.bR, T.bR, T.bR, dJ (bF (fun _ => rfl) _), dJ (nP _), dJ (bF (fun _ => rfl) _), T.clean, T.clean, Lh, D.mq, bF oV]
 rfl
theorem C5 (R : Q.o) : dcD R = dM (jg R) := by
 unfold dM jg
 rw [aie]
 rfl
theorem C6 {R : Q.o} : ∀ q ∈ jg R, D.bJ q.2 = true := fun q hq => by
 obtain ⟨p, _, rfl⟩ := ahS.mp hq
 exact bF Hg _
theorem PV (R : Q.o) : (jg R).map (·.1) = R.map (·.1) := by
 unfold jg
 rw [aie]
 rfl
theorem PX {l : List Str} (h : ∀ x ∈ l, rZ x = true) (k : Nat) : gI (k + 1) (.lst (l.map .str)) := .lst fun d hd => by
 obtain ⟨x, hx, rfl⟩ := ahS.mp hd
 exact .str _ _ (wJ (h x hx))
theorem Ud (n k : Nat) : gI (k + 3) (.lst ((List.range n).map mh)) := .lst fun d hd => by
 obtain ⟨i, _, rfl⟩ := ahS.mp hd
 exact qB (qB (.int _ _) (.int _ _)) (qB (.int _ _) (.int _ _))
theorem V1 (h : gI 60 d) : ¬ (!FY d d) = true := by rw [uc h]; decide
theorem Yp {e : L3.D} (h : gI 60 d) (g : gI 60 e) : ¬ (!FY d d || !FY e e) = true := by rw [uc h, uc g]; decide
def w6 (cd pl : L3.D) (pa : List L3.D) (bs : List Int) (ex : List (Str × T)) : List (Str × T) := ("table", .sh cd) :: ("place", .sh pl) :: ("past", .lst (pa.map T.sh)) :: ("boxes", .sh (.lst (bs.map .int))) :: ex
def iw (cd pl : L3.D) (pa : List L3.D) (bs : List Int) (ex : List (Str × L3.D)) : List (Str × L3.D) := ("table", cd) :: ("place", pl) :: ("past", .lst pa) :: ("boxes", .lst (bs.map .int)) :: ex
def nT : Option (List L3.D) -> List (Str × T)
 | none => []
 | some r => [("first_rows", .lst (r.map T.sh))]
def AJ : Option (List L3.D) -> List (Str × L3.D)
 | none => []
 | some r => [("first_rows", .lst r)]
variable {cd pl : L3.D} {pa : List L3.D} {bs : List Int} {ex : List (Str × L3.D)} {eo : Option (List L3.D)} {m : Str}
theorem vz : List.lookup ("table" : Str) (iw cd pl pa bs ex) = some cd := fU
theorem nU : List.lookup ("place" : Str) (iw cd pl pa bs ex) = some pl := by
 unfold iw
 rw [aM Q.a, fU]
theorem ug : List.lookup ("past" : Str) (iw cd pl pa bs ex) = some (.lst pa) := by
 unfold iw
 rw [aM Q.a, aM Q.a, fU]
theorem vA : List.lookup ("boxes" : Str) (iw cd pl pa bs ex) = some (.lst (bs.map .int)) := by
 unfold iw
 rw [aM Q.a, aM Q.a, aM Q.a, fU]
variable {r : List L3.D}
theorem Lj : List.lookup ("first_rows" : Str) (iw cd pl pa bs (AJ (some r))) = some (.lst r) := by
 unfold iw AJ
 rw [aM Q.a, aM Q.a, aM Q.a, aM Q.a, fU]
theorem Hq (h1 : (m == ("table" : Str)) = false) (h2 : (m == ("place" : Str)) = false) (h3 : (m == ("past" : Str)) = false) (h4 : (m == ("boxes" : Str)) = false) (h5 : (m == ("first_rows" : Str)) = false) : (iw cd pl pa bs (AJ eo)).lookup m = none := by
 unfold iw
 rw [aM h1, aM h2, aM h3, aM h4]
 cases eo with
 | none => rfl
 | some r =>
   unfold AJ
   rw [aM h5]
   rfl
theorem Ue (h1 : (m == ("table" : Str)) = false) (h2 : (m == ("place" : Str)) = false) (h3 : (m == ("past" : Str)) = false) (h4 : (m == ("boxes" : Str)) = false) (h5 : (m == ("first_rows" : Str)) = false) : (w6 cd pl pa bs (nT eo)).lookup m = none := by
 unfold w6
 rw [aM h1, aM h2, aM h3, aM h4]
 cases eo with
 | none => rfl
 | some r =>
   unfold nT
   rw [aM h5]
   rfl
theorem PY (cd pl : L3.D) (pa : List L3.D) (bs : List Int) (eo : Option (List L3.D)) : (w6 cd pl pa bs (nT eo)).length < 1000 := by
 cases eo with
 | none => exact ahA rfl
 | some r => exact ahA rfl
def AK (mk : Str) (i j : Int) : Bool := if mk = "<" then decide (i < j) else if mk = "<=" then decide (i <= j) else if mk = "=" then decide (i = j) else !decide (i = j)
abbrev Ask := Str × Int × Int × Int × Int
def PZ (q : Ask) : L3.D := .tup [.str q.1, .tup [.int q.2.1, .int q.2.2.1], .tup [.int q.2.2.2.1, .int q.2.2.2.2]]
def okQ (bs : List Int) (q : Ask) : Prop := (q.2.1 = -1 \/ (0 <= q.2.1 /\ q.2.1 < bs.length)) /\ (q.2.2.2.1 = -1 \/ (0 <= q.2.2.2.1 /\ q.2.2.2.1 < bs.length))
def hQ (bs : List Int) (q : Ask) : Bool := AK q.1 (eG q.2.1 q.2.2.1 bs) (eG q.2.2.2.1 q.2.2.2.2 bs)
theorem Jz {m : Nat} {a c : Int} (h : Rm m a c = true) : a = -1 \/ (0 <= a /\ a < (m : Int)) := by
 unfold Rm ZH at h
 simp only [ah0, Bool.or_eq_true, ajk] at h
 exact h.1
theorem Fd.asks {m : Nat} {r : cu} (h : Fd m f r) (hb : bs.length = m) : ∀ q ∈ r.1, okQ bs q := fun q hq => by
 obtain ⟨_, h2, h3⟩ := h.a q hq
 unfold okQ
 rw [hb]
 exact ⟨Jz h2, Jz h3⟩
theorem P0 {m : Nat} {x : It} (h : Lg m x) (hb : bs.length = m) : x.ok bs := by
 subst hb
 cases x with
 | jV q =>
   cases q with
   | put i a c =>
     have h1 := h.1
     unfold ZH at h1
     simp only [ah0, ajk] at h1
     exact ⟨h1, Jz h.2⟩
   | say s a c => exact Jz h.2
   | call s => trivial
 | _ => trivial
def sr (R : Q.o) (hs : List Str) (a : Nat) (sg : Str) (bs : List Int) : List It × Nat :=
 if sg ∈ hs then (match (C4 R a sg).find? (fun r => r.1.all (hQ bs)) with | some r => (r.2.1, r.2.2.toNat) | none => ([], a)) else ([], a)
theorem qe.row {m : Nat} {hs : List Str} {R : Q.o} (h : qe m f hs R) (ha : a < f) (hx : x ∈ hs) : kO R (Rn a x) = some (C4 R a x) /\ (C4 R a x).length <= 3 /\ ∀ r ∈ C4 R a x, Fd m f r := by
 obtain ⟨l, h1, h2⟩ := yL (h.a a ha x hx)
 unfold C4
 rw [h1]
 exact ⟨rfl, h.b _ h2⟩
theorem Hr {m : Nat} {hs : List Str} {R : Q.o} (h : qe m f hs R) (ha : a < f) (sg : Str) (bs : List Int) : (sr R hs a sg bs).1.length <= 3 /\ (∀ x ∈ (sr R hs a sg bs).1, Lg m x) /\ (sr R hs a sg bs).2 < f := by
 unfold sr
 split
 . rename_i hx
   obtain ⟨_, _, hr⟩ := h.row ha hx
   split
   . rename_i r e
     have hm := hr r (ai6 e)
     obtain ⟨c1, c2⟩ := hm.c
     exact ⟨hm.e, hm.b, by show r.2.2.toNat < f; omega⟩
   . exact ⟨ah8 _, fun x hx => absurd hx ahK, ha⟩
 . exact ⟨ah8 _, fun x hx => absurd hx ahK, ha⟩
abbrev Yq := List Str × Nat × List Int
def r9 (R : Q.o) (hs : List Str) : Nat -> Yq -> List L3.D × Yq
 | 0, s => ([], s)
 | j + 1, s => match r9 R hs j s with
   | (rs, [], p) => (rs, [], p)
   | (rs, sg :: w, a, bs) => (rs ++ (L3.D.tup [.str "sign", .str sg] :: (tQ (sr R hs a sg bs).1 bs).map J.d), w ++ aX (sr R hs a sg bs).1, (sr R hs a sg bs).2, (sr R hs a sg bs).1.foldl It.af bs)
def su (R : Q.o) (hs : List Str) (s : Yq) : List L3.D := (r9 R hs 8 s).1 ++ (if (r9 R hs 8 s).2.1 = [] then [] else [.tup [.str "rest", .int (((r9 R hs 8 s).2.1.length : Nat) : Int)]])
def Eg (R : Q.o) (hs : List Str) (s : Yq) : Nat := (r9 R hs 8 s).2.2.1
def Eh (R : Q.o) (hs : List Str) (s : Yq) : List Int := (r9 R hs 8 s).2.2.2
variable {R : Q.o} {hs : List Str} {m : Nat}
theorem Fe {s : Yq} {j : Nat} (h : (r9 R hs j s).2.1 = []) : ∀ k, r9 R hs (j + k) s = r9 R hs j s
 | 0 => rfl
 | k + 1 => by
   rw [← Nat.add_assoc, r9, Fe h k]
   generalize r9 R hs j s = r at h ⊢
   obtain ⟨rs, w, p⟩ := r
   have h : w = [] := h
   subst h
   rfl
theorem yV {s : Yq} {j : Nat} {rs : List L3.D} {sg : Str} {w : List Str} {a : Nat} {bs : List Int} (h : r9 R hs j s = (rs, sg :: w, a, bs)) :
   r9 R hs (j + 1) s = (rs ++ (L3.D.tup [.str "sign", .str sg] :: (tQ (sr R hs a sg bs).1 bs).map J.d), w ++ aX (sr R hs a sg bs).1, (sr R hs a sg bs).2, (sr R hs a sg bs).1.foldl It.af bs) := by
 rw [r9, h]
theorem vC (h : qe m f hs R) {cs : List Str} {a : Nat} {bs : List Int} (ha : a < f) (hb : bs.length = m) : ∀ j, (r9 R hs j (cs, a, bs)).1.length <= 4 * j /\ (r9 R hs j (cs, a, bs)).2.1.length <= cs.length + 3 * j /\ (r9 R hs j (cs, a, bs)).2.2.1 < f /\ (r9 R hs j (cs, a, bs)).2.2.2.length = m /\ D.bJ (r9 R hs j (cs, a, bs)).1 = true
 | 0 => ⟨ah8 _, ahG _, ha, hb, rfl⟩
 | j + 1 => by
   obtain ⟨h1, h2, h5, h3, h4⟩ := vC h (cs := cs) ha hb j
   cases e : r9 R hs j (cs, a, bs) with
   | mk rs r =>
     obtain ⟨w, a2, b2⟩ := r
     rw [e] at h1 h2 h3 h4 h5
     dsimp only at h1 h2 h3 h4 h5
     cases w with
     | nil =>
       rw [r9, e]
       exact ⟨by dsimp only; omega, by simp, h5, h3, h4⟩
     | cons sg w =>
       rw [yV e]
       obtain ⟨s1, s2, s4⟩ := Hr h h5 sg b2
       have s3 : (aX (sr R hs a2 sg b2).1).length <= (sr R hs a2 sg b2).1.length := ait _ _
       rw [ahY] at h2
       refine ⟨?_, ?_, s4, ?_, ?_⟩
       . dsimp only
         rw [ahL, ahY, ahx, uf]
         omega
       . dsimp only
         rw [ahL]
         omega
       . exact (oW _ _).trans h3
       . refine oN fun d hd => ?_
         rcases ahB.mp hd with z | z
         . exact gb h4 d z
         . rcases ahH.mp z with rfl | z
           . rfl
           . exact gb (xJ _ _) d z
variable {cs : List Str}
theorem vD (h : qe m f hs R) (ha : a < f) (hb : bs.length = m) : (su R hs (cs, a, bs)).length <= 33 /\ D.bJ (su R hs (cs, a, bs)) = true := by
 obtain ⟨h1, h2, h5, h3, h4⟩ := vC h (cs := cs) ha hb 8
 unfold su
 refine ⟨?_, oN fun d hd => ?_⟩
 . rw [ahL]
   split <;> simp <;> omega
 . rcases ahB.mp hd with z | z
   . exact gb h4 d z
   . split at z
     . cases z
     . rw [ail.mp z]; rfl
def b8 (cd pl : L3.D) (pt : List T) (bs : List Int) (ex : List (Str × T)) : List (Str × T) := ("table", .sh cd) :: ("place", .sh pl) :: ("past", .lst pt) :: ("boxes", .sh (.lst (bs.map .int))) :: ex
abbrev Ff := Nat × List Int × List L3.D
def dw (l : List Ff) : List T := l.map fun q => .tup [.sh (.int (q.1 : Nat)), .sh (.lst (q.2.1.map .int)), .lst (q.2.2.map T.sh)]
variable {p : L3.D} {pt : List T} {et : List (Str × T)} {y : Addr} {m : Str}
theorem Fg : T.aZ (.ins "FlatRun" (b8 cd pl pt bs (nT eo))) = .ins "FlatRun" (iw cd pl (T.c5 pt) bs (AJ eo)) := by
 cases eo with
 | none =>
   unfold b8 iw nT AJ
   rw [T.aZ, T.mj, T.mj, T.mj, T.mj, T.mj, T.aZ, T.aZ, T.aZ, T.aZ]
 | some r =>
   unfold b8 iw nT AJ
   rw [T.aZ, T.mj, T.mj, T.mj, T.mj, T.mj, T.mj, T.aZ, T.aZ, T.aZ, T.aZ, bX]
theorem vF : T.aZ (.pin y (.ins "FlatRun" (b8 cd pl pt bs (nT eo)))) = .ins "FlatRun" (iw cd pl (T.c5 pt) bs (AJ eo)) := by
 rw [T.aZ, Fg]
theorem xK (h1 : (m == ("table" : Str)) = false) (h2 : (m == ("place" : Str)) = false) (h3 : (m == ("past" : Str)) = false) (h4 : (m == ("boxes" : Str)) = false) (h5 : (m == ("first_rows" : Str)) = false) : (b8 cd pl pt bs (nT eo)).lookup m = none := by
 unfold b8
 rw [aM h1, aM h2, aM h3, aM h4]
 cases eo with
 | none => rfl
 | some r =>
   unfold nT
   rw [aM h5]
   rfl
theorem yW : List.lookup ("place" : Str) (b8 cd pl pt bs et) = some (.sh pl) := by
 unfold b8
 rw [aM Q.a, fU]
theorem k8 : List.lookup ("past" : Str) (b8 cd pl pt bs et) = some (.lst pt) := by
 unfold b8
 rw [aM Q.a, aM Q.a, fU]
theorem yX : List.lookup ("boxes" : Str) (b8 cd pl pt bs et) = some (.sh (.lst (bs.map .int))) := by
 unfold b8
 rw [aM Q.a, aM Q.a, aM Q.a, fU]
theorem yZ : iA "place" (.sh p) (b8 cd pl pt bs et) = b8 cd p pt bs et := by
 unfold b8
 rw [aO Q.a, rg]
theorem BR {t2 : List T} : iA "past" (.lst t2) (b8 cd pl pt bs et) = b8 cd pl t2 bs et := by
 unfold b8
 rw [aO Q.a, aO Q.a, rg]
theorem y9 {b2 : List Int} : iA "boxes" (.sh (.lst (b2.map .int))) (b8 cd pl pt bs et) = b8 cd pl pt b2 et := by
 unfold b8
 rw [aO Q.a, aO Q.a, aO Q.a, rg]
theorem Hs : T.iC [.fld "place"] (.pin y (.ins "FlatRun" (b8 cd pl pt bs et))) = some (.sh pl) := by
 show (List.lookup _ _).bind _ = _
 rw [yW]
 rfl
theorem Ht : T.iC [.fld "boxes"] (.pin y (.ins "FlatRun" (b8 cd pl pt bs et))) = some (.sh (.lst (bs.map .int))) := by
 show (List.lookup _ _).bind _ = _
 rw [yX]
 rfl
theorem vG : T.iC [.fld "past"] (.pin y (.ins "FlatRun" (b8 cd pl pt bs et))) = some (.lst pt) := by
 show (List.lookup _ _).bind _ = _
 rw [k8]
 rfl
theorem zb {t2 : List T} : T.j9 [.fld "past"] (.lst t2) (.pin y (.ins "FlatRun" (b8 cd pl pt bs et))) = .pin y (.ins "FlatRun" (b8 cd pl t2 bs et)) := by
 have e : T.F3 (.fld "past") (.ins "FlatRun" (b8 cd pl pt bs et)) = some (.lst pt) := k8 (cd := cd) (pl := pl) (pt := pt) (bs := bs) (et := et)
 rw [T.j9, show T.core (.pin y (.ins "FlatRun" (b8 cd pl pt bs et))) = .ins "FlatRun" (b8 cd pl pt bs et) from rfl, e]
 show T.pin y (.ins "FlatRun" (iA "past" (.lst t2) (b8 cd pl pt bs et))) = _
 rw [BR]
theorem BU {a b t : T} : T.C1 [.fld "past", .ix pt.length, .ix 2] (.pin y (.ins "FlatRun" (b8 cd pl (pt ++ [T.tup [a, b, t]]) bs et))) = some t := by
 show (List.lookup ("past" : Str) (b8 cd pl (pt ++ [T.tup [a, b, t]]) bs et)).bind (T.C1 [.ix pt.length, .ix 2]) = _
 rw [k8]
 show ((pt ++ [T.tup [a, b, t]])[pt.length]?).bind (T.C1 [.ix 2]) = _
 rw [aiO (ahG _), Nat.sub_self]
 rfl
theorem Lk {a b t u : T} : T.AI [.fld "past", .ix pt.length, .ix 2] u (.pin y (.ins "FlatRun" (b8 cd pl (pt ++ [T.tup [a, b, t]]) bs et))) = .pin y (.ins "FlatRun" (b8 cd pl (pt ++ [T.tup [a, b, u]]) bs et)) := by
 have e : T.F3 (.fld "past") (.ins "FlatRun" (b8 cd pl (pt ++ [T.tup [a, b, t]]) bs et)) = some (.lst (pt ++ [T.tup [a, b, t]])) := k8 (cd := cd) (pl := pl) (pt := pt ++ [T.tup [a, b, t]]) (bs := bs) (et := et)
 have e2 : T.F3 (.ix pt.length) (.lst (pt ++ [T.tup [a, b, t]])) = some (.tup [a, b, t]) := by
   show (pt ++ [T.tup [a, b, t]])[pt.length]? = _
   rw [aiO (ahG _), Nat.sub_self]
   rfl
 rw [T.AI, show T.core (.pin y (.ins "FlatRun" (b8 cd pl (pt ++ [T.tup [a, b, t]]) bs et))) = .ins "FlatRun" (b8 cd pl (pt ++ [T.tup [a, b, t]]) bs et) from rfl, e]
 show T.pin y (.ins "FlatRun" (iA "past" (T.AI [.ix pt.length, .ix 2] u (.lst (pt ++ [T.tup [a, b, t]]))) (b8 cd pl (pt ++ [T.tup [a, b, t]]) bs et))) = _
 rw [T.AI, show T.core (.lst (pt ++ [T.tup [a, b, t]])) = .lst (pt ++ [T.tup [a, b, t]]) from rfl, e2]
 show T.pin y (.ins "FlatRun" (iA "past" (.lst ((pt ++ [T.tup [a, b, t]]).set pt.length (T.tup [a, b, u]))) (b8 cd pl (pt ++ [T.tup [a, b, t]]) bs et))) = _
 rw [BR, List.set_append_right _ _ (ahG _), Nat.sub_self]
 rfl
theorem uh (cd pl : L3.D) (pt : List T) (bs : List Int) (eo : Option (List L3.D)) : (b8 cd pl pt bs (nT eo)).length < 1000 := by
 cases eo with
 | none => exact ahA rfl
 | some r => exact ahA rfl
theorem zc (l : List Ff) (q : Ff) : dw (l ++ [q]) = dw l ++ [.tup [.sh (.int (q.1 : Nat)), .sh (.lst (q.2.1.map .int)), .lst (q.2.2.map T.sh)]] := by
 unfold dw
 rw [ahD]
 rfl
seal L3.cH L3.Ks L3.bS L3.eF L3.vg L3.Ec L3.Mu
abbrev rm : Stmt := top 24
abbrev rq : Type := List Int × Int
def mD : rq -> List L3.D := fun (ns, j) => [.lst (ns.map .int), .int j]
def mE : rq -> Prop := fun (ns, j) => 0 <= j
def mF : rq -> T := fun (ns, j) => (.sh (.int (ji ns j)) : T)
structure Lp (X : Cx) (CL : Q.e) : Prop extends dg X where
 bQ : Ln X 0 "script"
 V2 : Ln X 1 "k"
 mG : Gl X "len"
 mH : X.mg "len" = none
variable {X : Cx} {CL : Q.e} {b : Bx}
theorem Lq (E : Lp X CL) {dN : rq} (h : mE dN) :
   aN X CL b rm ["script", "k"] (mD dN) (mF dN) := by
 obtain ⟨ns, j⟩ := dN
 dsimp only [aN, mE, mD, mF] at h ⊢
 refine iu (BG (cC E.V2) (ao (xC E.mH (cC E.bQ) E.mG))).1 (fun hp => ?_) (fun hp => ?_)
 . have e : j < ns.length := by simpa using of_decide_eq_true hp
   refine cO (fk (oM (cC E.bQ) (cC E.V2) (Cy h e)) rfl) ?_
   show T.sh _ = T.sh (.int (ji ns j))
   rw [ji, ahN e]
 . have e : ¬ j < ns.length := by simpa using of_decide_eq_false hp
   refine aF (cO au ?_)
   show T.sh _ = T.sh (.int (ji ns j))
   rw [ji, ahC e]
theorem sX : qa (ak rm) ([("script", aA), ("k", aA), ("len", aK)]) = true := Q.j
theorem Hu : aP ["script", "k"] ["script", "k"] (ak rm) := bz
abbrev C7 : Stmt := top 25
abbrev C8 : Type := Addr × Int × Int
def iE : C8 -> List T := fun (y, p, m) => [.pin y (.lst [.sh (.int p)]), .sh (.int m)]
def gR : C8 -> List T := fun (y, p, m) => [.pin y (.lst [.sh (.int (p / m))]), .sh (.int m)]
def pre_take : C8 -> Prop := fun (y, p, m) => 0 < m /\ m.natAbs.log2 < 9000
def iF : C8 -> T := fun (y, p, m) => (.sh (.int (p % m)) : T)
structure Yr (X : Cx) (CL : Q.e) : Prop extends dg X where
 cW : Ln X 0 "pot"
 cG : Ln X 1 "many"
 JA : Ln X 2 "digit"
theorem Ys (E : Yr X CL) (y p m) (h : pre_take (y, p, m)) :
   cH X CL b (b9 C7) (mY ["pot", "many", "digit"] (iE (y, p, m))) { nx := fun δ => iF (y, p, m) = .sh .non /\ Keeps δ (gR (y, p, m)), rt := fun EW δ => EW = iF (y, p, m) /\ Keeps δ (gR (y, p, m)) } := by
 dsimp only [pre_take, iE, iF, gR] at h ⊢
 refine bE E.g E.JA (mX (ao (oS (p := [.ix 0]) (jt (bO E.cW.1 rfl) rfl rfl (ao au) rfl) rfl rfl)) (cC E.cG) h.1) ?_
 refine XT (Og (ao (oS (p := [.ix 0]) (jt (bO E.cW.1 rfl) rfl rfl (ao au) rfl) rfl rfl)) (cC E.cG) h) (bO E.cW.1 rfl) (ao au) rfl rfl rfl ?_
 exact cO (v_ E.JA.1) ⟨rfl, ju (ds := [_])⟩
theorem C9 : qa (ak C7) ([("pot", aA), ("many", aA), ("digit", aA)]) = true := Q.j
theorem JB : aP ["pot", "many", "digit"] ["pot", "many"] (ak C7) := bz
abbrev Dc : Stmt := top 26
abbrev De : Type := Addr × Int × Nat
def nV : De -> List T := fun (y, p, m) => [.pin y (.lst [.sh (.int p)]), .sh (.int m)]
def lE : De -> List T := fun (y, p, m) => [.pin y (.lst [.sh (.int (yO m p))]), .sh (.int m)]
def qC : De -> Prop := fun (y, p, m) => m <= 10
def nW : De -> T := fun (y, p, m) => (.sh (.tup [.int (BQ m p), .int (Ax m p)]) : T)
structure Yt (X : Cx) (CL : Q.e) : Prop extends dg X where
 cW : Ln X 0 "pot"
 cG : Ln X 1 "many"
 sy : Ln X 2 "box"
 aS : Gl X "_law_take"
 dO : GR X CL "_law_take" 1 2 iE pre_take iF gR
theorem Yu (E : Yt X CL) (y p m) (h : qC (y, p, m)) :
   cH X CL b (b9 Dc) (mY ["pot", "many", "box"] (nV (y, p, m))) { nx := fun δ => nW (y, p, m) = .sh .non /\ Keeps δ (lE (y, p, m)), rt := fun EW δ => EW = nW (y, p, m) /\ Keeps δ (lE (y, p, m)) } := by
 dsimp only [qC, nV, nW, lE] at h ⊢
 have h : m <= 10 := h
 refine gM E.g E.sy (mZ (CY (K1 (t := .sh (.int (p % ((m : Int) + 1)))) (y, p, ((m : Int) + 1)) (.pin y (.lst [.sh (.int (p / ((m : Int) + 1)))])) E.dO E.aS (mC E.cW.1 rfl (dI (ql (cC E.cG) (ao au)) cV)) (qc Q.c Q.c) rfl ⟨rfl, .inr rfl, trivial⟩) au.m) (t2 := .sh (.int (BQ m p))) rfl) ?_
 refine VP (Tt (K1 (t := .sh (.int ((p / ((m : Int) + 1)) % 3))) (y, (p / ((m : Int) + 1)), 3) (.pin y (.lst [.sh (.int ((p / ((m : Int) + 1)) / 3))])) E.dO E.aS (mC E.cW.1 rfl (dI au cV)) (qc Q.b Q.b) rfl ⟨rfl, .inr rfl, trivial⟩) (ao au)) (fun hp => ?_) (fun hp => aF ?_)
 . have hp := ahX hp
   refine sU (iD (ds := [.int (BQ m p), .int (Mw m p % (2 * 10 ^ (9 : Int).toNat + 1) - 10 ^ (9 : Int).toNat)]) (bw (v_ E.sy.1).m (bw (CY (K1 (t := .sh (.int ((Mw m p) % (2 * 10 ^ (9 : Int).toNat + 1)))) (y, (Mw m p), (2 * 10 ^ (9 : Int).toNat + 1)) (.pin y (.lst [.sh (.int ((Mw m p) / (2 * 10 ^ (9 : Int).toNat + 1)))])) E.dO E.aS (mC E.cW.1 rfl (dI (ql (ao (Nx (ao au) (ao (sQ (ao au) (ao au) ⟨by decide, by decide, by decide⟩)) (.inl ⟨by decide, by decide⟩))) (ao au)) cV)) (qc Q.b Q.b) rfl ⟨rfl, .inr rfl, trivial⟩) ((sQ (ao au) (ao au) ⟨by decide, by decide, by decide⟩)).m) jI)) (ay rfl)) ⟨?_, ?_⟩
   . show _ = T.sh (.tup [.int (BQ m p), .int (Ax m p)])
     unfold Ax
     rw [ahN hp]
   . show Keeps _ [.pin y (.lst [.sh (.int (yO m p))]), .sh (.int m)]
     unfold yO
     rw [ahN hp]
     exact ju (ds := [_])
 . have hp := aic hp
   refine sU (iD (ds := [.int (BQ m p), .int (Mw m p % 7 - 3)]) (bw (v_ E.sy.1).m (bw (CY (K1 (t := .sh (.int ((Mw m p) % 7))) (y, (Mw m p), 7) (.pin y (.lst [.sh (.int ((Mw m p) / 7))])) E.dO E.aS (mC E.cW.1 rfl (dI au cV)) (qc Q.b Q.b) rfl ⟨rfl, .inr rfl, trivial⟩) au.m) jI)) (ay rfl)) ⟨?_, ?_⟩
   . show _ = T.sh (.tup [.int (BQ m p), .int (Ax m p)])
     unfold Ax
     rw [ahC hp]
   . show Keeps _ [.pin y (.lst [.sh (.int (yO m p))]), .sh (.int m)]
     unfold yO
     rw [ahC hp]
     exact ju (ds := [_])
theorem xM : qa (ak Dc) ([("pot", aA), ("many", aA), ("box", aA), ("_law_take", aK)]) = true := Q.j
theorem JC : aP ["pot", "many", "box"] ["pot", "many"] (ak Dc) := bz
abbrev xN : Stmt := top 27
abbrev xO : Type := Addr × Int × Nat × List Str
def nX : xO -> List T := fun (y, p, m, hs) => [.pin y (.lst [.sh (.int p)]), .sh (.int m), .sh (.lst (hs.map .str))]
def k9 : xO -> List T := fun (y, p, m, hs) => [.pin y (.lst [.sh (.int (Rk m hs p))]), .sh (.int m), .sh (.lst (hs.map .str))]
def rz : xO -> Prop := fun (y, p, m, hs) => m <= 10 /\ 0 < hs.length /\ hs.length <= 10
def nY : xO -> T := fun (y, p, m, hs) => (.sh (Js m hs p).d : T)
structure Ug (X : Cx) (CL : Q.e) : Prop extends dg X where
 cW : Ln X 0 "pot"
 cG : Ln X 1 "many"
 cQ : Ln X 2 "heard"
 Fi : Ln X 3 "way"
 sy : Ln X 4 "box"
 aS : Gl X "_law_take"
 jW : Gl X "_law_term"
 abI : Gl X "str"
 mG : Gl X "len"
 dO : GR X CL "_law_take" 1 2 iE pre_take iF gR
 zf : GR X CL "_law_term" 2 2 nV qC nW lE
 P1 : X.mg "str" = none
 mH : X.mg "len" = none
theorem Uh (E : Ug X CL) (y p m hs) (h : rz (y, p, m, hs)) :
   cH X CL b (b9 xN) (mY ["pot", "many", "heard", "way", "box"] (nX (y, p, m, hs))) { nx := fun δ => nY (y, p, m, hs) = .sh .non /\ Keeps δ (k9 (y, p, m, hs)), rt := fun EW δ => EW = nY (y, p, m, hs) /\ Keeps δ (k9 (y, p, m, hs)) } := by
 dsimp only [rz, nX, nY, k9] at h ⊢
 obtain ⟨hm, h0, h1⟩ := h
 have w0 := ah7 p (b := 9) Q.b
 have w1 := ahZ p (b := 9) Q.b
 refine gM E.g E.Fi (K1 (t := .sh (.int (p % 9))) (y, p, 9) (.pin y (.lst [.sh (.int (p / 9))])) E.dO E.aS (mC E.cW.1 rfl (dI au cV)) (qc Q.b Q.b) rfl ⟨rfl, .inr rfl, trivial⟩) ?_
 refine iu (BG (cC E.Fi) (ao au)).1 (fun hp => ?_) (fun hp => aF ?_)
 . have hp := ahX hp
   refine sU (CZ (OD (Tq (tl := (([.out 1, .keep 0 (-1) 2, .way (p / 9 % 5), .F0 2] : List It).map It.d).map T.sh) (bw ((cI (aW bW (aW au e7)) (ay rfl))).m (bw ((cI (aW bW (aW au (aW (yu (ao au)) (aW au e7)))) (ay rfl))).m (bw (iD (ds := [.str "way", .int (p / 9 % 5)]) (bw bW.m (bw (K1 (t := .sh (.int ((p / 9) % 5))) (y, (p / 9), 5) (.pin y (.lst [.sh (.int ((p / 9) / 5))])) E.dO E.aS (mC E.cW.1 rfl (dI au cV)) (qc Q.b Q.b) rfl ⟨rfl, .inr rfl, trivial⟩) jI)) (ay rfl)) (bw ((cI (aW bW (aW au e7)) (ay rfl))).m jI)))) (ay rfl)) (bX _)) (v_ E.Fi.1).m (yx (.out 1) w0 (show p % 9 < 4 by omega))) ⟨?_, ?_⟩
   . show T.sh _ = T.sh (Js m hs p).d
     unfold Js
     rw [ahN hp]
     try rfl
   . show Keeps _ [.pin y (.lst [.sh (.int (Rk m hs p))]), .sh (.int m), .sh (.lst (hs.map .str))]
     unfold Rk
     rw [ahN hp]
     exact ju (ds := [_, _])
 have n4 := aic hp
 refine iu (R3 (Gy (BG (cC E.Fi) (ao au)).1 (fun hb => (Cv (aaG (cC E.cG) (ao au)).1)))) (fun hp => ?_) (fun hp => aF ?_)
 . rw [ah0] at hp
   have p1 := ahX hp.1
   have p2 := ahX hp.2
   have hq : p % 9 < 6 /\ 0 < m := ⟨p1, by omega⟩
   refine gM E.g E.sy (K1 (t := .sh (.int ((p / 9) % (m : Int)))) (y, (p / 9), (m : Int)) (.pin y (.lst [.sh (.int ((p / 9) / (m : Int)))])) E.dO E.aS (mC E.cW.1 rfl (dI (v_ E.cG.1) cV)) (qc Q.c Q.c) rfl ⟨rfl, .inr rfl, trivial⟩) ?_
   refine sU (iD (ds := [.str "put", .int (p / 9 % (m : Int)), .tup [.int (BQ m (p / 9 / (m : Int))), .int (Ax m (p / 9 / (m : Int)))]]) (bw bW.m (bw (v_ E.sy.1).m (bw (K1 (t := .sh (.tup [.int (BQ m (p / 9 / (m : Int))), .int (Ax m (p / 9 / (m : Int)))])) (y, (p / 9 / (m : Int)), m) (.pin y (.lst [.sh (.int (yO m (p / 9 / (m : Int))))])) E.zf E.jW (mC E.cW.1 rfl (dI (v_ E.cG.1) cV)) (show m <= 10 by omega) rfl ⟨rfl, .inr rfl, trivial⟩) jI))) (ay rfl)) ⟨?_, ?_⟩
   . show T.sh _ = T.sh (Js m hs p).d
     unfold Js
     rw [ahC n4, ahN hq]
     try rfl
   . show Keeps _ [.pin y (.lst [.sh (.int (Rk m hs p))]), .sh (.int m), .sh (.lst (hs.map .str))]
     unfold Rk
     rw [ahC n4, ahN hq]
     exact ju (ds := [_, _])
 have n6 : ¬ (p % 9 < 6 /\ 0 < m) := fun ⟨z1, z2⟩ => by
   rw [aim z1, aim (show (0 : Int) < (m : Int) by omega)] at hp
   exact absurd hp Q.b
 refine iu (BG (cC E.Fi) (ao au)).1 (fun hp => ?_) (fun hp => aF ?_)
 . have hp := ahX hp
   have s0 := ah7 (p / 9) (b := 3) Q.b
   have s1 := ahZ (p / 9) (b := 3) Q.b
   have cl : ∀ k : Nat, k < 3 -> (toString (k : Int) : Str).length <= 2 /\ (k : Int).natAbs.log2 < 1920 := Q.j
   obtain ⟨sl, sg⟩ := cl (p / 9 % 3).toNat Q.c
   rw [show (((p / 9 % 3).toNat : Nat) : Int) = p / 9 % 3 by omega] at sl sg
   refine sU (iD (ds := [.str "say", .str (wN (p / 9 % 3)), .tup [.int (BQ m (p / 9 / 3)), .int (Ax m (p / 9 / 3))]]) (bw bW.m (bw (OB bW.m (OG E.P1 E.abI (K1 (t := .sh (.int ((p / 9) % 3))) (y, (p / 9), 3) (.pin y (.lst [.sh (.int ((p / 9) / 3))])) E.dO E.aS (mC E.cW.1 rfl (dI au cV)) (qc Q.b Q.b) rfl ⟨rfl, .inr rfl, trivial⟩) sg) (by rw [aix]; have h1 : ("w" : Str).length = 1 := Q.a; show ("w" : Str).length + (toString (p / 9 % 3) : Str).length <= _; omega)) (bw (K1 (t := .sh (.tup [.int (BQ m (p / 9 / 3)), .int (Ax m (p / 9 / 3))])) (y, (p / 9 / 3), m) (.pin y (.lst [.sh (.int (yO m (p / 9 / 3)))])) E.zf E.jW (mC E.cW.1 rfl (dI (v_ E.cG.1) cV)) (show m <= 10 by omega) rfl ⟨rfl, .inr rfl, trivial⟩) jI))) (ay rfl)) ⟨?_, ?_⟩
   . show T.sh _ = T.sh (Js m hs p).d
     unfold Js
     rw [ahC n4, ahC n6, ahN hp]
     try rfl
   . show Keeps _ [.pin y (.lst [.sh (.int (Rk m hs p))]), .sh (.int m), .sh (.lst (hs.map .str))]
     unfold Rk
     rw [ahC n4, ahC n6, ahN hp]
     exact ju (ds := [_, _])
 have n8 := aic hp
 have g0 := ah7 (p / 9) (b := (hs.length : Int)) Q.c
 have g1 := ahZ (p / 9) (b := (hs.length : Int)) Q.c
 . refine sU (iD (ds := [.str "call", .str (hs.getD (p / 9 % (hs.length : Int)).toNat Str.empty)]) (bw bW.m (bw (CZ (v_ E.cQ.1).m (K1 (t := .sh (.int ((p / 9) % (hs.length : Int)))) (y, (p / 9), (hs.length : Int)) (.pin y (.lst [.sh (.int ((p / 9) / (hs.length : Int)))])) E.dO E.aS (mC E.cW.1 rfl (dI (ud (ahx ..) E.mH (cC E.cQ) E.mG) cV)) (qc Q.c Q.c) rfl ⟨rfl, .inr rfl, trivial⟩) (yx Str.empty g0 g1)) jI)) (ay rfl)) ⟨?_, ?_⟩
   . show T.sh _ = T.sh (Js m hs p).d
     unfold Js
     rw [ahC n4, ahC n6, ahC n8]
     try rfl
   . show Keeps _ [.pin y (.lst [.sh (.int (Rk m hs p))]), .sh (.int m), .sh (.lst (hs.map .str))]
     unfold Rk
     rw [ahC n4, ahC n6, ahC n8]
     exact ju (ds := [_, _])
theorem iG : qa (ak xN) ([("pot", aA), ("many", aA), ("heard", aA), ("way", aA), ("box", aA), ("_law_take", aK), ("_law_term", aK), ("str", aK), ("len", aK)]) = true := Q.j
theorem Fj : aP ["pot", "many", "heard", "way", "box"] ["pot", "many", "heard"] (ak xN) := bz
abbrev um : Stmt := top 28
abbrev uo : Type := Addr × Int × Nat × List Str
def jx : uo -> List T := fun (y, p, m, hs) => [.pin y (.lst [.sh (.int p)]), .sh (.int m), .sh (.lst (hs.map .str))]
def ia : uo -> List T := fun (y, p, m, hs) => [.pin y (.lst [.sh (.int (E7 m hs p))]), .sh (.int m), .sh (.lst (hs.map .str))]
def lF : uo -> Prop := fun (y, p, m, hs) => m <= 10 /\ 0 < hs.length /\ hs.length <= 10
def jy : uo -> T := fun (y, p, m, hs) => (.sh (.tup ((F5 m hs p).map It.d)) : T)
structure P4 (X : Cx) (CL : Q.e) : Prop extends dg X where
 cW : Ln X 0 "pot"
 abJ : X.env.kindOf "pot" = some .cell
 cG : Ln X 1 "many"
 Yv : X.env.kindOf "many" = some .cell
 cQ : Ln X 2 "heard"
 Ui : X.env.kindOf "heard" = some .cell
 uq : Gl X "tuple"
 iH : Gl X "range"
 aS : Gl X "_law_take"
 ur : X.mg "tuple" = none
 iI : X.mg "range" = none
 dO : GR X CL "_law_take" 1 2 iE pre_take iF gR
 Uj : GR X CL "_law_piece" 3 3 nX rz nY k9
theorem P5 (E : P4 X CL) (y p m hs) (h : lF (y, p, m, hs)) :
   cH X CL b (b9 um) (mY ["pot", "many", "heard"] (jx (y, p, m, hs))) { nx := fun δ => jy (y, p, m, hs) = .sh .non /\ Keeps δ (ia (y, p, m, hs)), rt := fun EW δ => EW = jy (y, p, m, hs) /\ Keeps δ (ia (y, p, m, hs)) } := by
 dsimp only [lF, jx, jy, ia] at h ⊢
 have hh := h
 obtain ⟨hm, h0, h1⟩ := h
 have w0 := ah7 p (b := 4) Q.b
 have w1 := ahZ p (b := 4) Q.b
 obtain ⟨n, hn⟩ : ∃ n : Nat, n = (p % 4).toNat := ⟨_, rfl⟩
 have Zm : p % 4 = (n : Int) := by omega
 refine sU (OL (ds := (F5 m hs p).map It.d) E.ur (mZ (K2 (n := n) (i := 0) (y := y) (fun j => .lst [.sh (.int (VZ m hs (p / 4) j))]) (fun j => (Js m hs (VZ m hs (p / 4) j)).d) (lC (.cons E.cQ.1 (.inl E.Ui) (.cons E.cG.1 (.inl E.Yv) (.cons E.cW.1 (.inl E.abJ) .nil))) Q.a) E.g.calm E.iI E.iH (mZ (K1 (t := .sh (.int (p % 4))) (y, p, 4) (.pin y (.lst [.sh (.int (p / 4))])) E.dO E.aS (mC E.cW.1 rfl (dI au cV)) (qc Q.b Q.b) rfl ⟨rfl, .inr rfl, trivial⟩) (t2 := .sh (.int (n : Nat))) (by rw [Zm])) Q.c rfl Q.b Q.b (fun C s0 H0 f0 b' j hj => ?Yw)) (t2 := .lst (((F5 m hs p).map It.d).map T.sh)) ?ceq) (bF oV _) E.uq) ⟨rfl, ?_⟩
 case Yw =>
   exact K1 (t := .sh (Js m hs (VZ m hs (p / 4) j)).d) (y, VZ m hs (p / 4) j, m, hs) (.pin y (.lst [.sh (.int (VZ m hs (p / 4) (j + 1)))])) (OJ E.Uj) (ua Q.a) (mC (sR (i := 3) rfl Q.a) rfl (dI (v_ (sR (i := 2) rfl Q.a)) (dI (v_ (sR (i := 1) rfl Q.a)) cV))) hh rfl ⟨rfl, .inr rfl, trivial⟩
 case ceq =>
   unfold F5
   rw [← hn, aie, aie]
   rfl
 show Keeps _ [.pin y (.lst [.sh (.int (E7 m hs p))]), .sh (.int m), .sh (.lst (hs.map .str))]
 unfold E7
 rw [← hn]
 exact ju (ds := [_, _])
theorem gw : qa (ak um) ([("pot", .cell), ("many", .cell), ("heard", .cell), ("tuple", aK), ("range", aK), ("_law_take", aK)]) = true := Q.j
theorem BV : aP ["pot", "many", "heard"] ["pot", "many", "heard"] (ak um) := bz
abbrev Df : Stmt := top 29
abbrev Dg : Type := Int × Nat × List Str × Nat
def uv : Dg -> List L3.D := fun (c, m, hs, f) => [.int c, .int m, .lst (hs.map .str), .int f]
def qD : Dg -> Prop := fun (c, m, hs, f) => (m <= 10 /\ 0 < hs.length /\ hs.length <= 10) /\ 1 <= f /\ f <= 100
def uw : Dg -> T := fun (c, m, hs, f) => (.lst (((Yh m hs f c).map yP).map T.sh) : T)
structure Yx (X : Cx) (CL : Q.e) : Prop extends dg X where
 vH : Ln X 0 "cell"
 cG : Ln X 1 "many"
 cQ : Ln X 2 "heard"
 kP : Ln X 3 "flats"
 cW : Ln X 4 "pot"
 bD : Ln X 5 "rows"
 V2 : Ln X 6 "k"
 vI : Ln X 7 "asks"
 l_j : Ln X 8 "j"
 sY : Ln X 9 "mark"
 wK : Ln X 10 "one"
 rA : Ln X 11 "piece"
 iH : Gl X "range"
 aS : Gl X "_law_take"
 jW : Gl X "_law_term"
 jJ : Gl X "_law_script"
 uq : Gl X "tuple"
 iI : X.mg "range" = none
 dO : GR X CL "_law_take" 1 2 iE pre_take iF gR
 zf : GR X CL "_law_term" 2 2 nV qC nW lE
 ux : GR X CL "_law_script" 4 3 jx lF jy ia
 ur : X.mg "tuple" = none
theorem Yy (E : Yx X CL) {dN : Dg} (h : qD dN) :
   aN X CL b Df ["cell", "many", "heard", "flats", "pot", "rows", "k", "asks", "j", "mark", "one", "piece"] (uv dN) (uw dN) := by
 obtain ⟨c, m, hs, f⟩ := dN
 dsimp only [aN, qD, uv, uw] at h ⊢
 obtain ⟨hh, f0, f1⟩ := h
 have hh2 := hh
 obtain ⟨hm, h0, h1⟩ := hh2
 refine bE E.g E.cW (dG (aE (mX (cC E.vH) (ao (sQ (ao au) (ao au) ⟨by decide, by decide, by decide⟩)) Q.b) bA) (ay rfl)) ?_
 obtain ⟨p, hp⟩ : ∃ p : Int, p = c % 10 ^ (64 : Int).toNat := ⟨_, rfl⟩
 rw [← hp]
 refine bE E.g E.bD (dG bA (ah8 _)) ?_
 have w0 := ah7 p (b := 3) Q.b
 have w1 := ahZ p (b := 3) Q.b
 have mk4 : GO.length = 4 := rfl
 refine Jl E.g E.V2 (fun j δ => ∃ o6 o7 o8 o9 Yz o11, δ = [some (.sh (.int c)), some (.sh (.int m)), some (.sh (.lst (hs.map .str))), some (.sh (.int f)), some (.lst [.sh (.int (Yg m hs f (p / 3) j))]), some (.lst (((Py m hs f (p / 3) j).map yP).map T.sh)), o6, o7, o8, o9, Yz, o11]) E.iI E.iH (KP (t := .sh (.int (p % 3))) (fun z => (z, p, 3)) (.lst [.sh (.int (p / 3))]) E.dO E.aS (pS E.cW.1 rfl rfl (dI au cV)) (fun _ _ => (qc Q.b Q.b)) (fun _ _ => rfl) (fun _ _ => ⟨rfl, .inl rfl, trivial⟩)) Q.c ⟨_, _, _, _, _, _, rfl⟩ (fun j δ ⟨_, _, _, _, _, _, e⟩ => by subst e; exact ahA rfl) ?turn ?fin
 case turn =>
   rintro j δ hj ⟨o6, o7, o8, o9, Yz, o11, rfl⟩
   obtain ⟨q, hq⟩ : ∃ q, q = Yg m hs f (p / 3) j := ⟨_, rfl⟩
   rw [← hq]
   have hRl : (Py m hs f (p / 3) j).length = j := by unfold Py; rw [ahx, air]
   refine bE E.g E.vI (dG bA (ah8 _)) ?_
   have q0 := ah7 q (b := 2) Q.b
   have q1 := ahZ q (b := 2) Q.b
   refine Jl E.g E.l_j (fun i δ => ∃ o8 o9 Yz, δ = [some (.sh (.int c)), some (.sh (.int m)), some (.sh (.lst (hs.map .str))), some (.sh (.int f)), some (.lst [.sh (.int (Pw m (q / 2) i))]), some (.lst (((Py m hs f (p / 3) j).map yP).map T.sh)), some (.sh (.int (j : Nat))), some (.lst (((Px m (q / 2) i).map V0).map T.sh)), o8, o9, Yz, o11]) E.iI E.iH (CW au.m (KP (t := .sh (.int (q % 2))) (fun z => (z, q, 2)) (.lst [.sh (.int (q / 2))]) E.dO E.aS (pS E.cW.1 rfl rfl (dI au cV)) (fun _ _ => (qc Q.b Q.b)) (fun _ _ => rfl) (fun _ _ => ⟨rfl, .inl rfl, trivial⟩))) Q.c ⟨_, _, _, rfl⟩ (fun j δ ⟨_, _, _, e⟩ => by subst e; exact ahA rfl) ?Fl ?fin2
   case Fl =>
     rintro i δ hi ⟨o8, o9, Yz, rfl⟩
     obtain ⟨r, hr⟩ : ∃ r, r = Pw m (q / 2) i := ⟨_, rfl⟩
     rw [← hr]
     have hAl : (Px m (q / 2) i).length = i := by unfold Px; rw [ahx, air]
     have r0 := ah7 r (b := 4) Q.b
     have r1 := ahZ r (b := 4) Q.b
     refine gM E.g E.sY (mZ (CZ (kN (CG (xD (l := GO) rfl) (ay rfl))).m (KP (t := .sh (.int (r % 4))) (fun z => (z, r, 4)) (.lst [.sh (.int (r / 4))]) E.dO E.aS (pS E.cW.1 rfl rfl (dI au cV)) (fun _ _ => (qc Q.b Q.b)) (fun _ _ => rfl) (fun _ _ => ⟨rfl, .inl rfl, trivial⟩)) (yx Str.empty (l := GO) r0 (by rw [mk4]; exact r1))) (t2 := .sh (.str (GO.getD (r % 4).toNat Str.empty))) rfl) ?_
     refine gM E.g E.wK (KP (t := .sh (.tup [.int (BQ m (r / 4)), .int (Ax m (r / 4))])) (fun z => (z, (r / 4), m)) (.lst [.sh (.int (yO m (r / 4)))]) E.zf E.jW (pS E.cW.1 rfl rfl (dI (v_ E.cG.1) cV)) (fun _ _ => show m <= 10 by omega) (fun _ _ => rfl) (fun _ _ => ⟨rfl, .inl rfl, trivial⟩)) ?_
     refine GZ E.vI.1 rfl (mZ (iD (ds := [.str (GO.getD (r % 4).toNat Str.empty), .tup [.int (BQ m (r / 4)), .int (Ax m (r / 4))], .tup [.int (BQ m (yO m (r / 4))), .int (Ax m (yO m (r / 4)))]]) (bw (v_ E.sY.1).m (bw (v_ E.wK.1).m (bw (KP (t := .sh (.tup [.int (BQ m (yO m (r / 4))), .int (Ax m (yO m (r / 4)))])) (fun z => (z, (yO m (r / 4)), m)) (.lst [.sh (.int (yO m (yO m (r / 4))))]) E.zf E.jW (pS E.cW.1 rfl rfl (dI (v_ E.cG.1) cV)) (fun _ _ => show m <= 10 by omega) (fun _ _ => rfl) (fun _ _ => ⟨rfl, .inl rfl, trivial⟩)) jI))) (ay rfl)) (t2 := .sh (V0 (akO m r))) rfl) rfl (by rw [ahx, ahx, hAl]; omega) (aF ?_)
     have e : ((Px m (q / 2) i).map V0).map T.sh ++ [T.sh (V0 (akO m r))] = ((Px m (q / 2) (i + 1)).map V0).map T.sh := by
       unfold Px
       rw [aiT, ahD, ahD, ahD, hr]
       rfl
     rw [e]
     have e2 : Pw m (q / 2) (i + 1) = yO m (yO m (r / 4)) := by rw [hr]; rfl
     rw [e2]
     exact ⟨_, _, _, rfl⟩
   case fin2 =>
     rintro δ ⟨o8, o9, Yz, rfl⟩
     rw [show (1 + q % 2).toNat = Ye q from rfl]
     obtain ⟨u, hu⟩ : ∃ u, u = rwQ m q := ⟨_, rfl⟩
     rw [show Pw m (q / 2) (Ye q) = u by rw [hu]; rfl]
     refine gM E.g E.rA (KP (t := .sh (.tup ((F5 m hs u).map It.d))) (fun z => (z, u, m, hs)) (.lst [.sh (.int (E7 m hs u))]) E.ux E.jJ (pS E.cW.1 rfl rfl (dI (v_ E.cG.1) (dI (v_ E.cQ.1) cV))) (fun _ _ => hh) (fun _ _ => rfl) (fun _ _ => ⟨rfl, .inl rfl, trivial⟩)) ?_
     refine GZ E.bD.1 rfl (mZ (iD (ds := [.tup ((Px m (q / 2) (Ye q)).map V0), .tup ((F5 m hs u).map It.d), .int (E7 m hs u % (f : Int))]) (bw (Kw E.ur (vL E.vI.1) (bF (fun _ => rfl) _) E.uq).m (bw (v_ E.rA.1).m (bw (KP (t := .sh (.int ((E7 m hs u) % (f : Int)))) (fun z => (z, (E7 m hs u), (f : Int))) (.lst [.sh (.int ((E7 m hs u) / (f : Int)))]) E.dO E.aS (pS E.cW.1 rfl rfl (dI (v_ E.kP.1) cV)) (fun _ _ => (qc Q.c Q.c)) (fun _ _ => rfl) (fun _ _ => ⟨rfl, .inl rfl, trivial⟩)) jI))) (ay rfl)) (t2 := .sh (yP (rwO m hs f q))) (by rw [hu]; rfl)) rfl (by rw [ahx, ahx, hRl]; omega) (aF ?_)
     have e : ((Py m hs f (p / 3) j).map yP).map T.sh ++ [T.sh (yP (rwO m hs f q))] = ((Py m hs f (p / 3) (j + 1)).map yP).map T.sh := by
       unfold Py
       rw [aiT, ahD, ahD, ahD, hq]
       rfl
     rw [e]
     have e2 : Yg m hs f (p / 3) (j + 1) = E7 m hs u / (f : Int) := by rw [hu, hq]; rfl
     rw [e2]
     exact ⟨_, _, _, _, _, _, rfl⟩
 case fin =>
   rintro δ ⟨o6, o7, o8, o9, Yz, o11, rfl⟩
   obtain ⟨q, hq⟩ : ∃ q, q = Yg m hs f (p / 3) (p % 3).toNat := ⟨_, rfl⟩
   rw [← hq]
   have hRl : (Py m hs f (p / 3) (p % 3).toNat).length = (p % 3).toNat := by unfold Py; rw [ahx, air]
   refine gM E.g E.rA (KP (t := .sh (.tup ((F5 m hs q).map It.d))) (fun z => (z, q, m, hs)) (.lst [.sh (.int (E7 m hs q))]) E.ux E.jJ (pS E.cW.1 rfl rfl (dI (v_ E.cG.1) (dI (v_ E.cQ.1) cV))) (fun _ _ => hh) (fun _ _ => rfl) (fun _ _ => ⟨rfl, .inl rfl, trivial⟩)) ?_
   refine GZ E.bD.1 rfl (mZ (iD (ds := [.tup [], .tup ((F5 m hs q).map It.d), .int (E7 m hs q % (f : Int))]) (bw (cI (ds := []) e7 (ay rfl)).m (bw (v_ E.rA.1).m (bw (KP (t := .sh (.int ((E7 m hs q) % (f : Int)))) (fun z => (z, (E7 m hs q), (f : Int))) (.lst [.sh (.int ((E7 m hs q) / (f : Int)))]) E.dO E.aS (pS E.cW.1 rfl rfl (dI (v_ E.kP.1) cV)) (fun _ _ => (qc Q.c Q.c)) (fun _ _ => rfl) (fun _ _ => ⟨rfl, .inl rfl, trivial⟩)) jI))) (ay rfl)) (t2 := .sh (yP (rwE m hs f q))) rfl) rfl (by rw [ahx, ahx, hRl]; omega) ?_
   refine cO (vM E.bD.1) ?_
   show T.lst _ = T.lst (((Yh m hs f c).map yP).map T.sh)
   unfold Yh
   rw [← hp, ← hq, ahD, ahD]
   rfl
theorem dZ : qa (ak Df) ([("cell", aA), ("many", aA), ("heard", aA), ("flats", aA), ("pot", aA), ("rows", aA), ("k", aA), ("asks", aA), ("j", aA), ("mark", aA), ("one", aA), ("piece", aA), ("range", aK), ("_law_take", aK), ("_law_term", aK), ("_law_script", aK), ("tuple", aK)]) = true := Q.j
theorem Uk : aP ["cell", "many", "heard", "flats", "pot", "rows", "k", "asks", "j", "mark", "one", "piece"] ["cell", "many", "heard", "flats"] (ak Df) := bz
theorem aex {l : List α} {k : Nat} {z : Int} (hz : z = (k : Int)) : cutD l none (some z) = l.take k := by
 subst hz
 unfold cutD
 have e1 : HT.AA l.length 0 none = 0 := rfl
 have e2 : HT.AA l.length l.length (some (k : Int)) = min k l.length := by
   unfold HT.AA
   simp
   intro hk
   omega
 rw [e1, e2]
 simp [List.take_eq_take_iff]
abbrev uy : Stmt := top 30
abbrev zg : Type := List Int
def oY : zg -> List L3.D := fun s => [.lst (s.map .int)]
def oZ : zg -> Prop := fun s => s.length <= 1000
def pe : zg -> T := fun s => (Jx s : T)
structure P6 (X : Cx) (CL : Q.e) : Prop extends dg X where
 bQ : Ln X 0 "script"
 qE : X.env.kindOf "script" = some .cell
 cW : Ln X 1 "pot"
 cG : Ln X 2 "many"
 kP : Ln X 3 "flats"
 cQ : Ln X 4 "heard"
 V2 : Ln X 5 "k"
 bG : Ln X 6 "boxes"
 bD : Ln X 7 "rows"
 Hv : Ln X 8 "flat"
 xP : Ln X 9 "begin"
 JD : Ln X 10 "pairs"
 lG : Gl X "_law_cell_at"
 aS : Gl X "_law_take"
 iH : Gl X "range"
 mG : Gl X "len"
 Fo : Gl X "_law_rows"
 jJ : Gl X "_law_script"
 rB : Fc X CL "_law_cell_at" 1 2 mD mE mF
 dO : GR X CL "_law_take" 1 2 iE pre_take iF gR
 iI : X.mg "range" = none
 mH : X.mg "len" = none
 YB : Fc X CL "_law_rows" 5 4 uv qD uw
 ux : GR X CL "_law_script" 4 3 jx lF jy ia
 P1 : X.mg "str" = none
theorem P7 (E : P6 X CL) {s} (h : oZ s) :
   aN X CL b uy ["script", "pot", "many", "flats", "heard", "k", "boxes", "rows", "flat", "begin", "pairs"] (oY s) (pe s) := by
 dsimp only [aN, oZ, oY, pe] at h ⊢
 have Ul : s.length <= 1000 := h
 obtain ⟨b1, b2, b3, b4, b5, b6⟩ := T6 s
 have ZD := Pz s
 have c0 := ah7 (yQ s) (b := 4) Q.b
 have c1 := ahZ (yQ s) (b := 4) Q.b
 have d0 := ah7 (yQ s / 4) (b := 13) Q.b
 have d1 := ahZ (yQ s / 4) (b := 13) Q.b
 have e0 := ah7 (yQ s / 4 / 13) (b := 2) Q.b
 have e1 := ahZ (yQ s / 4 / 13) (b := 2) Q.b
 have z0 : (0 : Int) <= 0 := by decide
 have z3 : (0 : Int) <= 3 := by decide
 refine bE E.g E.cW (cP (dG (aE (mX (ao (c_ ((s, 0)) E.rB E.lG (aJ (cC E.bQ) (aJ (ao au) cU)) (z0) rfl)) (ao (sQ (ao au) (ao au) ⟨by decide, by decide, by decide⟩)) Q.b) bA) (ay rfl)) (t2 := .lst [.sh (.int (yQ s))]) rfl) ?_
 refine gM E.g E.cG (mZ (KP (t := .sh (.int ((yQ s) % 4))) (fun z => (z, (yQ s), 4)) (.lst [.sh (.int ((yQ s) / 4))]) E.dO E.aS (pS E.cW.1 rfl rfl (dI au cV)) (fun _ _ => (qc Q.b Q.b)) (fun _ _ => rfl) (fun _ _ => ⟨rfl, .inl rfl, trivial⟩)) (t2 := .sh (.int (Lc s : Nat))) (by rw [show ((Lc s : Nat) : Int) = yQ s % 4 by unfold Lc; omega])) ?_
 refine gM E.g E.kP (mZ (CW au.m (KP (t := .sh (.int ((yQ s / 4) % 13))) (fun z => (z, (yQ s / 4), 13)) (.lst [.sh (.int ((yQ s / 4) / 13))]) E.dO E.aS (pS E.cW.1 rfl rfl (dI au cV)) (fun _ _ => (qc Q.b Q.b)) (fun _ _ => rfl) (fun _ _ => ⟨rfl, .inl rfl, trivial⟩))) (t2 := .sh (.int (Ay s : Nat))) (by rw [show ((Ay s : Nat) : Int) = 1 + yQ s / 4 % 13 by unfold Ay; omega])) ?_
 have abK : cutD (goL.map L3.D.str) none (some (1 + yQ s / 4 / 13 % 2)) = (yR s).map L3.D.str := by
   rw [aex (k := Mx s) (by unfold Mx; omega), ← List.map_take]
   rfl
 refine gM E.g E.cQ (mZ (K3 (ds := goL.map .str) (kN (CG (xD (l := goL) rfl) (ay rfl))) (nP _) (CW au.m (KP (t := .sh (.int ((yQ s / 4 / 13) % 2))) (fun z => (z, (yQ s / 4 / 13), 2)) (.lst [.sh (.int ((yQ s / 4 / 13) / 2))]) E.dO E.aS (pS E.cW.1 rfl rfl (dI au cV)) (fun _ _ => (qc Q.b Q.b)) (fun _ _ => rfl) (fun _ _ => ⟨rfl, .inl rfl, trivial⟩)))) (t2 := .lst (((yR s).map .str).map T.sh)) (by rw [abK])) ?_
 obtain ⟨q, hq⟩ : ∃ q, q = yQ s / 4 / 13 / 2 := ⟨_, rfl⟩
 rw [← hq]
 obtain ⟨m, hm⟩ : ∃ m, m = Lc s := ⟨_, rfl⟩
 obtain ⟨f, hf⟩ : ∃ f, f = Ay s := ⟨_, rfl⟩
 obtain ⟨hs, hhs⟩ : ∃ hs, hs = yR s := ⟨_, rfl⟩
 have eP : Jx s = .lst [.lst ((((List.range m).map (T5 s)).map T4).map T.sh), .lst ((hs.map .str).map T.sh), .sh (.tup ((F5 m hs (ji s 3 % 10 ^ (60 : Int).toNat / 7)).map It.d)), .lst (((List.range f).map mh).map T.sh), .dct (E8 (Jt s m hs f f))] := by rw [hm, hf, hhs]; rfl
 rw [eP, ← hm, ← hf, ← hhs]
 rw [← hm] at b1
 rw [← hf] at b2 b3
 rw [← hhs] at b4 ZD
 clear eP abK
 have Xl : 0 < hs.length := by omega
 have hl2 : hs.length <= 2 := by omega
 have pre : m <= 10 /\ 0 < hs.length /\ hs.length <= 10 := ⟨by omega, Xl, by omega⟩
 refine N6 (p := fun _ => true) (gg := fun d => T.sh (T4 (T5 s d.NQ.toNat))) E.g E.bG (lC (.cons E.bQ.1 (.inl E.qE) .nil) Q.a) (qo E.iI (cC E.cG) Q.c E.iH) (.inr rfl) (fun C s0 H0 f0 b' d hd => ?Yw) (aiC (jl (by simp [f9]; omega))) ?rest (by exact ahA rfl) (yw ⟨_, rfl⟩)
 case Yw =>
   obtain ⟨i, hi, rfl⟩ := ahS.mp hd
   have ZE : i < m := by simpa using hi
   have cl : ∀ k : Nat, k < 10 -> (toString (k : Int) : Str).length <= 2 /\ (k : Int).natAbs.log2 < 1920 := Q.j
   obtain ⟨sl, sg⟩ := cl i Q.c
   have ei : (0 + (i : Int)) = (i : Int) := ajo _
   have et : (L3.D.int (0 + (i : Int))).NQ.toNat = i := by show (0 + (i : Int)).toNat = i; omega
   have fv : ∀ j : Nat, j < 2 -> 0 < Rl.getD j 0 := Q.j
   have i0 := ah7 (0 + (i : Int)) (b := 2) Q.b
   have i1 := ahZ (0 + (i : Int)) (b := 2) Q.b
   have hfv := fv ((0 + (i : Int)) % 2).toNat Q.c
   refine ⟨rfl, fun _ => cP (cI (ds := [.str (("b" : Str) ++ (toString (0 + (i : Int)) : Str)), .int (ji s (1 + (0 + (i : Int))) % 10 ^ (30 : Int).toNat % Rl.getD ((0 + (i : Int)) % 2).toNat 0 - 2)]) (aW (Xd (ao bW) (ao (Sw E.P1 (ua Q.a) (ao (v_ (j7 (i := 0) rfl Q.a))) (by rw [ei]; exact sg))) ((by rw [ei, aix]; have h1 : ("b" : Str).length = 1 := Q.a; show ("b" : Str).length + (toString (i : Int) : Str).length <= _; omega))) (aW (Gw (ao (mX (ao (mX (ao (c_ ((s, 1 + (0 + (i : Int)))) (Sb E.rB) (ua Q.a) (aJ (ao (v_ (sR (i := 1) rfl Q.a))) (aJ (ao (ql (ao au) (ao (v_ (j7 (i := 0) rfl Q.a))))) cU)) (show (0 : Int) <= 1 + (0 + (i : Int)) by omega) rfl)) (ao (sQ (ao au) (ao au) ⟨by decide, by decide, by decide⟩)) Q.b)) (oM (vn (cP (dG (aE au (aE (sQ (ao au) (ao au) ⟨by decide, by decide, by decide⟩) bA)) (ay rfl)) (t2 := .lst ((Rl.map L3.D.int).map T.sh)) rfl)) (ao (mX (ao (v_ (j7 (i := 0) rfl Q.a))) (ao au) Q.b)) (Cy (bs := Rl) i0 (show (0 + (i : Int)) % 2 < 2 by omega))) hfv)) (ao au)) e7)) (ay rfl)) ?_⟩
   show T.sh _ = T.sh (T4 (T5 s (L3.D.int (0 + (i : Int))).NQ.toNat))
   rw [et, ei, show ((i : Int) % 2).toNat = i % 2 by omega]
   rfl
 case rest =>
 have em : ((f9 0 (m : Int).toNat).filter fun _ => true).map (fun d => T.sh (T4 (T5 s d.NQ.toNat))) = (((List.range m).map (T5 s)).map T4).map T.sh := by
   rw [ig]
   unfold f9
   rw [aie, aie, aie, aiz]
   refine aiX fun k _ => ?_
   show T.sh (T4 (T5 s (0 + (k : Int)).toNat)) = _
   rw [show (0 + (k : Int)).toNat = k by omega]
   rfl
 rw [em]
 refine bE E.g E.bD EX ?_
 have hrl : ∀ l : List cu, (T.lst ((l.map yP).map T.sh)).clean = true := fun l => dJ (bF Hg _)
 refine t9 E.g E.Hv (fun j δ => ∃ o5 o8, δ = [some (.sh (.lst (s.map .int))), some (.lst [.sh (.int q)]), some (.sh (.int m)), some (.sh (.int f)), some (.lst ((hs.map .str).map T.sh)), o5, some (.lst ((((List.range m).map (T5 s)).map T4).map T.sh)), some (.dct (E8 (Jt s m hs f j))), o8, none, none]) (qo E.iI (cC E.kP) Q.c E.iH) ⟨_, _, rfl⟩ (fun j δ ⟨_, _, e⟩ => by subst e; exact ahA rfl) ?turn ?fin
 case turn =>
   rintro j d δ hj ⟨o5, o8, rfl⟩
   obtain ⟨rfl, Um⟩ := EG hj
   have Um : j < f := by simpa using Um
   rw [ajo]
   refine t9 E.g E.V2 (fun i δ => ∃ o5, δ = [some (.sh (.lst (s.map .int))), some (.lst [.sh (.int q)]), some (.sh (.int m)), some (.sh (.int f)), some (.lst ((hs.map .str).map T.sh)), o5, some (.lst ((((List.range m).map (T5 s)).map T4).map T.sh)), some (.dct (E8 (Jt s m hs f j ++ Hi s m hs f j i))), some (.sh (.int (j : Nat))), none, none]) (qo E.iI (ao (ud (ahx ..) E.mH (vL E.cQ.1) E.mG)) Q.c E.iH) ⟨_, by rw [show Hi s m hs f j 0 = [] from rfl, ahJ]; rfl⟩ (fun j δ ⟨_, e⟩ => by subst e; exact ahA rfl) ?Fl ?fin2
   case Fl =>
     rintro i d δ hi ⟨o5, rfl⟩
     obtain ⟨rfl, rY⟩ := EG hi
     have rY : i < hs.length := by simpa using rY
     rw [ajo]
     have GQ : wF (hs.map L3.D.str) (i : Int) = some (.str (hs.getD i Str.empty)) := (yx Str.empty Q.c Q.c).trans (by rw [aiz])
     refine SV (My hs j i) E.u E.bD.1 (cP (c_ (ji s (4 + 2 * (j : Int) + (i : Int)), m, hs, f) E.YB E.Fo (aJ (ao (c_ ((s, 4 + 2 * (j : Int) + (i : Int))) E.rB E.lG (aJ (cC E.bQ) (aJ (ao (ql (ao (ql (ao au) (ao (Nx (ao au) (cC E.Hv) (.inl ⟨by decide, by decide⟩))))) (cC E.V2))) cU)) (show (0 : Int) <= 4 + 2 * (j : Int) + (i : Int) by omega) rfl)) (aJ (cC E.cG) (aJ (vL E.cQ.1) (aJ (cC E.kP) cU)))) (by dsimp only [qD]; exact ⟨pre, b2, by omega⟩) (hrl _)) (t2 := .lst (((dcR s m hs f j i).map yP).map T.sh)) rfl) (cP (oK (aE (v_ E.Hv.1) (aE (fk (oM (vL E.cQ.1) (cC E.V2) GQ) rfl) bA)) (ay rfl)) (t2 := pT (My hs j i)) rfl) rfl (Jv ZD rY) ?_ (aF ?_)
     . unfold E8
       rw [ahx, ahL, C3, Jw]
       have : j * hs.length <= 13 * 2 := Nat.mul_le_mul Q.c hl2
       omega
     have e : E8 (Jt s m hs f j ++ Hi s m hs f j i) ++ [(My hs j i, T.lst (((dcR s m hs f j i).map yP).map T.sh))] = E8 (Jt s m hs f j ++ Hi s m hs f j (i + 1)) := by
       unfold E8 Hi
       rw [aiT, ahD, ahD, ahD, ahD, ahv]
       rfl
     rw [e]
     exact ⟨_, rfl⟩
   case fin2 =>
     rintro δ ⟨o5, rfl⟩
     rw [show (f9 0 (hs.length : Int).toNat).length = hs.length by simp [f9], ← yS]
     exact aF ⟨_, _, rfl⟩
 case fin =>
   rintro δ ⟨o5, o8, rfl⟩
   rw [show (f9 0 (f : Int).toNat).length = f by simp [f9]]
   refine gM E.g E.xP (aec (d := .tup ((F5 m hs (ji s 3 % 10 ^ (60 : Int).toNat / 7)).map It.d)) (fun y => (y, ji s 3 % 10 ^ (60 : Int).toNat / 7, m, hs)) E.ux E.jJ (t0 := .lst [.sh (.int (ji s 3 % 10 ^ (60 : Int).toNat / 7))]) (dG (aE (Ja (ao (mX (ao (c_ ((s, 3)) E.rB E.lG (aJ (cC E.bQ) (aJ (ao au) cU)) (z3) rfl)) (ao (sQ (ao au) (ao au) ⟨by decide, by decide, by decide⟩)) Q.b)) (ao au) ⟨by decide, by decide⟩) bA) (ay rfl)) rfl (v_ E.cG.1) E.cQ.1 rfl (fun _ => pre) (fun _ => rfl) (bF oV _) (fun y => by rw [bX]; rfl)) ?_
   refine N6 (p := fun _ => true) (gg := fun d => T.sh (mh d.NQ.toNat)) E.g E.JD (lC .nil Q.a) (qo E.iI (cC E.kP) Q.c E.iH) (.inr rfl) (fun C s0 H0 f0 b' d hd => ?aez) (aiC (jl (by simp [f9]; omega))) ?abM (by exact ahA rfl) (yw ⟨_, rfl⟩)
   case aez =>
     obtain ⟨i, hi, rfl⟩ := ahS.mp hd
     refine ⟨rfl, fun _ => cP (cI (aW (cI (aW au (aW (ql (ao au) (ao (v_ (j7 (i := 0) rfl Q.a)))) e7)) (ay rfl)) (aW (cI (aW (yu (ao au)) (aW (Gw (ao (v_ (j7 (i := 0) rfl Q.a))) (ao au)) e7)) (ay rfl)) e7)) (ay rfl)) ?_⟩
     show T.sh _ = T.sh (mh (L3.D.int (0 + (i : Int))).NQ.toNat)
     rw [show (L3.D.int (0 + (i : Int))).NQ.toNat = i from (by show (0 + (i : Int)).toNat = i; omega), ajo]
     rfl
   case abM =>
   have em3 : ((f9 0 (f : Int).toNat).filter fun _ => true).map (fun d => T.sh (mh d.NQ.toNat)) = ((List.range f).map mh).map T.sh := by
     rw [ig]
     unfold f9
     rw [aie, aie, aiz]
     refine aiX fun k _ => ?_
     show T.sh (mh (0 + (k : Int)).toNat) = _
     rw [show (0 + (k : Int)).toNat = k by omega]
     rfl
   rw [em3]
   exact cO (dG (aE (vM E.bG.1) (aE (vM E.cQ.1) (aE (v_ E.xP.1) (aE (vM E.JD.1) (aE (vM E.bD.1) bA))))) (ay rfl)) rfl
theorem bU : qa (ak uy) ([("script", .cell), ("pot", aA), ("many", aA), ("flats", aA), ("heard", aA), ("k", aA), ("boxes", aA), ("rows", aA), ("flat", aA), ("begin", aA), ("pairs", aA), ("_law_cell_at", aK), ("_law_take", aK), ("range", aK), ("len", aK), ("_law_rows", aK), ("_law_script", aK)]) = true := Q.j
theorem Lr : aP ["script", "pot", "many", "flats", "heard", "k", "boxes", "rows", "flat", "begin", "pairs"] ["script"] (ak uy) := bz
abbrev kQ : Stmt := inClass (top 22) 0
abbrev pq : Type := List L3.D × List L3.D × List L3.D × List L3.D × (List (bP × List L3.D))
def qF : pq -> List L3.D := fun (bs, hs, bg, pr, kvs) => [.lst bs, .lst hs, .tup bg, .lst pr, .dct (dM kvs)]
def qG : pq -> Prop := fun (bs, hs, bg, pr, kvs) => D.bJ bs = true /\ D.bJ hs = true /\ D.bJ pr = true /\ (∀ q ∈ kvs, D.bJ q.2 = true) /\ (kvs.map (·.1)).Nodup /\ kvs.length <= 1000
def qH : pq -> List (Str × T) := fun (bs, hs, bg, pr, kvs) => (Hj bs hs bg pr kvs : List (Str × T))
structure Dh (X : Cx) (CL : Q.e) : Prop extends dg X where
 aT : Ln X 0 "self"
 bG : Ln X 1 "boxes"
 Uo : Ln X 2 "signs"
 xP : Ln X 3 "begin"
 kP : Ln X 4 "flats"
 bD : Ln X 5 "rows"
 P8 : Ln X 6 "key"
 cB : Gl X "list"
 uq : Gl X "tuple"
 cj : X.mg "list" = none
 ur : X.mg "tuple" = none
 az : j5 X.K (CL "FlatRun")
 bB : j5 X.K (CL "Table")
 aQ : aG X.K (CL "FlatRun") "boxes"
 bL : aG X.K (CL "Table") "boxes"
 fK : aG X.K (CL "Table") "signs"
 m7 : aG X.K (CL "Table") "begin"
 fL : aG X.K (CL "Table") "flats"
 fq : aG X.K (CL "Table") "rows"
theorem Di (E : Dh X CL) (bs hs bg pr : List L3.D) (kvs : List (bP × List L3.D)) (y : Addr) (h : D.bJ bs = true /\ D.bJ hs = true /\ D.bJ pr = true /\ (∀ q ∈ kvs, D.bJ q.2 = true) /\ (kvs.map (·.1)).Nodup /\ kvs.length <= 1000) :
   cH X CL b (b9 kQ) (NW ["self", "boxes", "signs", "begin", "flats", "rows", "key"] y "Table" [.lst bs, .lst hs, .tup bg, .lst pr, .dct (dM kvs)]) { nx := fun δ => δ[0]? = some (some (.pin y (.ins "Table" (Hj bs hs bg pr kvs)))), rt := fun _ _ => False } := by
 obtain ⟨h1, h2, h3, h4, h5, h6⟩ := h
 refine nO E.bB E.bL E.aT.1 (eZ E.cj (cC E.bG) h1 E.cB bu) rfl (ahA rfl) ?_
 rw [qu]
 refine nO E.bB E.fK E.aT.1 (eZ E.cj (cC E.Uo) h2 E.cB bu) rfl (ahA rfl) ?_
 rw [aO Q.a, qu]
 refine nO E.bB E.m7 E.aT.1 (K4 E.ur (v_ E.xP.1) E.uq) rfl (ahA rfl) ?_
 rw [aO Q.a, aO Q.a, qu]
 refine nO E.bB E.fL E.aT.1 (eZ E.cj (cC E.kP) h3 E.cB bu) rfl (ahA rfl) ?_
 rw [aO Q.a, aO Q.a, aO Q.a, qu]
 refine nO E.bB E.fq E.aT.1 EX rfl (ahA rfl) ?_
 rw [aO Q.a, aO Q.a, aO Q.a, aO Q.a, qu]
 refine Tw E.g E.P8 (fun j δ => ∃ o, δ = [some (.pin y (.ins "Table" (r6 bs hs bg pr (.dct (jj (kvs.take j)))))), some (.sh (.lst bs)), some (.sh (.lst hs)), some (.sh (.tup bg)), some (.sh (.lst pr)), some (.sh (.dct (dM kvs))), o]) (v_ E.bD.1) ⟨_, rfl⟩ (fun j δ ⟨_, e⟩ => by subst e; exact ahA rfl) ?turn ?fin
 case turn =>
   rintro b' j k d δ hj ⟨o, rfl⟩
   have hj0 := hj
   unfold dM at hj
   rw [ahW] at hj
   obtain ⟨q, hq, e⟩ := aif.mp hj
   cases e
   have hqm := aih hq
   have Um : j < kvs.length := (aii.mp hq).1
   have hv : kO (dM kvs) q.1 = some (.lst q.2) := T9 (by rw [Hl]; exact h5) hj0
   have hn : q.1 ∉ (jj (kvs.take j)).map (·.1) := fun hm => by
     rw [Ho, List.map_take] at hm
     obtain ⟨i, hi, e⟩ := List.getElem_of_mem hm
     rw [aio] at hi
     rw [List.getElem_take] at e
     have ZE : i < (kvs.map (·.1)).length := by omega
     have := (List.getElem?_inj ZE h5).mp (show (kvs.map (·.1))[i]? = (kvs.map (·.1))[j]? by
       rw [ahQ ZE, e, ahW, hq]
       rfl)
     omega
   refine TF q.1 E.u (eZ E.cj (Oc q.1 E.u (cC E.bD) (Jm E.P8.1 rfl) hv) (h4 q hqm) E.cB bu) (yJ E.bB E.fq (bO E.aT.1 rfl) rfl rfl vv) (Jm E.P8.1 rfl) rfl (kvs := jj (kvs.take j)) (by show (List.lookup ("rows" : Str) (r6 bs hs bg pr (.dct (jj (kvs.take j))))).bind _ = _; rw [vv]; rfl) hn (by unfold jj; rw [ahx, aio]; omega) (aF ⟨some (pT q.1), ?_⟩)
   have e : T.j9 [.fld "rows"] (.dct (jj (kvs.take j) ++ [(q.1, .lst (q.2.map T.sh))])) (.pin y (.ins "Table" (r6 bs hs bg pr (.dct (jj (kvs.take j)))))) = .pin y (.ins "Table" (r6 bs hs bg pr (.dct (jj (kvs.take (j + 1)))))) := by
     have et : jj (kvs.take j) ++ [(q.1, T.lst (q.2.map T.sh))] = jj (kvs.take (j + 1)) := by
       unfold jj
       rw [aiV, hq, ahD]
       rfl
     rw [et]
     exact Le
   show [some (T.j9 [.fld "rows"] _ _), _, _, _, _, _, _] = _
   rw [e]
 case fin =>
   rintro δ ⟨o, rfl⟩
   rw [show (dM kvs).length = kvs.length by unfold dM; rw [ahx], aiv]
   exact aF rfl
theorem cR : qa (ak kQ) ([("self", aA), ("boxes", aA), ("signs", aA), ("begin", aA), ("flats", aA), ("rows", aA), ("key", aA), ("list", aK), ("tuple", aK)]) = true := Q.j
theorem sA : aP ["self", "boxes", "signs", "begin", "flats", "rows", "key"] ["self", "boxes", "signs", "begin", "flats", "rows"] (ak kQ) := bz
abbrev xQ : Stmt := top 31
abbrev Dj : Type := List Int
def rC : Dj -> List L3.D := fun s => [.lst (s.map .int)]
def rD : Dj -> Prop := fun s => s.length <= 1000
def rE : Dj -> T := fun s => (.ins "Table" (Hj ((Hh s).map qd) ((yR s).map .str) ((Ld s).map It.d) ((List.range (Ay s)).map mh) (jg (Mz s))) : T)
structure Up (X : Cx) (CL : Q.e) : Prop extends dg X where
 bQ : Ln X 0 "script"
 kh : Ln X 1 "part"
 AO : Gl X "_law_pieces"
 Uq : Gl X "Table"
 P9 : Fc X CL "_law_pieces" 6 1 oY oZ pe
 Ur : Fm X CL "Table" 1 6 qF qG qH
theorem Us (E : Up X CL) {s} (h : rD s) :
   aN X CL b xQ ["script", "part"] (rC s) (rE s) := by
 dsimp only [aN, rD, rC, rE] at h ⊢
 have Ul : s.length <= 1000 := h
 have hG := PN s
 have ib : D.bJ ((Hh s).map qd) = true := bF (fun _ => rfl) _
 have ip : D.bJ ((List.range (Ay s)).map mh) = true := bF (fun _ => rfl) _
 have ix : D.bJ ((Ld s).map It.d) = true := bF oV _
 refine bE E.g E.kh (cP (c_ s E.P9 E.AO (aJ (cC E.bQ) cU) Ul (by show (Jx s).clean = true; rw [PR]; exact Li _ _)) (t2 := ptU s (Mz s)) (PR s)) ?_
 refine cO (cP (mk_ ((Hh s).map qd, (yR s).map .str, (Ld s).map It.d, (List.range (Ay s)).map mh, jg (Mz s)) E.Ur E.Uq
   (aJ (oU (p := [.ix 0]) (u := .lst (((Hh s).map qd).map T.sh)) (jt (j := 0) (bO E.kh.1 rfl) rfl rfl (ao au) rfl) rfl rfl (bX _))
   (aJ (oU (p := [.ix 1]) (u := .lst (((yR s).map .str).map T.sh)) (jt (j := 1) (bO E.kh.1 rfl) rfl rfl (ao au) rfl) rfl rfl (bX _))
   (aJ (ao (oS (p := [.ix 2]) (d := .tup ((Ld s).map It.d)) (jt (j := 2) (bO E.kh.1 rfl) rfl rfl (ao au) rfl) rfl rfl))
   (aJ (oU (p := [.ix 3]) (u := .lst (((List.range (Ay s)).map mh).map T.sh)) (jt (j := 3) (bO E.kh.1 rfl) rfl rfl (ao au) rfl) rfl rfl (bX _))
   (aJ (oU (p := [.ix 4]) (u := .dct (E8 (Mz s))) (d := .dct (dM (jg (Mz s)))) (jt (j := 4) (bO E.kh.1 rfl) rfl rfl (ao au) rfl) rfl rfl (by rw [Uc, C5])) cU)))))
   (by exact ⟨ib, nP _, ip, C6, by rw [PV]; exact hG.c, by unfold jg; rw [ahx]; have := hG.d; omega⟩) (yT ib (nP _) ix ip C6)) rfl) rfl
theorem uz : qa (ak xQ) ([("script", aA), ("part", aA), ("_law_pieces", aK), ("Table", aK)]) = true := Q.j
theorem Qa : aP ["script", "part"] ["script"] (ak xQ) := bz
abbrev gY : Stmt := inClass (top 20) 2
abbrev gZ : Type := List L3.D × List L3.D × List L3.D × Nat × (List (bP × List L3.D)) × Nat × List L3.D × List Int × (List (Str × L3.D))
def fW : gZ -> List L3.D := fun (bx, hs, bg, n, kv, a, pa, bs, ex) => [.ins "FlatRun" (iw (eN bx hs bg ((List.range n).map mh) kv) (.int a) pa bs ex)]
def fX : gZ -> Prop := fun (bx, hs, bg, n, kv, a, pa, bs, ex) => a < n
def fY : gZ -> T := fun (bx, hs, bg, n, kv, a, pa, bs, ex) => (.lst (([0, 1 + (a : Int)].map L3.D.int).map T.sh) : T)
structure w9 (X : Cx) (CL : Q.e) : Prop extends dg X where
 aT : Ln X 0 "self"
 cB : Gl X "list"
 cj : X.mg "list" = none
 az : j5 X.K (CL "FlatRun")
 bB : j5 X.K (CL "Table")
 fL : aG X.K (CL "Table") "flats"
 aR : aG X.K (CL "FlatRun") "place"
 dQ : aG X.K (CL "FlatRun") "table"
theorem xg (E : w9 X CL) {dN : gZ} (h : fX dN) :
   aN X CL b gY ["self"] (fW dN) (fY dN) := by
 obtain ⟨bx, hs, bg, n, kv, a, pa, bs, ex⟩ := dN
 dsimp only [aN, fX, fW, fY] at h ⊢
 have h : a < n := h
 have GQ : wF ((List.range n).map mh) (a : Int) = some (mh a) := fS (by rw [ahW, List.getElem?_range h]; rfl)
 exact cO (cP (Ku E.cj (yo (fk (oM (jq E.bB E.fL (jq E.az E.dQ (cC E.aT) vz) qA) (jq E.az E.aR (cC E.aT) nU) GQ) rfl) (ao au) (fS (j := 0) rfl)) E.cB bu) (t2 := .lst (([0, 1 + (a : Int)].map L3.D.int).map T.sh)) rfl) rfl
theorem n5 : qa (ak gY) ([("self", aA), ("list", aK)]) = true := Q.j
theorem n9 : aP ["self"] ["self"] (ak gY) := bz
abbrev gy : Stmt := inClass (top 18) 7
abbrev gA : Type := L3.D × L3.D × List L3.D × List Int × (List (Str × L3.D))
def fu : gA -> List L3.D := fun (cd, pl, pa, bs, ex) => [.ins "FlatRun" (iw cd pl pa bs ex)]
def fz : gA -> Prop := fun (cd, pl, pa, bs, ex) => True
def fB : gA -> T := fun (cd, pl, pa, bs, ex) => (.lst ((bs.map .int).map T.sh) : T)
structure vJ (X : Cx) (CL : Q.e) : Prop extends dg X where
 aT : Ln X 0 "self"
 cB : Gl X "list"
 cj : X.mg "list" = none
 az : j5 X.K (CL "FlatRun")
 bB : j5 X.K (CL "Table")
 aQ : aG X.K (CL "FlatRun") "boxes"
 bL : aG X.K (CL "Table") "boxes"
theorem vK (E : vJ X CL) {dN : gA} (h : fz dN) :
   aN X CL b gy ["self"] (fu dN) (fB dN) := by
 obtain ⟨cd, pl, pa, bs, ex⟩ := dN
 dsimp only [aN, fz, fu, fB] at h ⊢
 exact cO (nL E.cj (gK E.az E.aQ (v_ E.aT.1) vA) E.cB bu) rfl
theorem mJ : qa (ak gy) ([("self", aA), ("list", aK)]) = true := Q.j
theorem mK : aP ["self"] ["self"] (ak gy) := bz
def jX (l : List (Nat × List Int × List L3.D)) : List L3.D := l.map fun q => .tup [.int (q.1 : Nat), .lst (q.2.1.map .int), .lst q.2.2]
def iJ (r : List L3.D) (l : List (Nat × List Int × List L3.D)) : List L3.D := r ++ l.flatMap (·.2.2)
abbrev iK : Stmt := inClass (top 18) 6
abbrev iL : Type := L3.D × L3.D × (List (Nat × List Int × List L3.D)) × List Int × List L3.D
def gB : iL -> List L3.D := fun (cd, pl, l, bs, r) => [.ins "FlatRun" (iw cd pl (jX l) bs (AJ (some r)))]
def e9 : iL -> Prop := fun (cd, pl, l, bs, r) => D.bJ r = true /\ r.length <= 1000 /\ l.length <= 1000 /\ ∀ q ∈ l, q.2.2.length <= 200 /\ D.bJ q.2.2 = true
def gC : iL -> T := fun (cd, pl, l, bs, r) => (.lst ((iJ r l).map T.sh) : T)
structure zj (X : Cx) (CL : Q.e) : Prop extends dg X where
 aT : Ln X 0 "self"
 bD : Ln X 1 "rows"
 eO : Ln X 2 "step"
 cB : Gl X "list"
 cj : X.mg "list" = none
 az : j5 X.K (CL "FlatRun")
 bK : aG X.K (CL "FlatRun") "past"
 gf : aG X.K (CL "FlatRun") "first_rows"
theorem zk (E : zj X CL) {dN : iL} (h : e9 dN) :
   aN X CL b iK ["self", "rows", "step"] (gB dN) (gC dN) := by
 obtain ⟨cd, pl, l, bs, r⟩ := dN
 dsimp only [aN, e9, gB, gC] at h ⊢
 obtain ⟨hr, hrl, hl, hq⟩ := h
 refine bE E.g E.bD (nL E.cj (gK E.az E.gf (v_ E.aT.1) Lj) E.cB bu) ?_
 have hlen : ∀ j, (iJ r (l.take j)).length <= r.length + 200 * j := fun j => by
   unfold iJ
   rw [ahL]
   have : ∀ l : List (Nat × List Int × List L3.D), (∀ q ∈ l, q.2.2.length <= 200) -> (l.flatMap (·.2.2)).length <= 200 * l.length := by
     intro l
     induction l with
     | nil => intro _; exact ah8 _
     | cons q l ih =>
       intro h
       rw [List.flatMap_cons, ahL, ahY]
       have h1 := h q ahw
       have h2 := ih fun p hp => h p (ahz _ hp)
       omega
   have h1 := this (l.take j) fun q hm => (hq q (ajr hm)).1
   have h2 : (l.take j).length <= j := by rw [aio]; omega
   omega
 refine t9 E.g E.eO (fun j δ => ∃ o, δ = [some (.sh (.ins "FlatRun" (iw cd pl (jX l) bs (AJ (some r))))), some (.lst ((iJ r (l.take j)).map T.sh)), o])
   (qm (gK E.az E.bK (v_ E.aT.1) ug)) ⟨none, by rw [List.take_zero]; unfold iJ; rw [List.flatMap_nil, ahJ]; rfl⟩ (fun j δ ⟨_, e⟩ => by subst e; exact ahA rfl) ?turn ?fin
 case turn =>
   rintro j d δ hj ⟨o, rfl⟩
   unfold jX at hj
   obtain ⟨q, rfl, _, hqm, Um, _, Zx⟩ := N4 hj
   obtain ⟨q1, q2⟩ := hq q hqm
   have hjn := hlen j
   refine Ti (bO E.bD.1 rfl) rfl rfl (cL (cC E.eO) (ao au) (fS (j := 2) rfl)) q2 rfl rfl (by rw [ahx]; omega) (aF ⟨some (.sh (.tup [.int (q.1 : Nat), .lst (q.2.1.map .int), .lst q.2.2])), ?_⟩)
   rw [Zx]
   unfold iJ
   rw [List.flatMap_append, List.flatMap_cons, List.flatMap_nil, ahJ, ← ahv, ahD (l₂ := q.2.2)]
   rfl
 case fin =>
   rintro δ ⟨o, rfl⟩
   have e : (jX l).length = l.length := ahx ..
   rw [e, aiv]
   exact cO (vM E.bD.1) rfl
theorem g4 : qa (ak iK) ([("self", aA), ("rows", aA), ("step", aA), ("list", aK)]) = true := Q.j
theorem pU : aP ["self", "rows", "step"] ["self"] (ak iK) := bz
abbrev iM : Stmt := inClass (top 20) 3
abbrev iN : Type := L3.D × Nat × List L3.D × List Int × (List (Str × L3.D))
def gD : iN -> List L3.D := fun (cd, a, pa, bs, ex) => [.ins "FlatRun" (iw cd (.int a) pa bs ex)]
def gE : iN -> Prop := fun (cd, a, pa, bs, ex) => True
def gF : iN -> T := fun (cd, a, pa, bs, ex) => (.sh (.int a) : T)
structure zl (X : Cx) (CL : Q.e) : Prop extends dg X where
 aT : Ln X 0 "self"
 az : j5 X.K (CL "FlatRun")
 aR : aG X.K (CL "FlatRun") "place"
theorem zm (E : zl X CL) {dN : iN} (h : gE dN) :
   aN X CL b iM ["self"] (gD dN) (gF dN) := by
 obtain ⟨cd, a, pa, bs, ex⟩ := dN
 dsimp only [aN, gE, gD, gF] at h ⊢
 exact cO (gK E.az E.aR (v_ E.aT.1) nU) rfl
theorem xh : qa (ak iM) ([("self", aA)]) = true := Q.j
theorem pV : aP ["self"] ["self"] (ak iM) := bz
abbrev kR : Stmt := inClass (top 18) 5
abbrev kT : Type := L3.D × L3.D × List L3.D × List Int × (List (Str × L3.D))
def iO : kT -> List L3.D := fun (cd, pl, pa, bs, ex) => [.ins "FlatRun" (iw cd pl pa bs ex)]
def iP : kT -> Prop := fun (cd, pl, pa, bs, ex) => True
def iQ : kT -> T := fun (cd, pl, pa, bs, ex) => (.sh (.int ((pa.length : Nat) : Int)) : T)
structure Dl (X : Cx) (CL : Q.e) : Prop extends dg X where
 aT : Ln X 0 "self"
 mG : Gl X "len"
 mH : X.mg "len" = none
 az : j5 X.K (CL "FlatRun")
 bK : aG X.K (CL "FlatRun") "past"
theorem Dm (E : Dl X CL) {dN : kT} (h : iP dN) :
   aN X CL b kR ["self"] (iO dN) (iQ dN) := by
 obtain ⟨cd, pl, pa, bs, ex⟩ := dN
 dsimp only [aN, iP, iO, iQ] at h ⊢
 exact cO (xC E.mH (jq E.az E.bK (cC E.aT) ug) E.mG) rfl
theorem sC : qa (ak kR) ([("self", aA), ("len", aK)]) = true := Q.j
theorem sE : aP ["self"] ["self"] (ak kR) := bz
def BW (a : Nat) (l : List Ff) (bs : List Int) (r : List L3.D) : T := .tup [.sh (.int a), .lst (([0, 1 + (a : Int)].map L3.D.int).map T.sh), .lst ((bs.map .int).map T.sh), .lst ((iJ r l).map T.sh), .sh (.int ((l.length : Nat) : Int))]
def Fp (a : Nat) (l : List Ff) (bs : List Int) (r : List L3.D) : L3.D := .tup [.int a, .lst ([0, 1 + (a : Int)].map .int), .lst (bs.map .int), .lst (iJ r l), .int ((l.length : Nat) : Int)]
theorem Qc (a : Nat) (l : List Ff) (bs : List Int) (r : List L3.D) : T.aZ (BW a l bs r) = Fp a l bs r := by
 unfold BW Fp
 rw [T.aZ, T.c5, T.c5, T.c5, T.c5, T.c5, T.c5, T.aZ, bX, bX, bX, T.aZ]
theorem Ls (l : List Ff) : (jX l).length = l.length := by unfold jX; rw [ahx]
variable {l : List Ff}
theorem Lv (h : ∀ q ∈ l, q.2.2.length <= 200) : (iJ r l).length <= r.length + 200 * l.length := by
 unfold iJ
 rw [ahL]
 induction l with
 | nil => exact ahG _
 | cons q l ih =>
   rw [List.flatMap_cons, ahL, ahY]
   have h1 := h q ahw
   have h2 := ih fun p hp => h p (ahz _ hp)
   omega
theorem vN {P : L3.D -> Prop} (h0 : ∀ d ∈ r, P d) (h : ∀ q ∈ l, ∀ d ∈ q.2.2, P d) : ∀ d ∈ iJ r l, P d := fun d hd => by
 rcases ahB.mp hd with z | z
 . exact h0 d z
 . obtain ⟨q, hq, z⟩ := ajs.mp z
   exact h q hq d z
abbrev Dn : Stmt := top 32
abbrev Dp : Type := List L3.D × List L3.D × List L3.D × Nat × (List (bP × List L3.D)) × Nat × List Ff × List Int × List L3.D
def uA : Dp -> List L3.D := fun (bx, hs, bg, n, kv, a, l, bs, r) => [.ins "FlatRun" (iw (eN bx hs bg ((List.range n).map mh) kv) (.int a) (jX l) bs (AJ (some r)))]
def qI : Dp -> Prop := fun (bx, hs, bg, n, kv, a, l, bs, r) => a < n /\ bs.length <= 100 /\ (D.bJ r = true /\ r.length <= 1000) /\ l.length <= 1000 /\ ∀ q ∈ l, q.2.2.length <= 200 /\ D.bJ q.2.2 = true
def uB : Dp -> T := fun (bx, hs, bg, n, kv, a, l, bs, r) => (BW a l bs r : T)
structure YC (X : Cx) (CL : Q.e) : Prop extends dg X where
 kI : Ln X 0 "run"
 sZ : Ln X 1 "some"
 Dq : Ln X 2 "look"
 cB : Gl X "list"
 cj : X.mg "list" = none
 xj : Fq X CL "FlatRun" "moods" 1 1 fW fX fY
 vO : Fq X CL "FlatRun" "numbers" 1 1 fu fz fB
 zo : Fq X CL "FlatRun" "story" 1 1 gB e9 gC
 zq : Fq X CL "FlatRun" "flat" 1 1 gD gE gF
 Dr : Fq X CL "FlatRun" "fed" 1 1 iO iP iQ
theorem YD (E : YC X CL) {dN : Dp} (h : qI dN) :
   aN X CL b Dn ["run", "some", "look"] (uA dN) (uB dN) := by
 obtain ⟨bx, hs, bg, n, kv, a, l, bs, r⟩ := dN
 dsimp only [aN, qI, uA, uB] at h ⊢
 obtain ⟨ha, Ut, ⟨hri, hrl⟩, Ro, hq⟩ := h
 have hsl := Lv (r := r) fun q h => (hq q h).1
 have hsi : D.bJ (iJ r l) = true := oN (vN (P := fun d => d.mq = true) (gb hri) fun q h => gb (hq q h).2)
 have Qd : ∀ {m : Str}, (m == ("table" : Str)) = false -> (m == ("place" : Str)) = false -> (m == ("past" : Str)) = false -> (m == ("boxes" : Str)) = false -> (m == ("first_rows" : Str)) = false -> List.lookup m (iw (eN bx hs bg ((List.range n).map mh) kv) (.int a) (jX l) bs (AJ (some r))) = none := fun h1 h2 h3 h4 h5 => Hq h1 h2 h3 h4 h5
 refine bE E.g E.sZ (dG (tl := [.lst (([0, 1 + (a : Int)].map L3.D.int).map T.sh), .lst ((bs.map .int).map T.sh), .lst ((iJ r l).map T.sh)]) (aE (cP (q0_ (bx, hs, bg, n, kv, a, jX l, bs, AJ (some r)) E.xj (cC E.kI) (Qd Q.a Q.a Q.a Q.a Q.a) rfl ha (jv _)) rfl) (aE (cP (q0_ (eN bx hs bg ((List.range n).map mh) kv, .int a, jX l, bs, AJ (some r)) E.vO (cC E.kI) (Qd Q.a Q.a Q.a Q.a Q.a) rfl trivial (jv _)) rfl) (aE (cP (q0_ (eN bx hs bg ((List.range n).map mh) kv, .int a, l, bs, r) E.zo (cC E.kI) (Qd Q.a Q.a Q.a Q.a Q.a) rfl (by dsimp only [e9]; exact ⟨hri, hrl, Ro, hq⟩) (dJ hsi)) rfl) bA))) (ay rfl)) ?_
 refine bE E.g E.Dq (cP (oK (aE (cP (q0_ (eN bx hs bg ((List.range n).map mh) kv, a, jX l, bs, AJ (some r)) E.zq (cC E.kI) (Qd Q.a Q.a Q.a Q.a Q.a) rfl trivial rfl) (t2 := .sh (.int a)) rfl) (aE (eZ E.cj (oU (p := [.ix 0]) (u := .lst (([0, 1 + (a : Int)].map L3.D.int).map T.sh)) (jt (j := 0) (bO E.sZ.1 rfl) rfl rfl (ao au) rfl) rfl rfl (bX _)) rfl E.cB bu) (aE (eZ E.cj (oU (p := [.ix 1]) (u := .lst ((bs.map .int).map T.sh)) (jt (j := 1) (bO E.sZ.1 rfl) rfl rfl (ao au) rfl) rfl rfl (bX _)) (lD _) E.cB bu) (aE (eZ E.cj (oU (p := [.ix 2]) (u := .lst ((iJ r l).map T.sh)) (jt (j := 2) (bO E.sZ.1 rfl) rfl rfl (ao au) rfl) rfl rfl (bX _)) hsi E.cB bu) (aE (cP (q0_ (eN bx hs bg ((List.range n).map mh) kv, .int a, jX l, bs, AJ (some r)) E.Dr (cC E.kI) (Qd Q.a Q.a Q.a Q.a Q.a) rfl trivial rfl) (t2 := .sh (.int ((l.length : Nat) : Int))) (by show T.sh (.int (((jX l).length : Nat) : Int)) = _; rw [Ls])) bA))))) (ay rfl)) (t2 := BW a l bs r) rfl) ?_
 refine CT (p := [.ix 0]) (jt (j := 0) (bO E.sZ.1 rfl) rfl rfl (ao au) rfl) rfl rfl au rfl rfl (ahA rfl) ?_
 refine CT (p := [.ix 1]) (jt (j := 1) (bO E.sZ.1 rfl) rfl rfl (ao au) rfl) rfl rfl au rfl rfl (by rw [ahx, ahx]; omega) ?_
 refine CT (p := [.ix 2]) (jt (j := 2) (bO E.sZ.1 rfl) rfl rfl (ao au) rfl) rfl rfl (cI (ds := [.str "in", .int 99]) (aW bW (aW au e7)) (ay rfl)) rfl rfl (by rw [ahx]; omega) ?_
 exact cO (vM E.Dq.1) rfl
theorem xR : qa (ak Dn) ([("run", aA), ("some", aA), ("look", aA), ("list", aK)]) = true := Q.j
theorem Uu : aP ["run", "some", "look"] ["run"] (ak Dn) := bz
def ZK (s : List Int) (st mo : Nat) : List Int := (List.range (min mo (s.length - st))).map fun (k : Nat) => (jh s (some ((st : Int) + (k : Int))) none (some (mo : Int))).sum
theorem Uv (s : List Int) (st mo : Nat) : (ZK s st mo).length <= s.length := by unfold ZK; simp; omega
abbrev xS : Stmt := top 34
abbrev xT : Type := List Int × Nat × Nat
def rG : xT -> List L3.D := fun (s, st, mo) => [.lst (s.map .int), .int st, .int mo]
def oh : xT -> Prop := fun (s, st, mo) => s.length <= 63 /\ 0 < mo /\ mo <= 100 /\ st <= 100
def rH : xT -> T := fun (s, st, mo) => (.lst (((ZK s st mo).map .int).map T.sh) : T)
structure Uw (X : Cx) (CL : Q.e) : Prop extends dg X where
 bQ : Ln X 0 "script"
 qE : X.env.kindOf "script" = some .cell
 JF : Ln X 1 "start"
 Ux : X.env.kindOf "start" = some .cell
 Qe : Ln X 2 "most"
 YF : X.env.kindOf "most" = some .cell
 cG : Ln X 3 "many"
 abO : Gl X "min"
 abP : Gl X "max"
 mG : Gl X "len"
 iH : Gl X "range"
 abQ : X.mg "min" = none
 abR : X.mg "max" = none
 mH : X.mg "len" = none
 iI : X.mg "range" = none
 abS : X.mg "sum" = none
theorem Uy (E : Uw X CL) {dN : xT} (h : oh dN) :
   aN X CL b xS ["script", "start", "most", "many"] (rG dN) (rH dN) := by
 obtain ⟨s, st, mo⟩ := dN
 dsimp only [aN, oh, rG, rH] at h ⊢
 obtain ⟨hs, hm0, hm1, kG⟩ := h
 refine bE E.g E.cG (cP (Ss E.g E.abQ E.abO (aJ (cC E.Qe) (aJ (ao (Sv E.g E.abR E.abP (aJ (ao au) (aJ (ao (Gw (ao (ud (ahx ..) E.mH (cC E.bQ) E.mG)) (cC E.JF))) cU)))) cU))) (t2 := .sh (.int ((min mo (s.length - st) : Nat) : Int))) (by
   refine congrArg (fun z : Int => T.sh (.int z)) ?_
   repeat split
   all_goals omega)) ?_
 refine cO (cP (Ji (p := fun _ => true) (g := fun d => T.sh (.int (jh s (some ((st : Int) + (d.NQ.toNat : Int))) none (some (mo : Int))).sum)) (lC (.cons E.Qe.1 (.inl E.YF) (.cons E.bQ.1 (.inl E.qE) (.cons E.JF.1 (.inl E.Ux) .nil))) Q.a) E.g.calm (qo E.iI (cC E.cG) Q.c E.iH) (.inr rfl) (fun C s0 H0 f0 b' d hd => ?Yw) (aiC (jl (by simp [f9]; omega)))) (t2 := .lst (((ZK s st mo).map .int).map T.sh)) ?eq) rfl
 case Yw =>
   obtain ⟨i, hi, rfl⟩ := ahS.mp hd
   have et : (L3.D.int (0 + (i : Int))).NQ.toNat = i := by show (0 + (i : Int)).toNat = i; omega
   refine ⟨rfl, fun _ => cP (SD (l := jh s (some ((st : Int) + (0 + (i : Int)))) none (some (mo : Int))) (R9 E.g Q.a) (by exact E.abS) (vn (cP (K0 (ao (v_ (sR (i := 2) rfl Q.a))) (lD _) (Jd (ao (ql (ao (v_ (sR (i := 3) rfl Q.a))) (ao (v_ (j7 (i := 0) rfl Q.a)))))) Sf (Jd (ao (v_ (sR (i := 1) rfl Q.a)))) (fun z => by have := ahP z; omega)) (t2 := .lst (((jh s (some ((st : Int) + (0 + (i : Int)))) none (some (mo : Int))).map .int).map T.sh)) (by rw [Oz]))) (ua Q.a)) ?_⟩
   show T.sh _ = T.sh (.int (jh s (some ((st : Int) + ((L3.D.int (0 + (i : Int))).NQ.toNat : Int))) none (some (mo : Int))).sum)
   rw [et, ajo]
 case eq =>
   rw [ig]
   unfold f9 ZK
   rw [aie, aie, aie, aiz]
   congr 1
   refine aiX fun k _ => ?_
   show T.sh (.int (jh s (some ((st : Int) + ((0 + (k : Int)).toNat : Int))) none (some (mo : Int))).sum) = _
   rw [show (0 + (k : Int)).toNat = k by omega]
   rfl
theorem gi : qa (ak xS) ([("script", .cell), ("start", .cell), ("most", .cell), ("many", aA), ("min", aK), ("max", aK), ("len", aK), ("range", aK)]) = true := Q.j
theorem Qf : aP ["script", "start", "most", "many"] ["script", "start", "most"] (ak xS) := bz
abbrev gS : Stmt := inClass (top 18) 4
abbrev jK : Type := Addr × L3.D × L3.D × List Ff × Ff × List Int × Option (List L3.D)
def dR : jK -> List T := fun (y, cd, pl, l, q, bs, eo) => [.pin y (.ins "FlatRun" (b8 cd pl (dw (l ++ [q])) bs (nT eo)))]
def cZ : jK -> List T := fun (y, cd, pl, l, q, bs, eo) => [.pin y (.ins "FlatRun" (b8 cd (.int (q.1 : Nat)) (dw l) q.2.1 (nT eo)))]
def fD : jK -> Prop := fun (y, cd, pl, l, q, bs, eo) => l.length <= 1000
def dS : jK -> T := fun (y, cd, pl, l, q, bs, eo) => (.lst (q.2.2.map T.sh) : T)
structure sF (X : Cx) (CL : Q.e) : Prop extends dg X where
 aT : Ln X 0 "self"
 Ds : Ln X 1 "last"
 mG : Gl X "len"
 zu : Gl X "NoStep"
 mH : X.mg "len" = none
 vP : X.mg "NoStep" = some (.ref (CL "NoStep"))
 BX : yI X.K (CL "NoStep")
 az : j5 X.K (CL "FlatRun")
 bB : j5 X.K (CL "Table")
 aR : aG X.K (CL "FlatRun") "place"
 aQ : aG X.K (CL "FlatRun") "boxes"
 bL : aG X.K (CL "Table") "boxes"
 bK : aG X.K (CL "FlatRun") "past"
theorem AQ (E : sF X CL) (y cd pl l q bs eo) (h : fD (y, cd, pl, l, q, bs, eo)) :
   cH X CL b (b9 gS) (mY ["self", "last"] (dR (y, cd, pl, l, q, bs, eo))) { nx := fun δ => dS (y, cd, pl, l, q, bs, eo) = .sh .non /\ Keeps δ (cZ (y, cd, pl, l, q, bs, eo)), rt := fun EW δ => EW = dS (y, cd, pl, l, q, bs, eo) /\ Keeps δ (cZ (y, cd, pl, l, q, bs, eo)) } := by
 dsimp only [fD, dR, dS, cZ] at h ⊢
 have hl : l.length <= 1000 := h
 have hpl : (dw (l ++ [q])).length = l.length + 1 := by unfold dw; rw [ahx, ahL]; rfl
 have Zz : (T.c5 (dw (l ++ [q]))).length = l.length + 1 := by rw [EB]; exact hpl
 refine iu (vh (ao (ud Zz E.mH (jq E.az E.bK (vE E.aT.1 rfl vF) ug) E.mG)) (ao au)).1 (fun hp => absurd (ahX hp) Q.c) (fun _ => aF ?_)
 refine gM E.g E.Ds (xG (p := [.fld "past"]) (tl := dw l) (t := .tup [.sh (.int (q.1 : Nat)), .sh (.lst (q.2.1.map .int)), .lst (q.2.2.map T.sh)]) (yJ E.az E.bK (bO E.aT.1 rfl) rfl rfl k8) rfl (by rw [vG, zc])) ?_
 rw [zb]
 refine nO E.az E.aR E.aT.1 (oS (p := [.ix 0]) (GY (j := 0) (bO E.Ds.1 rfl) rfl rfl (ao au) rfl) rfl rfl) rfl (uh _ _ _ _ _) ?_
 rw [yZ]
 refine nO E.az E.aQ E.aT.1 (oS (p := [.ix 1]) (GY (j := 1) (bO E.Ds.1 rfl) rfl rfl (ao au) rfl) rfl rfl) rfl (uh _ _ _ _ _) ?_
 rw [y9]
 exact cO (Tf (p := [.ix 2]) (GY (j := 2) (bO E.Ds.1 rfl) rfl rfl (ao au) rfl) rfl rfl) ⟨rfl, ju (ds := [])⟩
abbrev ki : Type := L3.D × L3.D × List Int × (List (Str × L3.D))
def d7 : ki -> List L3.D := fun (cd, pl, bs, ex) => [.ins "FlatRun" (iw cd pl [] bs ex)]
def d8 : ki -> Prop := fun (cd, pl, bs, ex) => True
def d9 : ki -> Str := fun (cd, pl, bs, ex) => "NoStep"
theorem zx {W : XK} (E : sF (X.wish (XE X W)) CL) (cd pl bs ex) (h : d8 (cd, pl, bs, ex)) (hE : xF b W (CL (d9 (cd, pl, bs, ex)))) :
   cH (X.wish (XE X W)) CL b (b9 gS) (entry ["self", "last"] (d7 (cd, pl, bs, ex))) { nx := fun _ => False, rt := fun _ _ => False } := by
 dsimp only [d8, d7, d9] at h hE ⊢
 refine iu (vh (i := 0) (ao (cP (ud (ds := []) (n := 0) rfl E.mH (jq E.az E.bK (cC E.aT) ug) E.mG) (t2 := .sh (.int 0)) rfl)) (ao au)).1 (fun _ => ?_) (fun hp => absurd hp Q.b)
 exact S9 (X := X) E.g.calm E.zu E.vP E.BX hE
theorem cX : qa (ak gS) ([("self", aA), ("last", aA), ("len", aK), ("NoStep", aK)]) = true := Q.j
theorem iR : aP ["self", "last"] ["self"] (ak gS) := bz
abbrev rJ : Stmt := top 33
abbrev rK : Type := L3.D × L3.D × List Int × Option (List L3.D)
def mL : rK -> List L3.D := fun (cd, pl, bs, eo) => [.ins "FlatRun" (iw cd pl [] bs (AJ eo))]
def mO : rK -> Prop := fun (cd, pl, bs, eo) => True
def mP : rK -> T := fun (cd, pl, bs, eo) => (.sh (.bl true) : T)
structure Lw (X : Cx) (CL : Q.e) : Prop extends dg X where
 kI : Ln X 0 "run"
 oi : Ln X 1 "refused"
 zu : Gl X "NoStep"
 vP : X.mg "NoStep" = some (.ref (CL "NoStep"))
 BX : yI X.K (CL "NoStep")
 qJ : ZF X CL "FlatRun" "back" 1 1 d7 d8 d9
 sG : XU X CL "FlatRun" "back" 1 1 dR fD dS cZ
 st : X.stack = X.env :: X.outer
 fm : X.env.frame = some X.env.locals
 nx : X.xe = fun _ _ => False
 vQ : PySem.W.exmOne X.K (.ref (CL "NoStep")) (.ref (CL "NoStep")) = some true
theorem Lx (E : Lw X CL) {dN : rK} (h : mO dN) :
   aN X CL b rJ ["run", "refused"] (mL dN) (mP dN) := by
 obtain ⟨cd, pl, bs, eo⟩ := dN
 dsimp only [aN, mO, mL, mP] at h ⊢
 refine bE E.g E.oi IZ ?_
 refine XO (c := "NoStep") (δ1 := [some (.sh (.ins "FlatRun" (iw cd pl [] bs (AJ eo)))), some (.sh (.bl false))]) E.st E.fm E.nx (fun p => XM (X := X.pinned p) (TL (X := X.pinned p) (cd, pl, bs, AJ eo) E.nx E.qJ.pin (ao (v_ E.kI.1.pin)) (Hq Q.a Q.a Q.a Q.a Q.a) rfl trivial)) (.hit E.zu E.vP E.vQ Q.b) fun e => ?_
 exact XQ E.g.nd E.oi.hand IZ (aF (cO (v_ E.oi.1) rfl))
theorem tu : qa (ak rJ) ([("run", aA), ("refused", aA), ("NoStep", aK)]) = true := Q.j
theorem Hw : aP ["run", "refused"] ["run"] (ak rJ) := bz
abbrev xU : Stmt := top 4
abbrev xV : Type := Int × Int × List Int
def oj : xV -> List L3.D := fun (bx, mo, bs) => [.tup [.int bx, .int mo], .lst (bs.map .int)]
def om : xV -> Prop := fun (bx, mo, bs) => bx = -1 \/ (0 <= bx /\ bx < bs.length)
def oq : xV -> T := fun (bx, mo, bs) => (.sh (.int (eG bx mo bs)) : T)
structure Uz (X : Cx) (CL : Q.e) : Prop extends dg X where
 Dt : Ln X 0 "term"
 bG : Ln X 1 "boxes"
 sy : Ln X 2 "box"
 Hx : Ln X 3 "more"
theorem UA (E : Uz X CL) {dN : xV} (h : om dN) :
   aN X CL b xU ["term", "boxes", "box", "more"] (oj dN) (oq dN) := by
 obtain ⟨bx, mo, bs⟩ := dN
 dsimp only [aN, om, oj, oq] at h ⊢
 refine bE E.g E.sy (fk (cL (cC E.Dt) (ao au) rfl) rfl) ?_
 refine bE E.g E.Hx (fk (cL (cC E.Dt) (ao au) rfl) rfl) ?_
 refine iu (vh (cC E.sy) (ao (yu (ao au)))).1 (fun hp => ?_) (fun hp => ?_)
 . refine cO (v_ E.Hx.1) ?_
   have e : bx = -1 := ahX hp
   show T.sh _ = T.sh (.int (eG bx mo bs))
   rw [eG, ahN e]
 . refine aF ?_
   have e : ¬ bx = -1 := aic hp
   refine cO (ql (oM (cC E.bG) (cC E.sy) (Cy Q.c Q.c)) (cC E.Hx)) ?_
   show T.sh _ = T.sh (.int (eG bx mo bs))
   rw [eG, ahC e]
theorem uC : qa (ak xU) ([("term", aA), ("boxes", aA), ("box", aA), ("more", aA)]) = true := Q.j
theorem Qg : aP ["term", "boxes", "box", "more"] ["term", "boxes"] (ak xU) := bz
abbrev jL : Stmt := top 11
abbrev jM : Type := J × Bool × List Int
def g6 : jM -> List L3.D := fun (r, back, bs) => [r.d, .int (if back then 2 else 3), .lst (bs.map .int)]
def g7 : jM -> Prop := fun (r, back, bs) => ∃ o m, r.ok (o, m, bs)
def g8 : jM -> T := fun (r, back, bs) => (.lst (((yN back r bs).map .int).map T.sh) : T)
structure AU (X : Cx) (CL : Q.e) : Prop extends dg X where
 kJ : Ln X 0 "row"
 rL : Ln X 1 "place"
 bG : Ln X 2 "boxes"
 ek : Ln X 3 "behind"
 cB : Gl X "list"
 cj : X.mg "list" = none
theorem AV (E : AU X CL) {dN : jM} (h : g7 dN) :
   aN X CL b jL ["row", "place", "boxes", "behind"] (g6 dN) (g8 dN) := by
 obtain ⟨r, back, bs⟩ := dN
 dsimp only [aN, g7, g6, g8] at h ⊢
 obtain ⟨o, m, h⟩ := h
 refine bE E.g E.ek (nL E.cj (v_ E.bG.1) E.cB bu) ?_
 refine iu (j6 (cL (cC E.kJ) (ao au) (ael r)) (ao bW)).1 (fun hp => ?_) (fun hp => aF ?_)
 . rw [show decide (r.w = Str.ofString "put") = r.Ph from abv h] at hp
   cases r with
   | put x p q =>
     have h : 0 <= x /\ x < bs.length := h
     have hlen : ((bs.map L3.D.int).map T.sh).length = bs.length := by simp
     have GQ : wF [L3.D.str "put", .int x, .int p, .int q] (if back then 2 else 3) = some (.int (if back then p else q)) := by cases back <;> rfl
     refine aaY E.ek.1 (fk (cL (cC E.kJ) (cC E.rL) GQ) rfl) (cL (cC E.kJ) (ao au) rfl) rfl (Xv h.1 (by rw [hlen]; exact h.2)) (aF ?_)
     refine cO (vM E.ek.1) ?_
     show T.lst _ = T.lst _
     rw [yN, List.map_set, List.map_set]
   | _ => cases hp
 . rw [show decide (r.w = Str.ofString "put") = r.Ph from abv h] at hp
   have e : yN back r bs = bs := by cases r <;> first | rfl | cases hp
   refine cO (vM E.ek.1) ?_
   show T.lst _ = T.lst (((yN back r bs).map .int).map T.sh)
   rw [e]
theorem gj : qa (ak jL) ([("row", aA), ("place", aA), ("boxes", aA), ("behind", aA), ("list", aK)]) = true := Q.j
theorem zy : aP ["row", "place", "boxes", "behind"] ["row", "place", "boxes"] (ak jL) := bz
abbrev uD : Stmt := top 10
abbrev uE : Type := J × List Int
def pA : uE -> List L3.D := fun (r, bs) => [r.d, .lst (bs.map .int)]
def pB : uE -> Prop := fun (r, bs) => ∃ o m, r.ok (o, m, bs)
def pC : uE -> T := fun (r, bs) => (.lst (((yN false r bs).map .int).map T.sh) : T)
structure Qh (X : Cx) (CL : Q.e) : Prop extends dg X where
 kJ : Ln X 0 "row"
 bG : Ln X 1 "boxes"
 m8 : Gl X "with_number"
 UB : Gl X "AFTER"
 AW : Fc X CL "with_number" 1 3 g6 g7 g8
 UC : ∃ u, X.mg "AFTER" = some (.int 3 u)
theorem Qi (E : Qh X CL) {dN : uE} (h : pB dN) :
   aN X CL b uD ["row", "boxes"] (pA dN) (pC dN) := by
 obtain ⟨r, bs⟩ := dN
 dsimp only [aN, pB, pA, pC] at h ⊢
 exact cO (c_ (r, false, bs) E.AW E.m8 (aJ (cC E.kJ) (aJ (ao (EI E.UC E.UB)) (aJ (cC E.bG) cU))) h (jv _)) rfl
theorem rM : qa (ak uD) ([("row", aA), ("boxes", aA), ("with_number", aK), ("AFTER", aK)]) = true := Q.j
theorem Ly : aP ["row", "boxes"] ["row", "boxes"] (ak uD) := bz
abbrev Du : Stmt := top 9
abbrev Dv : Type := eK × List Int
def uF : Dv -> List L3.D := fun (q, bs) => [q.d, .lst (bs.map .int)]
def uG : Dv -> Prop := fun (q, bs) => q.ok bs
def uH : Dv -> T := fun (q, bs) => (.tup [.lst (((yN false (q.row bs) bs).map .int).map T.sh), .sh (q.row bs).d] : T)
structure YG (X : Cx) (CL : Q.e) : Prop extends dg X where
 gO : Ln X 0 "deed"
 bG : Ln X 1 "boxes"
 qK : Ln X 2 "word"
 kJ : Ln X 3 "row"
 pD : Gl X "value"
 zA : Gl X "redone"
 uI : Fc X CL "value" 1 2 oj om oq
 Qj : Fc X CL "redone" 2 2 pA pB pC
theorem YH (E : YG X CL) {dN : Dv} (h : uG dN) :
   aN X CL b Du ["deed", "boxes", "word", "row"] (uF dN) (uH dN) := by
 obtain ⟨q, bs⟩ := dN
 dsimp only [aN, uG, uF, uH] at h ⊢
 have Lz : (T.lst (((yN false (q.row bs) bs).map L3.D.int).map T.sh)).clean = true := by
   rw [jo]
   exact qt _
 have fin : ∀ (w1 : Str) (p1 p2 p3 p4 p5 p6 p7 p8 : Pos) (n1 : Nat), cH X CL b [.Return (some (.Tuple [.Call (.Name "redone" p1) [.Name "row" p2, .Name "boxes" p3] [] p4, .Name "row" p5] n1 p6)) p7] [some (.sh q.d), some (.sh (.lst (bs.map .int))), some (.sh (.str w1)), some (.sh (q.row bs).d)] { nx := fun _ => (T.tup [.lst (((yN false (q.row bs) bs).map .int).map T.sh), .sh (q.row bs).d]) = .sh .non, rt := fun t _ => t = .tup [.lst (((yN false (q.row bs) bs).map .int).map T.sh), .sh (q.row bs).d] } := by
   intro w1 p1 p2 p3 p4 p5 p6 p7 p8 n1
   exact cO (oK (aE (c_ (q.row bs, bs) E.Qj E.zA (aJ (cC E.kJ) (aJ (cC E.bG) cU)) (Yd h) Lz) (aE (v_ E.kJ.1) bA)) (ay rfl)) rfl
 cases q with
 | put x bb m =>
   have h : (0 <= x /\ x < bs.length) /\ TQ bs bb := h
   refine bE E.g E.qK (fk (cL (cC E.gO) (ao au) rfl) rfl) ?_
   refine iu (j6 (cC E.qK) (ao bW)).1 (fun hp => ?_) (fun hp => absurd rfl (aic hp))
   refine bE E.g E.kJ (cI (ds := [.str "put", .int x, .int (bs.getD x.toNat 0), .int (eG bb m bs)]) (aE bW (aE (yo (v_ E.gO.1) (ao au) rfl) (aE (fk (oM (cC E.bG) (cL (cC E.gO) (ao au) rfl) (Cy h.1.1 h.1.2)) rfl) (aE (c_ (bb, m, bs) E.uI E.pD (aJ (cL (cC E.gO) (ao au) rfl) (aJ (cC E.bG) cU)) h.2 rfl) bA)))) (ay rfl)) (aF ?_)
   exact fin _ _ _ _ _ _ _ _ ⟨0, 0, 0, 0⟩ _
 | call s =>
   refine bE E.g E.qK (fk (cL (cC E.gO) (ao au) rfl) rfl) ?_
   refine iu (j6 (cC E.qK) (ao bW)).1 (fun hp => absurd (show ("call" : Str) = "put" from ahX hp) Q.a) (fun hp => ?_)
   refine iu (j6 (cC E.qK) (ao bW)).1 (fun hp => absurd (show ("call" : Str) = "say" from ahX hp) Q.a) (fun hp => ?_)
   refine bE E.g E.kJ (cI (ds := [.str "call", .str s]) (aE bW (aE (yo (v_ E.gO.1) (ao au) rfl) bA)) (ay rfl)) (aF (aF ?_))
   exact fin _ _ _ _ _ _ _ _ ⟨0, 0, 0, 0⟩ _
 | say s bb m =>
   refine bE E.g E.qK (fk (cL (cC E.gO) (ao au) rfl) rfl) ?_
   refine iu (j6 (cC E.qK) (ao bW)).1 (fun hp => absurd (show ("say" : Str) = "put" from ahX hp) Q.a) (fun hp => ?_)
   refine iu (j6 (cC E.qK) (ao bW)).1 (fun hp => ?_) (fun hp => absurd rfl (aic hp))
   refine bE E.g E.kJ (cI (ds := [.str "say", .str s, .int (eG bb m bs)]) (aE bW (aE (yo (v_ E.gO.1) (ao au) rfl) (aE (c_ (bb, m, bs) E.uI E.pD (aJ (cL (cC E.gO) (ao au) rfl) (aJ (cC E.bG) cU)) h rfl) bA))) (ay rfl)) (aF (aF ?_))
   exact fin _ _ _ _ _ _ _ _ ⟨0, 0, 0, 0⟩ _
theorem rN : qa (ak Du) ([("deed", aA), ("boxes", aA), ("word", aA), ("row", aA), ("value", aK), ("redone", aK)]) = true := Q.j
theorem UD : aP ["deed", "boxes", "word", "row"] ["deed", "boxes"] (ak Du) := bz
abbrev pF : Stmt := top 12
abbrev pG : Type := Bool × List eK × List Int
def kU : pG -> List L3.D := fun (l, qs, bs) => [wV l (qs.map eK.d), .lst (bs.map .int)]
def iS : pG -> Prop := fun (l, qs, bs) => qs.length <= 1000 /\ ∀ q ∈ qs, q.ok bs
def iT : pG -> T := fun (l, qs, bs) => (.tup [.lst (((qs.foldl Rj bs).map .int).map T.sh), .lst (((nS qs bs).map J.d).map T.sh), .lst (((m5 qs).map .str).map T.sh)] : T)
structure Hy (X : Cx) (CL : Q.e) : Prop extends dg X where
 JG : Ln X 0 "deeds"
 bG : Ln X 1 "boxes"
 ek : Ln X 2 "behind"
 bD : Ln X 3 "rows"
 iU : Ln X 4 "called"
 gO : Ln X 5 "deed"
 eO : Ln X 6 "step"
 cB : Gl X "list"
 Hz : Gl X "done"
 cj : X.mg "list" = none
 YJ : Fc X CL "done" 3 2 uF uG uH
theorem HB (E : Hy X CL) {dN : pG} (h : iS dN) :
   aN X CL b pF ["deeds", "boxes", "behind", "rows", "called", "deed", "step"] (kU dN) (iT dN) := by
 obtain ⟨l, qs, bs⟩ := dN
 dsimp only [aN, iS, kU, iT] at h ⊢
 refine bE E.g E.ek (nL E.cj (v_ E.bG.1) E.cB bu) ?_
 refine bE E.g E.bD (dG (tl := []) bA (ay rfl)) ?_
 refine bE E.g E.iU (dG (tl := []) bA (ay rfl)) ?_
 have hti : ∀ (p p' : Pos) (o2 o3 o4 o5 o6 : Option T), NC X CL b (.Name "deed" p) (.Name "deeds" p') [some (.sh (wV l (qs.map eK.d))), some (.sh (.lst (bs.map .int))), o2, o3, o4, o5, o6] (qs.map eK.d) [some (.sh (wV l (qs.map eK.d))), some (.sh (.lst (bs.map .int))), o2, o3, o4, o5, o6] := by
   intro p p' o2 o3 o4 o5 o6
   cases l
   . exact GD (v_ E.JG.1)
   . exact qm (v_ E.JG.1)
 refine t9 E.g E.gO (fun j δ => ∃ o5 o6, δ = [some (.sh (wV l (qs.map eK.d))), some (.sh (.lst (bs.map .int))), some (.lst ((((qs.take j).foldl Rj bs).map .int).map T.sh)), some (.lst (((nS (qs.take j) bs).map J.d).map T.sh)), some (.lst (((m5 (qs.take j)).map .str).map T.sh)), o5, o6]) (hti _ _ _ _ _ _ _) ⟨_, _, rfl⟩ (fun j δ ⟨_, _, e⟩ => by subst e; exact ahA rfl) ?turn ?fin
 case turn =>
   rintro j d δ hj ⟨o5, o6, rfl⟩
   rw [ahW] at hj
   obtain ⟨q, hq, rfl⟩ := aif.mp hj
   have hm : q ∈ qs := aih hq
   have hl : (nS (qs.take j) bs).length <= 1000 := by rw [Pq, aio]; omega
   have Zv : (m5 (qs.take j)).length <= 1000 := ain (ait _ _) (by rw [aio]; omega)
   have ec : m5 (qs.take (j + 1)) = m5 (qs.take j) ++ (BP q).toList := by
     rw [jw hq]; unfold m5; rw [List.filterMap_append]; cases q <;> rfl
   rw [jw hq, Pp, List.foldl_append, ← jw hq, ec]
   have Lz := Pn (qs.take j) bs
   have bY := Jr Lz q (h.2 q hm)
   generalize (qs.take j).foldl Rj bs = cur at Lz bY ⊢
   generalize nS (qs.take j) bs = rs at hl ⊢
   generalize m5 (qs.take j) = cs at Zv ⊢
   refine bE E.g E.eO (c_ (q, cur) E.YJ E.Hz (aJ (cC E.gO) (aJ (vL E.ek.1) cU)) bY (G9 _ _ _)) ?_
   refine bE E.g E.ek (jH (tt := [.lst (((Rj cur q).map .int).map T.sh), .sh (q.row cur).d]) 0 E.eO.1 rfl rfl) ?_
   refine sf E.bD.1 rfl (fk (d := (q.row cur).d) (cL (vE (t := .tup [.sh .any, .sh (q.row cur).d]) E.eO.1 rfl rfl) (ao au) rfl) (xH cur q)) rfl (by simp; omega) ?_
   have er : (rs.map J.d).map T.sh ++ [T.sh (q.row cur).d] = ((rs ++ [q.row cur]).map J.d).map T.sh := by rw [ahD, ahD]; rfl
   rw [er]
   cases q with
   | put x bb m =>
     refine iu (j6 (cL (cC E.gO) (ao au) rfl) (ao bW)).1 (fun hp => absurd (show ("put" : Str) = "call" from ahX hp) Q.a) (fun hp => aF (aF ⟨some (.sh (eK.put x bb m).d), some (.tup [.sh .any, .sh ((eK.put x bb m).row cur).d]), ?_⟩))
     rw [show (BP (eK.put x bb m)).toList = [] from rfl, ahJ]
     rfl
   | say s bb m =>
     refine iu (j6 (cL (cC E.gO) (ao au) rfl) (ao bW)).1 (fun hp => absurd (show ("say" : Str) = "call" from ahX hp) Q.a) (fun hp => aF (aF ⟨some (.sh (eK.say s bb m).d), some (.tup [.sh .any, .sh ((eK.say s bb m).row cur).d]), ?_⟩))
     rw [show (BP (eK.say s bb m)).toList = [] from rfl, ahJ]
     rfl
   | call s =>
     refine iu (j6 (cL (cC E.gO) (ao au) rfl) (ao bW)).1 (fun hp => ?_) (fun hp => absurd rfl (aic hp))
     refine sf E.iU.1 rfl (fk (cL (cC E.gO) (ao au) rfl) rfl) rfl (by simp; omega) (aF (aF ⟨some (.sh (eK.call s).d), some (.tup [.sh .any, .sh ((eK.call s).row cur).d]), ?_⟩))
     have es : (cs.map L3.D.str).map T.sh ++ [T.sh (.str s)] = ((cs ++ (BP (eK.call s)).toList).map L3.D.str).map T.sh := by rw [ahD, ahD]; rfl
     rw [← es]
     rfl
 case fin =>
   rintro δ ⟨o5, o6, rfl⟩
   rw [ahx, aiv]
   exact cO (oK (aE (vM E.ek.1) (aE (vM E.bD.1) (aE (vM E.iU.1) bA))) (ay rfl)) rfl
theorem eu : qa (ak pF) ([("deeds", aA), ("boxes", aA), ("behind", aA), ("rows", aA), ("called", aA), ("deed", aA), ("step", aA), ("list", aK), ("done", aK)]) = true := Q.j
theorem Ft : aP ["deeds", "boxes", "behind", "rows", "called", "deed", "step"] ["deeds", "boxes"] (ak pF) := bz
abbrev mQ : Stmt := top 15
abbrev mR : Type := Bool × List It × List Int
def gT : mR -> List L3.D := fun (l, xs, bs) => [wV l (xs.map It.d), .lst (bs.map .int)]
def eS : mR -> Prop := fun (l, xs, bs) => xs.length <= 1000 /\ ∀ x ∈ xs, x.ok bs
def gU : mR -> T := fun (l, xs, bs) => (.tup [.lst (((xs.foldl It.af bs).map .int).map T.sh), .lst (((tQ xs bs).map J.d).map T.sh), .lst (((aX xs).map .str).map T.sh)] : T)
structure Fv (X : Cx) (CL : Q.e) : Prop extends dg X where
 bQ : Ln X 0 "script"
 bG : Ln X 1 "boxes"
 ek : Ln X 2 "behind"
 bD : Ln X 3 "rows"
 iU : Ln X 4 "called"
 kh : Ln X 5 "part"
 eO : Ln X 6 "step"
 cB : Gl X "list"
 JH : Gl X "MARKS"
 tD : Gl X "all_done"
 cj : X.mg "list" = none
 xW : GT X "MARKS" ["out", "keep", "way", "in"]
 HC : Fc X CL "all_done" 4 2 kU iS iT
theorem Fw (E : Fv X CL) {dN : mR} (h : eS dN) :
   aN X CL b mQ ["script", "boxes", "behind", "rows", "called", "part", "step"] (gT dN) (gU dN) := by
 obtain ⟨l, xs, bs⟩ := dN
 dsimp only [aN, eS, gT, gU] at h ⊢
 refine bE E.g E.ek (eZ E.cj (cC E.bG) (lD _) E.cB bu) ?_
 refine bE E.g E.bD (dG (tl := []) bA (ay rfl)) ?_
 refine bE E.g E.iU (dG (tl := []) bA (ay rfl)) ?_
 have hti : ∀ (p p' : Pos) (o2 o3 o4 o5 o6 : Option T), NC X CL b (.Name "part" p) (.Name "script" p') [some (.sh (wV l (xs.map It.d))), some (.sh (.lst (bs.map .int))), o2, o3, o4, o5, o6] (xs.map It.d) [some (.sh (wV l (xs.map It.d))), some (.sh (.lst (bs.map .int))), o2, o3, o4, o5, o6] := by
   intro p p' o2 o3 o4 o5 o6
   cases l
   . exact GD (v_ E.bQ.1)
   . exact qm (v_ E.bQ.1)
 refine t9 E.g E.kh (fun j δ => ∃ o5 o6, δ = [some (.sh (wV l (xs.map It.d))), some (.sh (.lst (bs.map .int))), some (.lst ((((xs.take j).foldl It.af bs).map .int).map T.sh)), some (.lst (((tQ (xs.take j) bs).map J.d).map T.sh)), some (.lst (((aX (xs.take j)).map .str).map T.sh)), o5, o6]) (hti _ _ _ _ _ _ _) ⟨_, _, rfl⟩ (fun j δ ⟨_, _, e⟩ => by subst e; exact ahA rfl) ?turn ?fin
 case turn =>
   rintro j d δ hj ⟨o5, o6, rfl⟩
   rw [ahW] at hj
   obtain ⟨x, hq, rfl⟩ := aif.mp hj
   have hm : x ∈ xs := aih hq
   have hl : (tQ (xs.take j) bs).length <= 1000 := by rw [uf, aio]; omega
   have Zv : (aX (xs.take j)).length <= 1000 := ain (ait _ _) (by rw [aio]; omega)
   have Lz := oW (xs.take j) bs
   have bY := TY Lz x (h.2 x hm)
   have e1 : (xs.take (j + 1)).foldl It.af bs = ((xs.take j).foldl It.af bs |> fun c => x.af c) := by rw [jw hq, List.foldl_append]; rfl
   have e2 : tQ (xs.take (j + 1)) bs = tQ (xs.take j) bs ++ [x.j ((xs.take j).foldl It.af bs)] := by rw [jw hq, TX]; rfl
   have e3 : aX (xs.take (j + 1)) = aX (xs.take j) ++ x.call.toList := by rw [jw hq, E6]
   rw [e1, e2, e3]
   clear e1 e2 e3
   generalize (xs.take j).foldl It.af bs = cur at Lz bY ⊢
   generalize tQ (xs.take j) bs = rs at hl ⊢
   generalize aX (xs.take j) = cs at Zv ⊢
   have ZL := TV x
   by_cases ht : x.told = true
   . obtain ⟨q, rfl⟩ : ∃ q, x = .jV q := by cases x <;> first | exact ⟨_, rfl⟩ | cases ht
     have bY : q.ok cur := bY
     refine iu (CF (l := kg) (cL (ao (v_ (d := .tup (.str q.w :: q.ds)) E.kh.1)) (ao au) VY) (ao (EV E.xW E.JH)) rfl rfl).1 (fun hp => by rw [show decide (q.w ∈ kg) = false from ZL] at hp; cases hp) (fun hp => ?_)
     refine bE E.g E.eO (c_ (true, [q], cur) E.HC E.tD (aJ (vn (ds := [q.d]) (dG (aE (v_ (d := q.d) E.kh.1) bA) (ay rfl))) (aJ (vL E.ek.1) cU)) (by dsimp only [iS]; exact ⟨by simp, fun y hy => by rw [List.mem_singleton.mp hy]; exact bY⟩) (G8 (lD _) (Lb _ _) (bF (fun _ => rfl) _))) ?_
     rw [show iT (true, [q], cur) = T.tup [.lst (((Rj cur q).map .int).map T.sh), .lst ([(q.row cur).d].map T.sh), .lst (((m5 [q]).map .str).map T.sh)] from rfl]
     refine bE E.g E.ek (jH 0 E.eO.1 rfl rfl) ?_
     have hcq : (m5 [q]).length <= 1 := ait _ _
     refine Jh E.bD.1 rfl (jH 1 E.eO.1 rfl rfl) rfl (by simp; omega) ?_
     refine Jh E.iU.1 rfl (jH 2 E.eO.1 rfl rfl) rfl (by simp; omega) (aF (aF ⟨some (.sh q.d), some (.tup [.sh .any, .sh .any, .sh .any]), ?_⟩))
     have ec : m5 [q] = (It.jV q).call.toList := by cases q <;> rfl
     rw [← ec, ahD, ahD, ahD, ahD]
     rfl
   . have ht : x.told = false := by simpa using ht
     have hj : x.j cur = x.sj := by cases x <;> first | rfl | cases ht
     have ha : x.af cur = cur := by cases x <;> first | rfl | cases ht
     have hc : x.call = none := by cases x <;> first | rfl | cases ht
     rw [ht] at ZL
     refine iu (CF (l := kg) (cL (ao (v_ (d := .tup (.str x.sj.w :: x.sj.ds)) E.kh.1)) (ao au) VY) (ao (EV E.xW E.JH)) rfl rfl).1 (fun hp => ?_) (fun hp => by rw [show decide (x.sj.w ∈ kg) = true from ZL] at hp; cases hp)
     refine sf E.bD.1 rfl (fk (d := x.d) (cC E.kh) (oV x)) rfl (by simp; omega) (aF (aF ⟨some (.sh x.d), o6, ?_⟩))
     rw [hj, hc, show (fun c => x.af c) cur = cur from ha, show (none : Option Str).toList = [] from rfl, ahJ, ahD, ahD]
     rfl
 case fin =>
   rintro δ ⟨o5, o6, rfl⟩
   rw [ahx, aiv]
   exact cO (oK (aE (vM E.ek.1) (aE (vM E.bD.1) (aE (vM E.iU.1) bA))) (ay rfl)) rfl
theorem cS : qa (ak mQ) ([("script", aA), ("boxes", aA), ("behind", aA), ("rows", aA), ("called", aA), ("part", aA), ("step", aA), ("list", aK), ("MARKS", aK), ("all_done", aK)]) = true := Q.j
theorem Dw : aP ["script", "boxes", "behind", "rows", "called", "part", "step"] ["script", "boxes"] (ak mQ) := bz
abbrev xX : Stmt := top 5
abbrev xY : Type := Str × Int × Int × Int × Int × List Int
def rO : xY -> List L3.D := fun (mk, b1, m1, b2, m2, bs) => [.tup [.str mk, .tup [.int b1, .int m1], .tup [.int b2, .int m2]], .lst (bs.map .int)]
def rP : xY -> Prop := fun (mk, b1, m1, b2, m2, bs) => (b1 = -1 \/ (0 <= b1 /\ b1 < bs.length)) /\ (b2 = -1 \/ (0 <= b2 /\ b2 < bs.length))
def rQ : xY -> T := fun (mk, b1, m1, b2, m2, bs) => (.sh (.bl (AK mk (eG b1 m1 bs) (eG b2 m2 bs))) : T)
structure UE (X : Cx) (CL : Q.e) : Prop extends dg X where
 BZ : Ln X 0 "ask"
 bG : Ln X 1 "boxes"
 sY : Ln X 2 "mark"
 wK : Ln X 3 "one"
 uJ : Ln X 4 "other"
 pD : Gl X "value"
 uI : Fc X CL "value" 1 2 oj om oq
theorem UG (E : UE X CL) {dN : xY} (h : rP dN) :
   aN X CL b xX ["ask", "boxes", "mark", "one", "other"] (rO dN) (rQ dN) := by
 obtain ⟨mk, b1, m1, b2, m2, bs⟩ := dN
 dsimp only [aN, rP, rO, rQ] at h ⊢
 refine bE E.g E.sY (fk (cL (cC E.BZ) (ao au) rfl) rfl) ?_
 refine bE E.g E.wK (c_ (b1, m1, bs) E.uI E.pD (aJ (cL (cC E.BZ) (ao au) rfl) (aJ (cC E.bG) cU)) h.1 rfl) ?_
 refine bE E.g E.uJ (c_ (b2, m2, bs) E.uI E.pD (aJ (cL (cC E.BZ) (ao au) rfl) (aJ (cC E.bG) cU)) h.2 rfl) ?_
 refine iu (j6 (cC E.sY) (ao bW)).1 (fun hp => ?_) (fun hp => aF ?_)
 . refine cO (BG (cC E.wK) (cC E.uJ)).2 ?_
   show T.sh _ = T.sh (.bl (AK mk (eG b1 m1 bs) (eG b2 m2 bs)))
   rw [AK, ahN (ahX hp)]
 refine iu (j6 (cC E.sY) (ao bW)).1 (fun hq => ?_) (fun hq => aF ?_)
 . refine cO (aaF (cC E.wK) (cC E.uJ)).2 ?_
   show T.sh _ = T.sh (.bl (AK mk (eG b1 m1 bs) (eG b2 m2 bs)))
   rw [AK, ahC (aic hp), ahN (ahX hq)]
 refine iu (j6 (cC E.sY) (ao bW)).1 (fun hr => ?_) (fun hr => aF ?_)
 . refine cO (vh (cC E.wK) (cC E.uJ)).2 ?_
   show T.sh _ = T.sh (.bl (AK mk (eG b1 m1 bs) (eG b2 m2 bs)))
   rw [AK, ahC (aic hp), ahC (aic hq), ahN (ahX hr)]
 . refine cO (Xe (cC E.wK) (cC E.uJ)).2 ?_
   show T.sh _ = T.sh (.bl (AK mk (eG b1 m1 bs) (eG b2 m2 bs)))
   rw [AK, ahC (aic hp), ahC (aic hq), ahC (aic hr)]
theorem ou : qa (ak xX) ([("ask", aA), ("boxes", aA), ("mark", aA), ("one", aA), ("other", aA), ("value", aK)]) = true := Q.j
theorem Qk : aP ["ask", "boxes", "mark", "one", "other"] ["ask", "boxes"] (ak xX) := bz
abbrev pH : Stmt := top 6
abbrev pI : Type := Bool × List Ask × List Int
def kW : pI -> List L3.D := fun (l, qs, bs) => [wV l (qs.map PZ), .lst (bs.map .int)]
def kX : pI -> Prop := fun (l, qs, bs) => ∀ q ∈ qs, okQ bs q
def kY : pI -> T := fun (l, qs, bs) => (.sh (.bl (qs.all (hQ bs))) : T)
structure HD (X : Cx) (CL : Q.e) : Prop extends dg X where
 vI : Ln X 0 "asks"
 bG : Ln X 1 "boxes"
 BZ : Ln X 2 "ask"
 Dy : Gl X "holds"
 UH : Fc X CL "holds" 2 2 rO rP rQ
theorem HF (E : HD X CL) {dN : pI} (h : kX dN) :
   aN X CL b pH ["asks", "boxes", "ask"] (kW dN) (kY dN) := by
 obtain ⟨l, qs, bs⟩ := dN
 dsimp only [aN, kX, kW, kY] at h ⊢
 have hti : ∀ (p p' : Pos) (o : Option T), NC X CL b (.Name "ask" p) (.Name "asks" p') [some (.sh (wV l (qs.map PZ))), some (.sh (.lst (bs.map .int))), o] (qs.map PZ) [some (.sh (wV l (qs.map PZ))), some (.sh (.lst (bs.map .int))), o] := by
   intro p p' o
   cases l
   . exact GD (v_ E.vI.1)
   . exact qm (v_ E.vI.1)
 refine t9 E.g E.BZ (fun j δ => (∃ o, δ = [some (.sh (wV l (qs.map PZ))), some (.sh (.lst (bs.map .int))), o]) /\ ∀ q ∈ qs.take j, hQ bs q = true) (hti _ _ none) ⟨⟨_, rfl⟩, by simp⟩ (fun j δ ⟨⟨o, e⟩, _⟩ => by subst e; exact ahA rfl) ?_ ?_
 . rintro j d δ hj ⟨⟨o, rfl⟩, hp⟩
   rw [ahW] at hj
   obtain ⟨q, hq, rfl⟩ := aif.mp hj
   have hm : q ∈ qs := aih hq
   refine iu (Nz (Ny (c_ (q.1, q.2.1, q.2.2.1, q.2.2.2.1, q.2.2.2.2, bs) E.UH E.Dy (aJ (cC E.BZ) (aJ (cC E.bG) cU)) (h q hm) rfl))) (fun hc => ?_) (fun hc => ?_)
   . refine cO IZ ?_
     show T.sh _ = T.sh (.bl (qs.all (hQ bs)))
     have hf : hQ bs q = false := by simpa [hQ] using hc
     rw [List.all_eq_false.mpr ⟨q, hm, by simp [hf]⟩]
   . refine aF (aF ⟨⟨_, rfl⟩, ?_⟩)
     have hf : hQ bs q = true := by simpa [hQ] using hc
     intro q' Vw
     rw [aiV, hq] at Vw
     rcases ahB.mp Vw with h' | h'
     . exact hp q' h'
     . have : q' = q := by simpa using h'
       rw [this]; exact hf
 . rintro δ ⟨⟨o, rfl⟩, hp⟩
   refine cO IZ ?_
   show T.sh _ = T.sh (.bl (qs.all (hQ bs)))
   rw [ahx, aiv] at hp
   rw [aiP.mpr hp]
theorem mS : qa (ak pH) ([("asks", aA), ("boxes", aA), ("ask", aA), ("holds", aK)]) = true := Q.j
theorem Fx : aP ["asks", "boxes", "ask"] ["asks", "boxes"] (ak pH) := bz
abbrev fZ : Stmt := inClass (top 20) 1
abbrev f6 : Type := Nat × Nat × List L3.D × List L3.D × List L3.D × List Str × Q.o × Nat × List L3.D × List Int × (List (Str × L3.D)) × Str
def eX : f6 -> List L3.D := fun (m, f, bx, bg, pr, hs, R, a, pa, bs, ex, sg) => [.ins "FlatRun" (iw Q.x (.int a) pa bs ex), .str sg]
def dh : f6 -> Prop := fun (m, f, bx, bg, pr, hs, R, a, pa, bs, ex, sg) => qe m f hs R /\ a < f /\ bs.length = m
def eY : f6 -> T := fun (m, f, bx, bg, pr, hs, R, a, pa, bs, ex, sg) => (.sh (.tup [.tup ((sr R hs a sg bs).1.map It.d), .int (sr R hs a sg bs).2]) : T)
structure uK (X : Cx) (CL : Q.e) : Prop extends dg X where
 aT : Ln X 0 "self"
 lH : Ln X 1 "sign"
 kJ : Ln X 2 "row"
 tE : Gl X "all_hold"
 HG : Fc X CL "all_hold" 3 2 kW kX kY
 az : j5 X.K (CL "FlatRun")
 bB : j5 X.K (CL "Table")
 fK : aG X.K (CL "Table") "signs"
 aR : aG X.K (CL "FlatRun") "place"
 dQ : aG X.K (CL "FlatRun") "table"
 fq : aG X.K (CL "Table") "rows"
 aQ : aG X.K (CL "FlatRun") "boxes"
 bL : aG X.K (CL "Table") "boxes"
theorem uL (E : uK X CL) {dN : f6} (h : dh dN) :
   aN X CL b fZ ["self", "sign", "row"] (eX dN) (eY dN) := by
 obtain ⟨m, f, bx, bg, pr, hs, R, a, pa, bs, ex, sg⟩ := dN
 dsimp only [aN, dh, eX, eY] at h ⊢
 obtain ⟨hG, ha, hb⟩ := h
 refine iu (CF (l := hs) (cC E.lH) (jq E.bB E.fK (jq E.az E.dQ (cC E.aT) vz) qz) rfl rfl).1 (fun hp => ?_) (fun hp => aF ?_)
 . have hx : sg ∈ hs := ahX hp
   obtain ⟨q1, q2, q3⟩ := hG.row ha hx
   refine t9 E.g E.kJ (fun j δ => (∃ o, δ = [some (.sh (.ins "FlatRun" (iw Q.x (.int a) pa bs ex))), some (.sh (.str sg)), o]) /\ ∀ r ∈ (C4 R a sg).take j, r.1.all (hQ bs) = false) (qm (Od (Rn a sg) E.u (gK E.bB E.fq (gK E.az E.dQ (v_ E.aT.1) vz) sW) (cP (oK (aE (gK E.az E.aR (v_ E.aT.1) nU) (aE (v_ E.lH.1) bA)) (ay rfl)) (t2 := pT (Rn a sg)) rfl) (Ub q1))) ⟨⟨_, rfl⟩, fun r hr => absurd hr ahK⟩ (fun j δ ⟨⟨_, e⟩, _⟩ => by subst e; exact ahA rfl) ?turn ?fin
   case turn =>
     rintro j d δ hj ⟨⟨o, rfl⟩, Qd⟩
     rw [ahW] at hj
     obtain ⟨r, hr, rfl⟩ := aif.mp hj
     have hrm := aih hr
     have hrg := q3 r hrm
     refine iu (Ny (cP (c_ (false, r.1, bs) E.HG E.tE (aJ (cL (cC E.kJ) (ao au) (fS (j := 0) rfl)) (aJ (jq E.az E.aQ (cC E.aT) vA) cU)) (hrg.asks hb) rfl) (t2 := .sh (.bl (r.1.all (hQ bs)))) rfl)) (fun hh => ?_) (fun hh => aF (aF ⟨⟨_, rfl⟩, fun r' hr' => ?_⟩))
     . refine cO (cI (ds := [.tup (r.2.1.map It.d), .int r.2.2]) (aW (fk (cL (cC E.kJ) (ao au) (fS (j := 1) rfl)) (bF oV _)) (aW (fk (cL (cC E.kJ) (ao au) (fS (j := 2) rfl)) rfl) e7)) (ay rfl)) ?_
       have ef : (C4 R a sg).find? (fun r => r.1.all (hQ bs)) = some r := by
         obtain ⟨Um, e⟩ := aii.mp hr
         refine List.find?_eq_some_iff_getElem.mpr ⟨hh, j, Um, e, fun i hi => ?_⟩
         have := Qd ((C4 R a sg)[i]'(by omega)) (List.mem_iff_getElem.mpr ⟨i, by rw [aio]; omega, by rw [List.getElem_take]⟩)
         rw [this]
         rfl
       have es : sr R hs a sg bs = (r.2.1, r.2.2.toNat) := by
         unfold sr
         rw [ahN hx, ef]
       obtain ⟨c1, _⟩ := hrg.c
       rw [es]
       show T.sh (.tup [.tup (r.2.1.map It.d), .int r.2.2]) = T.sh (.tup [.tup (r.2.1.map It.d), .int (r.2.2.toNat : Int)])
       rw [Int.toNat_of_nonneg c1]
     . rw [aiV, hr] at hr'
       rcases ahB.mp hr' with z | z
       . exact Qd r' z
       . have : r' = r := by simpa using z
         rw [this]
         exact hh
   case fin =>
     rintro δ ⟨⟨o, rfl⟩, Qd⟩
     rw [ahx, aiv] at Qd
     have ef : (C4 R a sg).find? (fun r => r.1.all (hQ bs)) = none := List.find?_eq_none.mpr fun r hr => by rw [Qd r hr]; decide
     have es : sr R hs a sg bs = ([], a) := by
       unfold sr
       rw [ahN hx, ef]
     refine aF ?_
     refine cO (cI (ds := [.tup [], .int a]) (aW (cI (ds := []) e7 (ay rfl)) (aW (gK E.az E.aR (v_ E.aT.1) nU) e7)) (ay rfl)) ?_
     rw [es]
     rfl
 . have es : sr R hs a sg bs = ([], a) := by
     unfold sr
     rw [ahC (aic hp)]
   refine cO (cI (ds := [.tup [], .int a]) (aW (cI (ds := []) e7 (ay rfl)) (aW (gK E.az E.aR (v_ E.aT.1) nU) e7)) (ay rfl)) ?_
   rw [es]
   rfl
theorem fC : qa (ak fZ) ([("self", aA), ("sign", aA), ("row", aA), ("all_hold", aK)]) = true := Q.j
theorem lI : aP ["self", "sign", "row"] ["self", "sign"] (ak fZ) := bz
abbrev iV : Stmt := inClass (top 18) 2
abbrev iW : Type := Addr × Nat × Nat × List L3.D × List L3.D × List L3.D × List Str × Q.o × Nat × List T × List Int × Option (List L3.D) × List Str
def dz : iW -> List T := fun (y, m, f, bx, bg, pr, hs, R, a, pt, bs, eo, cs) => [.pin y (.ins "FlatRun" (b8 Q.x (.int a) pt bs (nT eo))), .sh (.lst (cs.map .str))]
def cM : iW -> List T := fun (y, m, f, bx, bg, pr, hs, R, a, pt, bs, eo, cs) => [.pin y (.ins "FlatRun" (b8 Q.x (.int (Eg R hs (cs, a, bs))) pt (Eh R hs (cs, a, bs)) (nT eo))), .sh (.lst (cs.map .str))]
def cN : iW -> Prop := fun (y, m, f, bx, bg, pr, hs, R, a, pt, bs, eo, cs) => qe m f hs R /\ a < f /\ bs.length = m /\ cs.length <= 1000
def dB : iW -> T := fun (y, m, f, bx, bg, pr, hs, R, a, pt, bs, eo, cs) => (.lst ((su R hs (cs, a, bs)).map T.sh) : T)
structure zB (X : Cx) (CL : Q.e) : Prop extends dg X where
 aT : Ln X 0 "self"
 iU : Ln X 1 "called"
 lg : Ln X 2 "waiting"
 bD : Ln X 3 "rows"
 cG : Ln X 4 "many"
 lH : Ln X 5 "sign"
 Dz : Ln X 6 "going"
 eO : Ln X 7 "step"
 cB : Gl X "list"
 DB : Gl X "MOST_SIGNS"
 jY : Gl X "performed"
 mG : Gl X "len"
 cj : X.mg "list" = none
 DC : ∃ u, X.mg "MOST_SIGNS" = some (.int 8 u)
 qL : Fc X CL "performed" 5 2 gT eS gU
 mH : X.mg "len" = none
 uM : Fq X CL "FlatRun" "step_at" 4 2 eX dh eY
 az : j5 X.K (CL "FlatRun")
 bB : j5 X.K (CL "Table")
 aR : aG X.K (CL "FlatRun") "place"
 aQ : aG X.K (CL "FlatRun") "boxes"
 bL : aG X.K (CL "Table") "boxes"
theorem zC (E : zB X CL) (y m f bx bg pr hs R a pt bs eo cs) (h : cN (y, m, f, bx, bg, pr, hs, R, a, pt, bs, eo, cs)) :
   cH X CL b (b9 iV) (mY ["self", "called", "waiting", "rows", "many", "sign", "going", "step"] (dz (y, m, f, bx, bg, pr, hs, R, a, pt, bs, eo, cs))) { nx := fun δ => dB (y, m, f, bx, bg, pr, hs, R, a, pt, bs, eo, cs) = .sh .non /\ Keeps δ (cM (y, m, f, bx, bg, pr, hs, R, a, pt, bs, eo, cs)), rt := fun EW δ => EW = dB (y, m, f, bx, bg, pr, hs, R, a, pt, bs, eo, cs) /\ Keeps δ (cM (y, m, f, bx, bg, pr, hs, R, a, pt, bs, eo, cs)) } := by
 dsimp only [cN, dz, dB, cM] at h ⊢
 obtain ⟨hG, ha, hb, hc⟩ := h
 refine bE E.g E.lg (nL E.cj (v_ E.iU.1) E.cB bu) ?_
 refine bE E.g E.bD (dG (tl := []) bA (ay rfl)) ?_
 refine bE E.g E.cG au ?_
 refine Sn E.g (fun k δ => ∃ (j : Nat) (o5 o6 o7 : Option T), k + j = 8 /\ δ = [some (.pin y (.ins "FlatRun" (b8 Q.x (.int (r9 R hs j (cs, a, bs)).2.2.1) pt (r9 R hs j (cs, a, bs)).2.2.2 (nT eo)))), some (.sh (.lst (cs.map .str))), some (.lst (((r9 R hs j (cs, a, bs)).2.1.map .str).map T.sh)), some (.lst ((r9 R hs j (cs, a, bs)).1.map T.sh)), some (.sh (.int j)), o5, o6, o7]) 8 ⟨0, _, _, _, rfl, rfl⟩ ?loop
 case loop =>
   rintro k δ ⟨j, o5, o6, o7, hm, rfl⟩
   obtain ⟨k1, k2, k5, k3, k4⟩ := vC hG (cs := cs) ha hb j
   have abU := @Fe R hs (cs, a, bs) j
   have V3 := @yV R hs (cs, a, bs) j
   have hE : (r9 R hs j (cs, a, bs)).2.1 = [] \/ j = 8 -> r9 R hs 8 (cs, a, bs) = r9 R hs j (cs, a, bs) := fun z => by
     rcases z with z | z
     . have := abU z (8 - j)
       rwa [show j + (8 - j) = 8 by omega] at this
     . rw [z]
   unfold Eh Eg su
   generalize hs8 : r9 R hs j (cs, a, bs) = s at k1 k2 k3 k4 k5 hE V3 ⊢
   obtain ⟨rs, w, cp, cur⟩ := s
   dsimp only at k1 k2 k3 k4 k5 hE ⊢
   refine ⟨_, _, R3 (Gy (Ob (vL E.lg.1)) (fun _ => Cv (BG (cC E.cG) (ao (EI E.DC E.DB))).1)), fun hp => ?_, fun hp => ?_⟩
   . rw [ah0] at hp
     obtain ⟨Tg, hp2⟩ := hp
     have hj8 : (j : Int) < 8 := ahX hp2
     cases w with
     | nil => cases Tg
     | cons sg w =>
       have kG := V3 (rs := rs) (sg := sg) (w := w) (a := cp) (bs := cur) rfl
       obtain ⟨s1, s2, s5⟩ := Hr hG k5 sg cur
       have s3 : (aX (sr R hs cp sg cur).1).length <= (sr R hs cp sg cur).1.length := ait _ _
       rw [ahY] at k2
       refine XW E.g E.cG rfl (ao au) ?_
       refine gM E.g E.lH (Ou (t := .sh (.str sg)) (tl := (w.map L3.D.str).map T.sh) (bO E.lg.1 rfl) rfl rfl) ?_
       refine bE E.g E.Dz (cP (q_ (m, f, bx, bg, pr, hs, R, cp, T.c5 pt, cur, AJ eo, sg) E.uM (vE E.aT.1 rfl vF) (Hq Q.a Q.a Q.a Q.a Q.a) (aJ (cC E.lH) cU) rfl (by dsimp only [dh]; exact ⟨hG, k5, k3⟩) (by show D.bJ [L3.D.tup _, _] = true; rw [D.bJ, D.mq, bF oV]; rfl)) (t2 := .sh (.tup [.tup ((sr R hs cp sg cur).1.map It.d), .int (sr R hs cp sg cur).2])) rfl) ?_
       refine bE E.g E.eO (cP (c_ (false, (sr R hs cp sg cur).1, cur) E.qL E.jY (aJ (cL (cC E.Dz) (ao au) (fS (j := 0) rfl)) (aJ (jq E.az E.aQ (vE E.aT.1 rfl vF) vA) cU)) (by dsimp only [eS]; exact ⟨by omega, fun x hx => P0 (s2 x hx) k3⟩) (G8 (lD _) (xJ _ _) (bF (fun _ => rfl) _))) (t2 := .tup [.lst ((((sr R hs cp sg cur).1.foldl It.af cur).map .int).map T.sh), .lst (((tQ (sr R hs cp sg cur).1 cur).map J.d).map T.sh), .lst (((aX (sr R hs cp sg cur).1).map .str).map T.sh)]) rfl) ?_
       refine nO E.az E.aR E.aT.1 (yo (v_ E.Dz.1) (ao au) (fS (j := 1) rfl)) rfl (uh _ _ _ _ _) ?_
       rw [yZ]
       refine nO E.az E.aQ E.aT.1 (kN (jH 0 E.eO.1 rfl rfl)) rfl (uh _ _ _ _ _) ?_
       rw [y9]
       refine sf E.bD.1 rfl (cI (aW bW (aW (v_ E.lH.1) e7)) (ay rfl)) rfl (by rw [ahx]; omega) ?_
       refine Jh E.bD.1 rfl (jH 1 E.eO.1 rfl rfl) rfl (by simp [uf]; omega) ?_
       refine Jh E.lg.1 rfl (jH 2 E.eO.1 rfl rfl) rfl (by simp; omega) (aF ⟨k - 1, by omega, j + 1, some (.sh (.str sg)), some (.sh (.tup [.tup ((sr R hs cp sg cur).1.map It.d), .int (sr R hs cp sg cur).2])), some (.tup [.sh .any, .sh .any, .sh .any]), by omega, ?_⟩)
       rw [kG]
       dsimp only
       rw [ahD, ahD, ahD, ahO, ahv]
       rfl
   . have hz : w = [] \/ j = 8 := by
       cases w with
       | nil => exact .inl rfl
       | cons sg w =>
         right
         have hp : (true && decide ((j : Int) < 8)) = false := hp
         have := aic ((Bool.true_and _).symm.trans hp)
         omega
     rw [hE hz]
     dsimp only
     refine iu (Ob (vL E.lg.1)) (fun hq => ?_) (fun hq => aF ?_)
     . have hw : w ≠ [] := by
         rintro rfl
         cases hq
       rw [ahC hw]
       refine sf E.bD.1 rfl (cI (aW bW (aW (cP (xC E.mH (vL E.lg.1) E.mG) (t2 := .sh (.int ((w.length : Nat) : Int))) (by rw [ahx])) e7)) (ay rfl)) rfl (by rw [ahx]; omega) (aF (cO (vM E.bD.1) ⟨?_, ju (ds := [_])⟩))
       rw [ahD]
       rfl
     . have hw : w = [] := by
         cases w with
         | nil => rfl
         | cons sg w => cases hq
       subst hw
       rw [ahN rfl, ahJ]
       exact cO (vM E.bD.1) ⟨rfl, ju (ds := [_])⟩
theorem bq : qa (ak iV) ([("self", aA), ("called", aA), ("waiting", aA), ("rows", aA), ("many", aA), ("sign", aA), ("going", aA), ("step", aA), ("list", aK), ("MOST_SIGNS", aK), ("performed", aK), ("len", aK)]) = true := Q.j
theorem pW : aP ["self", "called", "waiting", "rows", "many", "sign", "going", "step"] ["self", "called"] (ak iV) := bz
abbrev jN : Stmt := inClass (top 18) 0
abbrev jO : Type := Addr × Nat × Nat × List L3.D × List L3.D × List L3.D × List Str × Q.o × List Int × List It
def fE : jO -> List T := fun (y, m, f, bx, bg, pr, hs, R, bs, xs) => [.pin y (.ins "FlatRun" [("table", .sh Q.x)]), .sh (.lst (bs.map .int)), .sh (.int 0), .sh (.tup (xs.map It.d))]
def dU : jO -> List T := fun (y, m, f, bx, bg, pr, hs, R, bs, xs) => [.pin y (.ins "FlatRun" (w6 Q.x (.int (Eg R hs (aX xs, 0, xs.foldl It.af bs))) [] (Eh R hs (aX xs, 0, xs.foldl It.af bs)) (nT (some ((tQ xs bs).map J.d ++ su R hs (aX xs, 0, xs.foldl It.af bs)))))), .sh (.lst (bs.map .int)), .sh (.int 0), .sh (.tup (xs.map It.d))]
def fF : jO -> Prop := fun (y, m, f, bx, bg, pr, hs, R, bs, xs) => qe m f hs R /\ 0 < f /\ bs.length = m /\ xs.length <= 200 /\ (∀ x ∈ xs, Lg m x)
def fG : jO -> T := fun (y, m, f, bx, bg, pr, hs, R, bs, xs) => (.sh .non : T)
structure AX (X : Cx) (CL : Q.e) : Prop extends dg X where
 aT : Ln X 0 "self"
 bG : Ln X 1 "boxes"
 rL : Ln X 2 "place"
 bQ : Ln X 3 "script"
 eO : Ln X 4 "step"
 jY : Gl X "performed"
 qL : Fc X CL "performed" 5 2 gT eS gU
 lJ : XU X CL "FlatRun" "dealt" 6 2 dz cN dB cM
 az : j5 X.K (CL "FlatRun")
 bB : j5 X.K (CL "Table")
 aR : aG X.K (CL "FlatRun") "place"
 bK : aG X.K (CL "FlatRun") "past"
 aQ : aG X.K (CL "FlatRun") "boxes"
 bL : aG X.K (CL "Table") "boxes"
 gf : aG X.K (CL "FlatRun") "first_rows"
theorem AY (E : AX X CL) (y m f bx bg pr hs R bs xs) (h : fF (y, m, f, bx, bg, pr, hs, R, bs, xs)) :
   cH X CL b (b9 jN) (mY ["self", "boxes", "place", "script", "step"] (fE (y, m, f, bx, bg, pr, hs, R, bs, xs))) { nx := fun δ => fG (y, m, f, bx, bg, pr, hs, R, bs, xs) = .sh .non /\ Keeps δ (dU (y, m, f, bx, bg, pr, hs, R, bs, xs)), rt := fun EW δ => EW = fG (y, m, f, bx, bg, pr, hs, R, bs, xs) /\ Keeps δ (dU (y, m, f, bx, bg, pr, hs, R, bs, xs)) } := by
 dsimp only [fF, fE, fG, dU] at h ⊢
 obtain ⟨hG, hf, hb, hx, hxo⟩ := h
 have Lz : (aX xs).length <= xs.length := ait _ _
 have Ut := oW xs bs
 have hb2 : (xs.foldl It.af bs).length = m := Ut.trans hb
 obtain ⟨d1, d2⟩ := vD hG (cs := aX xs) hf hb2
 refine nO E.az E.aR E.aT.1 (v_ E.rL.1) rfl (ahA rfl) ?_
 rw [show iA "place" (.sh (.int 0)) [(("table" : Str), T.sh Q.x)] = [(("table" : Str), T.sh Q.x), (("place" : Str), T.sh (.int 0))] by rw [aO Q.a]; rfl]
 refine nO E.az E.bK E.aT.1 (dG (tl := []) bA (ay rfl)) rfl (ahA rfl) ?_
 rw [show iA "past" (.lst []) [(("table" : Str), T.sh Q.x), (("place" : Str), T.sh (.int 0))] = [(("table" : Str), T.sh Q.x), (("place" : Str), T.sh (.int 0)), (("past" : Str), T.lst [])] by rw [aO Q.a, aO Q.a]; rfl]
 refine bE E.g E.eO (cP (c_ (false, xs, bs) E.qL E.jY (aJ (cC E.bQ) (aJ (cC E.bG) cU)) (by dsimp only [eS]; exact ⟨by omega, fun x hm => P0 (hxo x hm) hb⟩) (G8 (lD _) (xJ _ _) (bF (fun _ => rfl) _))) (t2 := .tup [.lst (((xs.foldl It.af bs).map .int).map T.sh), .lst (((tQ xs bs).map J.d).map T.sh), .lst (((aX xs).map .str).map T.sh)]) rfl) ?_
 refine nO E.az E.aQ E.aT.1 (kN (jH 0 E.eO.1 rfl rfl)) rfl (ahA rfl) ?_
 rw [show iA "boxes" (.sh (.lst ((xs.foldl It.af bs).map .int))) [(("table" : Str), T.sh Q.x), (("place" : Str), T.sh (.int 0)), (("past" : Str), T.lst [])] = w6 Q.x (.int ((0 : Nat) : Int)) [] (xs.foldl It.af bs) (nT none) by rw [aO Q.a, aO Q.a, aO Q.a]; rfl]
 generalize xs.foldl It.af bs = cur at Ut hb2 d1 d2 ⊢
 refine XY E.az E.gf E.aT.1 (Tj (jH 1 E.eO.1 rfl rfl) (qM (dl := [.lst ((aX xs).map .str)]) (fun z => (z, m, f, bx, bg, pr, hs, R, 0, [], cur, none, aX xs)) (.pin y (.ins "FlatRun" (w6 Q.x (.int (Eg R hs (aX xs, 0, cur))) [] (Eh R hs (aX xs, 0, cur)) (nT none)))) E.lJ E.aT.1 (.pin rfl) (aE (kN (jH 2 E.eO.1 rfl rfl)) bA) (fun z _ => by dsimp only [cN]; exact ⟨hG, hf, hb2, by omega⟩) (fun z _ => rfl) (fun z hz => by subst hz; exact ⟨rfl, .inr rfl, trivial⟩) (Ue Q.a Q.a Q.a Q.a Q.a) (fun z hz => by subst hz; rfl)) (by rw [sizeLine_eq, List.length_map, uf]; omega)) rfl (PY _ _ _ _ _) (aF ⟨rfl, ?_⟩)
 rw [show iA "first_rows" (.lst (((tQ xs bs).map J.d ++ su R hs (aX xs, 0, cur)).map T.sh)) (w6 Q.x (.int (Eg R hs (aX xs, 0, cur))) [] (Eh R hs (aX xs, 0, cur)) (nT none)) = w6 Q.x (.int (Eg R hs (aX xs, 0, cur))) [] (Eh R hs (aX xs, 0, cur)) (nT (some ((tQ xs bs).map J.d ++ su R hs (aX xs, 0, cur)))) by
   unfold w6
   rw [aO Q.a, aO Q.a, aO Q.a, aO Q.a]
   rfl]
 exact ju (ds := [_, _, _])
theorem fc : qa (ak jN) ([("self", aA), ("boxes", aA), ("place", aA), ("script", aA), ("step", aA), ("performed", aK)]) = true := Q.j
theorem qN : aP ["self", "boxes", "place", "script", "step"] ["self", "boxes", "place", "script"] (ak jN) := bz
abbrev iX : Stmt := inClass (top 20) 0
abbrev lK : Type := Nat × (List (Str × Int)) × List It × List L3.D × List Str × Q.o
def oz : lK -> List L3.D := fun (f, bx, xs, pr, hs, R) => [(eN (bx.map qd) (hs.map .str) (xs.map It.d) pr (jg R))]
def jz : lK -> Prop := fun (f, bx, xs, pr, hs, R) => qe bx.length f hs R /\ 0 < f /\ bx.length <= 1000 /\ xs.length <= 200 /\ (∀ x ∈ xs, Lg bx.length x)
def oA : lK -> List (Str × T) := fun (f, bx, xs, pr, hs, R) => (w6 (eN (bx.map qd) (hs.map .str) (xs.map It.d) pr (jg R)) (.int (Eg R hs (aX xs, 0, xs.foldl It.af (bx.map (·.2))))) [] (Eh R hs (aX xs, 0, xs.foldl It.af (bx.map (·.2)))) (nT (some ((tQ xs (bx.map (·.2))).map J.d ++ su R hs (aX xs, 0, xs.foldl It.af (bx.map (·.2)))))) : List (Str × T))
structure zE (X : Cx) (CL : Q.e) : Prop extends dg X where
 aT : Ln X 0 "self"
 ez : Ln X 1 "table"
 Ql : Gl X "Runner"
 m9 : FkM X CL "Runner" "__init__" 7 4 fE fF fG dU
 az : j5 X.K (CL "FlatRun")
 bB : j5 X.K (CL "Table")
 dQ : aG X.K (CL "FlatRun") "table"
 m7 : aG X.K (CL "Table") "begin"
 aQ : aG X.K (CL "FlatRun") "boxes"
 bL : aG X.K (CL "Table") "boxes"
theorem zF (E : zE X CL) (f : Nat) (bx : List (Str × Int)) (xs : List It) (pr : List L3.D) (hs : List Str) (R : Q.o) (y : Addr) (h : qe bx.length f hs R /\ 0 < f /\ bx.length <= 1000 /\ xs.length <= 200 /\ (∀ x ∈ xs, Lg bx.length x)) :
   cH X CL b (b9 iX) (NW ["self", "table"] y "FlatRun" [(eN (bx.map qd) (hs.map .str) (xs.map It.d) pr (jg R))]) { nx := fun δ => δ[0]? = some (some (.pin y (.ins "FlatRun" (w6 (eN (bx.map qd) (hs.map .str) (xs.map It.d) pr (jg R)) (.int (Eg R hs (aX xs, 0, xs.foldl It.af (bx.map (·.2))))) [] (Eh R hs (aX xs, 0, xs.foldl It.af (bx.map (·.2)))) (nT (some ((tQ xs (bx.map (·.2))).map J.d ++ su R hs (aX xs, 0, xs.foldl It.af (bx.map (·.2)))))))))), rt := fun _ _ => False } := by
 obtain ⟨hG, hf, hb, hx, hxo⟩ := h
 refine nO E.az E.dQ E.aT.1 (v_ E.ez.1) rfl (ahA rfl) ?_
 have Ut : (bx.map (·.2)).length = bx.length := ahx ..
 refine xE (kM1 (fun z => (z, bx.length, f, bx.map qd, xs.map It.d, pr, hs, R, bx.map (·.2), xs)) (.pin y (.ins "FlatRun" (w6 (eN (bx.map qd) (hs.map .str) (xs.map It.d) pr (jg R)) (.int (Eg R hs (aX xs, 0, xs.foldl It.af (bx.map (·.2))))) [] (Eh R hs (aX xs, 0, xs.foldl It.af (bx.map (·.2)))) (nT (some ((tQ xs (bx.map (·.2))).map J.d ++ su R hs (aX xs, 0, xs.foldl It.af (bx.map (·.2)))))))))
   E.m9 E.Ql (mC E.aT.1 rfl (dI (kN (cP (Ji (p := fun _ => true) (g := fun d => T.sh d.at2) (lC .nil Q.a) E.g.calm (qm (gK E.bB E.bL (v_ E.ez.1) qy)) (.inr rfl) (fun C s0 H0 f0 b' d hd => ?Yw) (aiC (jl (by simp; omega)))) (t2 := .lst (((bx.map (·.2)).map .int).map T.sh)) ?ceq)) (dI au (dI (gK E.bB E.m7 (v_ E.ez.1) E9) cV))))
   (fun z _ => by dsimp only [fF]; exact ⟨hG, hf, Ut, hx, hxo⟩) (fun z _ => rfl) (fun z hz => by cases hz.1; exact ⟨rfl, .inr rfl, trivial⟩) (fun z hz => by cases hz.1; rfl)) (aF rfl)
 case ceq =>
   refine congrArg T.lst ?_
   rw [ig, aie, aie, aie]
   rfl
 case Yw =>
   obtain ⟨q, _, rfl⟩ := ahS.mp hd
   exact ⟨rfl, fun _ => fk (cL (ao (v_ (j7 (i := 0) rfl Q.a))) (ao au) (fS (j := 1) rfl)) rfl⟩
theorem ko : qa (ak iX) ([("self", aA), ("table", aA), ("Runner", aK)]) = true := Q.j
theorem pX : aP ["self", "table"] ["self", "table"] (ak iX) := bz
abbrev jP : Stmt := inClass (top 18) 3
abbrev jQ : Type := Addr × Nat × Nat × List L3.D × List L3.D × List L3.D × List Str × Q.o × Nat × List Ff × List Int × Option (List L3.D) × Str
def fH : jQ -> List T := fun (y, m, f, bx, bg, pr, hs, R, a, l, bs, eo, sg) => [.pin y (.ins "FlatRun" (b8 Q.x (.int a) (dw l) bs (nT eo))), .sh (.str sg)]
def dW : jQ -> List T := fun (y, m, f, bx, bg, pr, hs, R, a, l, bs, eo, sg) => [.pin y (.ins "FlatRun" (b8 Q.x (.int (Eg R hs ([sg], a, bs))) (dw (l ++ [(a, bs, su R hs ([sg], a, bs))])) (Eh R hs ([sg], a, bs)) (nT eo))), .sh (.str sg)]
def dX : jQ -> Prop := fun (y, m, f, bx, bg, pr, hs, R, a, l, bs, eo, sg) => qe m f hs R /\ a < f /\ bs.length = m /\ l.length <= 1000
def fJ : jQ -> T := fun (y, m, f, bx, bg, pr, hs, R, a, l, bs, eo, sg) => (.lst ((su R hs ([sg], a, bs)).map T.sh) : T)
structure AZ (X : Cx) (CL : Q.e) : Prop extends dg X where
 aT : Ln X 0 "self"
 lH : Ln X 1 "sign"
 rL : Ln X 2 "place"
 bG : Ln X 3 "boxes"
 bD : Ln X 4 "rows"
 cB : Gl X "list"
 cj : X.mg "list" = none
 lJ : XU X CL "FlatRun" "dealt" 6 2 dz cN dB cM
 az : j5 X.K (CL "FlatRun")
 bB : j5 X.K (CL "Table")
 aR : aG X.K (CL "FlatRun") "place"
 aQ : aG X.K (CL "FlatRun") "boxes"
 bL : aG X.K (CL "Table") "boxes"
 bK : aG X.K (CL "FlatRun") "past"
theorem A1 (E : AZ X CL) (y m f bx bg pr hs R a l bs eo sg) (h : dX (y, m, f, bx, bg, pr, hs, R, a, l, bs, eo, sg)) :
   cH X CL b (b9 jP) (mY ["self", "sign", "place", "boxes", "rows"] (fH (y, m, f, bx, bg, pr, hs, R, a, l, bs, eo, sg))) { nx := fun δ => fJ (y, m, f, bx, bg, pr, hs, R, a, l, bs, eo, sg) = .sh .non /\ Keeps δ (dW (y, m, f, bx, bg, pr, hs, R, a, l, bs, eo, sg)), rt := fun EW δ => EW = fJ (y, m, f, bx, bg, pr, hs, R, a, l, bs, eo, sg) /\ Keeps δ (dW (y, m, f, bx, bg, pr, hs, R, a, l, bs, eo, sg)) } := by
 dsimp only [dX, fH, fJ, dW] at h ⊢
 obtain ⟨hG, ha, hb, hpa⟩ := h
 obtain ⟨_, XS⟩ := vD hG (cs := [sg]) ha hb
 refine bE E.g E.rL (oS (p := [.fld "place"]) (yJ E.az E.aR (bO E.aT.1 rfl) rfl rfl yW) rfl Hs) ?_
 refine bE E.g E.bG (oS (p := [.fld "boxes"]) (yJ E.az E.aQ (bO E.aT.1 rfl) rfl rfl yX) rfl Ht) ?_
 refine gM E.g E.bD (qM (dl := [.lst [.str sg]]) (fun z => (z, m, f, bx, bg, pr, hs, R, a, dw l, bs, eo, [sg])) (.pin y (.ins "FlatRun" (b8 Q.x (.int (Eg R hs ([sg], a, bs))) (dw l) (Eh R hs ([sg], a, bs)) (nT eo)))) E.lJ E.aT.1 (.pin rfl) (aE (kN (ds := [.str sg]) (dG (aE (v_ E.lH.1) bA) (ay rfl))) bA) (fun z _ => by dsimp only [cN]; exact ⟨hG, ha, hb, by simp⟩) (t := .lst ((su R hs ([sg], a, bs)).map T.sh)) (fun z _ => rfl) (fun z hz => by subst hz; exact ⟨rfl, .inr rfl, trivial⟩) (xK Q.a Q.a Q.a Q.a Q.a) (fun z hz => by subst hz; rfl)) ?_
 rw [zc]
 dsimp only
 generalize su R hs ([sg], a, bs) = fr at XS ⊢
 generalize Eg R hs ([sg], a, bs) = a2
 generalize Eh R hs ([sg], a, bs) = b2
 have hpl : (dw l).length <= 1000 := by unfold dw; rw [ahx]; exact hpa
 generalize dw l = pt at hpl ⊢
 refine X9 (i := 4) rfl fun z => ?_
 refine CT (p := [.fld "past"]) (yJ E.az E.bK (bO E.aT.1 rfl) rfl rfl k8) rfl vG (oK (aE (v_ E.rL.1) (aE (v_ E.bG.1) (aE (O7 E.bD.1 rfl) bA))) (ay rfl)) rfl vG Q.c ?_
 rw [zb]
 exact cO (abr (δ2 := [some (.pin y (.ins "FlatRun" (b8 Q.x (.int a2) (pt ++ [.tup [.sh (.int a), .sh (.lst (bs.map .int)), .lst (fr.map T.sh)]]) b2 (nT eo)))), some (.sh (.str sg)), some (.sh (.int a)), some (.sh (.lst (bs.map .int))), some (.sh (.val (.ref z)))]) (O8 (i := 0) [.fld "past", .ix pt.length, .ix 2] (eZ E.cj (K7 (i := 0) (p := [.fld "past", .ix pt.length, .ix 2]) E.bD.1 rfl rfl BU (bX fr)) XS E.cB bu) rfl BU) (by rw [Lk]; rfl)) ⟨rfl, ju (ds := [_])⟩
theorem fh : qa (ak jP) ([("self", aA), ("sign", aA), ("place", aA), ("boxes", aA), ("rows", aA), ("list", aK)]) = true := Q.j
theorem qO : aP ["self", "sign", "place", "boxes", "rows"] ["self", "sign"] (ak jP) := bz
theorem LC (l : List Ff) : T.c5 (dw l) = jX l := by
 unfold dw jX
 induction l with
 | nil => rw [ai0, ai0, T.c5]
 | cons q l ih => rw [ahO, ahO, T.c5, ih, T.aZ, T.c5, T.c5, T.c5, T.c5, T.aZ, T.aZ, bX]
theorem Fy : T.aZ (.ins "FlatRun" (b8 cd pl (dw l) bs (nT eo))) = .ins "FlatRun" (iw cd pl (jX l) bs (AJ eo)) := by rw [Fg, LC]
theorem abV {m : Nat} {x : It} (h : Lg m x) (bs : List Int) (k : Nat) : gI (k + 2) (x.j bs).d := by
 cases x with
 | jV q =>
   cases q with
   | put i a c =>
     refine .tup (ds := [.str "put", .int i, .int _, .int _]) fun d hd => ?_
     simp only [ahH, ahK, ai8] at hd
     rcases hd with rfl | rfl | rfl | rfl
     . exact .str _ _ Q.a
     . exact .int _ _
     . exact .int _ _
     . exact .int _ _
   | say s a c => exact PF (.str _ "say" Q.a) (.str _ _ (wJ h.1)) (.int _ _)
   | call s => exact qB (.str _ "call" Q.a) (.str _ _ (wJ h))
 | out i => exact yU (x := .out i) (m := m) h k
 | keep i p q => exact yU (x := .keep i p q) (m := m) h k
 | way i => exact yU (x := .way i) (m := m) h k
 | F0 i => exact yU (x := .F0 i) (m := m) h k
theorem HJ {m : Nat} (k : Nat) : ∀ {xs : List It} (bs : List Int), (∀ x ∈ xs, Lg m x) -> ∀ d ∈ (tQ xs bs).map J.d, gI (k + 2) d
 | [], _, _, d, hd => by cases hd
 | x :: xs, bs, h, d, hd => by
   rw [tQ, ahO] at hd
   rcases ahH.mp hd with rfl | hd
   . exact abV (h x ahw) bs k
   . exact HJ k (x.af bs) (fun y hy => h y (ahz _ hy)) d hd
theorem Fz {m : Nat} {xs : List It} (h : ∀ x ∈ xs, Lg m x) : ∀ x ∈ aX xs, PyData.strOk x = true := fun x hx => by
 obtain ⟨i, hi, he⟩ := ajD.mp hx
 have hg := h i hi
 cases i with
 | jV q =>
   cases q with
   | call s => cases he; exact wJ hg
   | put i a c => cases he
   | say s a c => cases he
 | _ => cases he
variable {m : Nat}
theorem Qm (h : qe m f hs R) {cs : List Str} {a : Nat} {bs : List Int} (ha : a < f) (hb : bs.length = m) (hc : ∀ x ∈ cs, PyData.strOk x = true) : ∀ j, (∀ x ∈ (r9 R hs j (cs, a, bs)).2.1, PyData.strOk x = true) /\ ∀ d ∈ (r9 R hs j (cs, a, bs)).1, gI 58 d
 | 0 => ⟨hc, fun d hd => absurd hd ahK⟩
 | j + 1 => by
   obtain ⟨kG, ih⟩ := Qm h (cs := cs) ha hb hc j
   obtain ⟨_, _, h5, _, _⟩ := vC h (cs := cs) ha hb j
   cases e : r9 R hs j (cs, a, bs) with
   | mk rs r =>
     obtain ⟨w, a2, b2⟩ := r
     rw [e] at ih h5 kG
     cases w with
     | nil =>
       rw [r9, e]
       exact ⟨kG, ih⟩
     | cons sg w =>
       rw [yV e]
       have hg := (Hr h h5 sg b2).2.1
       refine ⟨fun x hx => ?_, fun d hd => ?_⟩
       . rcases ahB.mp hx with z | z
         . exact kG x (ahz _ z)
         . exact Fz hg x z
       . rcases ahB.mp hd with z | z
         . exact ih d z
         . rcases ahH.mp z with rfl | z
           . exact qB (.str _ "sign" Q.a) (.str _ _ (kG sg ahw))
           . exact HJ 56 b2 hg d z
theorem DE (h : qe m f hs R) (ha : a < f) (hb : bs.length = m) (hc : ∀ x ∈ cs, PyData.strOk x = true) : ∀ d ∈ su R hs (cs, a, bs), gI 58 d := fun d hd => by
 unfold su at hd
 rcases ahB.mp hd with z | z
 . exact (Qm h ha hb hc 8).2 d z
 . split at z
   . cases z
   . rw [ail.mp z]
     exact qB (.str _ "rest" Q.a) (.int _ _)
abbrev HK := Nat × List Int × List Ff
def FD (R : Q.o) (hs : List Str) (s : HK) (sg : Str) : HK := (Eg R hs ([sg], s.1, s.2.1), Eh R hs ([sg], s.1, s.2.1), s.2.2 ++ [(s.1, s.2.1, su R hs ([sg], s.1, s.2.1))])
def cy (R : Q.o) (hs : List Str) (s0 : HK) (ns : List Str) : HK := ns.foldl (FD R hs) s0
structure zG (m f : Nat) (s : HK) : Prop where
 a : s.1 < f
 b : s.2.1.length = m
 c : ∀ q ∈ s.2.2, q.2.2.length <= 200 /\ D.bJ q.2.2 = true /\ ∀ d ∈ q.2.2, gI 58 d
variable {s0 : HK}
theorem vR (ns : List Str) (sg : Str) : cy R hs s0 (ns ++ [sg]) = FD R hs (cy R hs s0 ns) sg := by unfold cy; rw [List.foldl_append]; rfl
theorem Qn (ns : List Str) : (cy R hs s0 ns).2.2.length = s0.2.2.length + ns.length := by
 unfold cy
 induction ns generalizing s0 with
 | nil => rfl
 | cons sg ns ih =>
   rw [ajh, ih, ahY]
   show (s0.2.2 ++ [_]).length + _ = _
   rw [ahL, aiB]
   omega
theorem UI (h : qe m f hs R) (h0 : zG m f s0) (ns : List Str) (hn : ∀ x ∈ ns, PyData.strOk x = true) : zG m f (cy R hs s0 ns) := by
 unfold cy
 induction ns generalizing s0 with
 | nil => exact h0
 | cons sg ns ih =>
   rw [ajh]
   have ZM : ∀ x ∈ [sg], PyData.strOk x = true := fun x hx => by rw [ail.mp hx]; exact hn sg ahw
   refine ih ?_ fun x hx => hn x (ahz _ hx)
   obtain ⟨_, _, h5, h3, _⟩ := vC h (cs := [sg]) h0.a h0.b 8
   obtain ⟨r1, r2⟩ := vD h (cs := [sg]) h0.a h0.b
   refine ⟨h5, h3, fun q hq => ?_⟩
   rcases ahB.mp hq with z | z
   . exact h0.c q z
   . rw [ail.mp z]
     exact ⟨ain r1 Q.b, r2, DE h h0.a h0.b ZM⟩
def UJ (r : List L3.D) (s : HK) : L3.D := Fp s.1 s.2.2 s.2.1 r
def qP (R : Q.o) (hs : List Str) (s0 : HK) (r : List L3.D) (ns : List Str) : List L3.D := (List.range (ns.length + 1)).map fun k => UJ r (cy R hs s0 (ns.take k))
theorem B3 (ns : List Str) (sg : Str) : qP R hs s0 r (ns ++ [sg]) = qP R hs s0 r ns ++ [UJ r (cy R hs s0 (ns ++ [sg]))] := by
 unfold qP
 rw [ahL, aiB, aiT, ahD, List.map_singleton]
 congr 1
 . refine aiX fun k hk => ?_
   have := aiY.mp hk
   rw [List.take_append_of_le_length Q.c]
 . rw [show ns.length + 1 = (ns ++ [sg]).length by rw [ahL]; rfl, aiv]
theorem LD (ns : List Str) : ∃ l, qP R hs s0 r ns = l ++ [UJ r (cy R hs s0 ns)] := by
 unfold qP
 rw [aiT, ahD, List.map_singleton, aiv]
 exact ⟨_, rfl⟩
theorem Qo (ns : List Str) : (qP R hs s0 r ns).length = ns.length + 1 := by unfold qP; rw [ahx, air]
theorem Qp (h0 : ∀ d ∈ r, gI 58 d) (h : ∀ q ∈ l, ∀ d ∈ q.2.2, gI 58 d) : gI 60 (Fp a l bs r) := by
 unfold Fp
 refine .tup fun d hd => ?_
 simp only [ahH, ahK, ai8] at hd
 rcases hd with rfl | rfl | rfl | rfl | rfl
 . exact .int _ _
 . exact .lst (n := 58) fun d hd => by
     obtain ⟨i, _, rfl⟩ := ahS.mp hd
     exact .int _ _
 . exact .lst (n := 58) fun d hd => by
     obtain ⟨i, _, rfl⟩ := ahS.mp hd
     exact .int _ _
 . exact .lst (n := 58) fun d hd => vN h0 h d hd
 . exact .int _ _
theorem YK (h : gI n d) (hm : n <= m) : gI m d := by
 induction h generalizing m with
 | non n => exact .non _
 | bl n b => exact .bl _ _
 | int n i => exact .int _ _
 | str n x h => exact .str _ _ h
 | tup h ih =>
   obtain ⟨k, rfl⟩ : ∃ k, m = k + 1 := ⟨m - 1, by omega⟩
   exact .tup fun d hd => ih d hd Q.c
 | lst h ih =>
   obtain ⟨k, rfl⟩ : ∃ k, m = k + 1 := ⟨m - 1, by omega⟩
   exact .lst fun d hd => ih d hd Q.c
theorem Qq (ds : List L3.D) : FY (.lst ds) (.lst []) = decide (ds = []) := by
 unfold FY
 cases ds with
 | nil => decide +kernel
 | cons d ds =>
   rw [D.toPy, D.toPy, PyData.eqv, D.nM, D.nM, PyData.eqvAll]
   exact (aiM (fun z => by cases z)).symm
def sgL : List Str := ["go", "go2", "gog"]
def sgN (c : Int) : Str := sgL.getD (c / 3 % 3).toNat Str.empty
theorem YL (c : Int) : PyData.strOk (sgN c) = true := by
 have : ∀ k : Nat, k < 3 -> PyData.strOk (sgL.getD k Str.empty) = true := Q.j
 exact this _ Q.c
theorem yj {l : List L3.D} : wF (l ++ [d]) (-1) = some d := by
 unfold wF Ew
 rw [ahC Q.b, ahN (by simp; omega)]
 have : (-1 + ((l ++ [d]).length : Int)).toNat = l.length := by rw [ahL, aiB]; omega
 show (l ++ [d])[(-1 + ((l ++ [d]).length : Int)).toNat]? = _
 rw [this, aiO (ahG _), Nat.sub_self]
 rfl
def els : L3.D -> List L3.D
 | .lst l => l
 | _ => []
def V4 (d : L3.D) : T := .tup [.sh d.at1, .lst ((els d.at2).map T.sh)]
theorem Qs (kvs : List (bP × List L3.D)) : T.aZ (.lst (((b7 (dM kvs)).filter fun _ => true).map V4)) = .lst (b7 (dM kvs)) := by
 rw [ig, T.aZ]
 congr 1
 unfold b7 dM
 induction kvs with
 | nil => rw [ai0, ai0, ai0, T.c5]
 | cons q kvs ih =>
   rw [ahO, ahO, ahO, T.c5, ih]
   congr 1
   show T.aZ (.tup [.sh (Jj q.1), .lst (q.2.map T.sh)]) = _
   rw [T.aZ, T.c5, T.c5, T.c5, T.aZ, bX]
theorem UK (s : List Int) : ∀ q ∈ Mz s, ∃ (a : Nat) (x : Str), q.1 = Rn a x /\ x ∈ yR s := fun q hq => by
 obtain ⟨a, _, h⟩ := ajs.mp hq
 obtain ⟨k, hk, rfl⟩ := ahS.mp h
 have hk := aiY.mp hk
 refine ⟨a, (yR s).getD k Str.empty, rfl, ?_⟩
 rw [aiw, ahQ hk]
 exact List.getElem_mem hk
theorem YM {r : cu} (h : Yi r) (k : Nat) : gI (k + 4) (yP r) := PF (.tup fun d hd => by
 obtain ⟨q, hq, rfl⟩ := ahS.mp hd
 exact PF (.str _ _ (h.a q hq)) (qB (.int _ _) (.int _ _)) (qB (.int _ _) (.int _ _))) (Ua h.b k) (.int _ _)
theorem LJ (h : qe m f hs R) (hn : ∀ x ∈ hs, rZ x = true) (hk : ∀ q ∈ R, ∃ (a : Nat) (x : Str), q.1 = Rn a x /\ x ∈ hs) : gI 60 (.lst (b7 (dM (jg R)))) := .lst fun d hd => by
 rw [← C5] at hd
 obtain ⟨p, hp, rfl⟩ := ahS.mp hd
 obtain ⟨q, hq, rfl⟩ := ahS.mp hp
 obtain ⟨a, x, e, hx⟩ := hk q hq
 refine qB (n := 58) ?_ (.lst (n := 57) fun d hd => ?_)
 . show gI 58 (Jj q.1)
   rw [e]
   exact qB (.int _ _) (.str _ _ (wJ (hn x hx)))
 . obtain ⟨r, hr, rfl⟩ := ahS.mp hd
   exact YM ((h.b q hq).2 r hr).s 53
abbrev JK : Stmt := top 35
abbrev Qt : Type := List Int
def rR : Qt -> List L3.D := fun a => [.lst (a.map .int)]
def rS : Qt -> Prop := fun a => a.length <= 63
def rT : Qt -> T := fun a => (.sh (.bl true) : T)
structure abW (X : Cx) (CL : Q.e) : Prop extends dg X where
 bQ : Ln X 0 "script"
 ez : Ln X 1 "table"
 FE : Ln X 2 "fields"
 wL : Ln X 3 "kept_rows"
 kI : Ln X 4 "run"
 xZ : Ln X 5 "looks"
 x6 : Ln X 6 "parts"
 uN : Ln X 7 "named"
 vH : Ln X 8 "cell"
 cQ : Ln X 9 "heard"
 DF : Ln X 10 "fresh"
 lH : Ln X 11 "sign"
 DG : Gl X "_law_table"
 cB : Gl X "list"
 LK : Gl X "FlatRun"
 FG : Gl X "_law_look"
 DH : Gl X "_law_turns"
 zH : Gl X "_law_refused"
 UL : Fc X CL "_law_table" 7 1 rC rD rE
 cj : X.mg "list" = none
 LN : Fm X CL "FlatRun" 9 2 oz jz oA
 YN : Fc X CL "_law_look" 2 1 uA qI uB
 UM : Fc X CL "_law_turns" 1 3 rG oh rH
 LQ : Fc X CL "_law_refused" 2 1 mL mO mP
 sH : XU X CL "FlatRun" "feed" 7 2 fH dX fJ dW
 qJ : ZF X CL "FlatRun" "back" 1 1 d7 d8 d9
 sG : XU X CL "FlatRun" "back" 1 1 dR fD dS cZ
 az : j5 X.K (CL "FlatRun")
 bB : j5 X.K (CL "Table")
 aQ : aG X.K (CL "FlatRun") "boxes"
 bL : aG X.K (CL "Table") "boxes"
 fK : aG X.K (CL "Table") "signs"
 fL : aG X.K (CL "Table") "flats"
 fq : aG X.K (CL "Table") "rows"
theorem abX (E : abW X CL) {a} (h : rS a) :
   aN X CL b JK ["script", "table", "fields", "kept_rows", "run", "looks", "parts", "named", "cell", "heard", "fresh", "sign"] (rR a) (rT a) := by
 dsimp only [aN, rS, rR, rT] at h ⊢
 have hs : a.length <= 63 := by omega
 obtain ⟨b1, b2, b3, b4, b5, b6⟩ := T6 a
 have hhn := PK a
 have Ut : (Hh a).length = Lc a := by unfold Hh; rw [ahx, air]
 have hx : ∀ x ∈ Ld a, Lg (Hh a).length x := by rw [Ut]; exact PJ Q.c hhn _
 have hxl : (Ld a).length <= 3 := C2 _ _ _
 have hG := PN a
 rw [← Ut] at hG b1
 have hK := UK a
 have hbd := Yo (Yl a) 57
 have ib : D.bJ ((Hh a).map qd) = true := bF (fun _ => rfl) _
 have ip : D.bJ ((List.range (Ay a)).map mh) = true := bF (fun _ => rfl) _
 have ix : D.bJ ((Ld a).map It.d) = true := bF oV _
 have hc0 := Fz hx
 have hc1 : (aX (Ld a)).length <= (Ld a).length := ait _ _
 refine bE E.g E.ez (CH (d := eN ((Hh a).map qd) ((yR a).map .str) ((Ld a).map It.d) ((List.range (Ay a)).map mh) (jg (Mz a))) (cP (c_ a E.UL E.DG (aJ (cC E.bQ) cU) (by show a.length <= 1000; omega) (yT ib (nP _) ix ip C6)) rfl) (PD ..)) ?_
 generalize Hh a = bs at Ut hx hG ib b1 hbd ⊢
 generalize yR a = hh at hhn hG hK b4 ⊢
 generalize Ld a = xs at hx hxl ix hc0 hc1 ⊢
 generalize Ay a = n at hG b2 b3 ip ⊢
 generalize Mz a = R at hG hK ⊢
 have dk := LJ hG hhn hK
 have hml : (bs.map (·.2)).length = bs.length := ahx ..
 have d3 : gI 60 Q.E := .lst fun d hd => by
   simp only [ahH, ahK, ai8] at hd
   rcases hd with rfl | rfl | rfl
   . exact hbd
   . exact PX hhn 58
   . exact Ud n 56
 have hkl : (dM (jg R)).length <= sizeLine := by
   rw [← C5]
   unfold dcD
   rw [ahx]
   exact aiC (jl (by have := hG.d; omega))
 refine bE E.g E.FE (CH (d := .lst [.lst (bs.map qd), .lst (hh.map .str), .lst ((List.range n).map mh)]) (dG (aE (eZ E.cj (jq E.bB E.bL (cC E.ez) qy) ib E.cB bu) (aE (eZ E.cj (jq E.bB E.fK (cC E.ez) qz) (nP _) E.cB bu) (aE (eZ E.cj (jq E.bB E.fL (cC E.ez) qA) ip E.cB bu) bA))) (ay rfl)) (by rw [T.aZ, T.c5, T.c5, T.c5, T.c5, bX, bX, bX])) ?_
 refine X8 (parts := part2) (p := fun _ => true) (g := V4) E.g E.wL (Jg (xs := ["spot", "rows"]) .nil Q.a) (gK E.bB E.fq (v_ E.ez.1) sW) (.inr rfl) (fun C s0 H0 f0 b' => ⟨Jf (by show List.Nodup (["spot", "rows"] : List Str); decide +kernel) E.g.calm (yE rfl Q.a) (yE rfl Q.a), fun d hd => ?aeF⟩) hkl ?abY (by exact ahA rfl) (yw ⟨_, rfl⟩)
 case aeF =>
   obtain ⟨p, hp, rfl⟩ := ahS.mp hd
   obtain ⟨q, hq, rfl⟩ := ahS.mp hp
   exact ⟨_, rfl, rfl, rfl, fun _ => cP (oK (aE (v_ (j7 (i := 0) rfl Q.a)) (aE (nL (by exact E.cj) (v_ (j7 (i := 1) rfl Q.a)) (ua Q.a) bu) bA)) (ay rfl)) rfl⟩
 case abY =>
 refine VL (i := 3) (d := .lst (b7 (dM (jg R)))) rfl (Qs _) ?_
 obtain ⟨TD, ZN⟩ : ∃ TD, TD = eN (bs.map qd) (hh.map .str) (xs.map It.d) ((List.range n).map mh) (jg R) := ⟨_, rfl⟩
 have Lz : (xs.foldl It.af (bs.map (·.2))).length = bs.length := (oW xs _).trans hml
 have hn0 : 0 < n := by omega
 obtain ⟨_, _, hA, hB, _⟩ := vC hG (cs := aX xs) hn0 Lz 8
 obtain ⟨hr1, hr2⟩ := vD hG (cs := aX xs) hn0 Lz
 have hr3 := DE hG hn0 Lz hc0
 have Um : ((tQ xs (bs.map (·.2))).map J.d).length <= 3 := by rw [ahx, uf]; omega
 obtain ⟨A0, hA0⟩ : ∃ A0, A0 = Eg R hh (aX xs, 0, xs.foldl It.af (bs.map (·.2))) := ⟨_, rfl⟩
 obtain ⟨B0, hB0⟩ : ∃ B0, B0 = Eh R hh (aX xs, 0, xs.foldl It.af (bs.map (·.2))) := ⟨_, rfl⟩
 obtain ⟨r0, hr0⟩ : ∃ r0, r0 = (tQ xs (bs.map (·.2))).map J.d ++ su R hh (aX xs, 0, xs.foldl It.af (bs.map (·.2))) := ⟨_, rfl⟩
 have hA : A0 < n := by rw [hA0]; exact hA
 have hB : B0.length = bs.length := by rw [hB0]; exact hB
 have hri : D.bJ r0 = true := by
   rw [hr0]
   refine oN fun d hd => ?_
   rcases ahB.mp hd with z | z
   . exact gb (xJ _ _) d z
   . exact gb hr2 d z
 have hrl : r0.length <= 100 := by rw [hr0, ahL]; omega
 have hrd : ∀ d ∈ r0, gI 58 d := fun d hd => by
   rw [hr0] at hd
   rcases ahB.mp hd with z | z
   . exact HJ 56 _ hx d z
   . exact hr3 d z
 have ZL : ∀ {δ : Q.f} {i : Nat} {p1 p2 p3 : Pos}, Ln X i "table" -> δ[i]? = some (some Q.D) -> bS X CL b (.Call (.Name "FlatRun" p1) [.Name "table" p2] [] p3) δ (.ins "FlatRun" (b8 TD (.int A0) (dw []) B0 (nT (some r0)))) δ := fun nm hd => cP (mkF (n, bs, xs, (List.range n).map mh, hh, R) E.LN E.LK (aE (v_ nm.1 hd) bA) (by dsimp only [jz]; exact ⟨hG, by omega, by omega, by omega, hx⟩)) (by rw [hA0, hB0, hr0, ZN]; rfl)
 clear hr1 hr2 hr3 Um Lz hA0 hB0 hr0 hc0 hc1
 refine bE E.g E.kI (ZL E.ez rfl) ?_
 have hG0 : zG bs.length n (A0, B0, []) := ⟨hA, hB, fun q hq => absurd hq ahK⟩
 have hlen : ∀ ns : List Str, (cy R hh (A0, B0, []) ns).2.2.length = ns.length := fun ns => by rw [Qn]; show 0 + _ = _; omega
 have hlk : ∀ (s : HK), zG bs.length n s -> s.2.2.length <= 1000 -> qI (bs.map qd, hh.map .str, xs.map It.d, n, jg R, s.1, s.2.2, s.2.1, r0) /\ gI 60 (UJ r0 s) := fun s h hl => ⟨⟨h.a, by rw [h.b]; omega, ⟨hri, by omega⟩, hl, fun q hq => ⟨(h.c q hq).1, (h.c q hq).2.1⟩⟩, Qp hrd fun q hq => (h.c q hq).2.2⟩
 have hlc : ∀ (s : HK), zG bs.length n s -> (BW s.1 s.2.2 s.2.1 r0).clean = true := fun s h => by
   unfold BW
   rw [T.clean, T.bR, T.bR, T.bR, T.bR, T.bR, T.bR, jv, jv, dJ (oN (vN (P := fun d => d.mq = true) (gb hri) fun q hq => gb (h.c q hq).2.1))]
   rfl
 have FH : ∀ {s : HK} {δ : Q.f} {i : Nat} {x : Str} {p1 p2 p3 : Pos}, zG bs.length n s -> s.2.2.length <= 1000 -> Vn X i x -> δ[i]? = some (some (.ins "FlatRun" (b8 TD (.int s.1) (dw s.2.2) s.2.1 (nT (some r0))))) -> bS X CL b (.Call (.Name "_law_look" p1) [.Name x p2] [] p3) δ (.sh (UJ r0 s)) δ := fun {s δ i x p1 p2 p3} h hl nm hd => CH (cP (c_ (bs.map qd, hh.map .str, xs.map It.d, n, jg R, s.1, s.2.2, s.2.1, r0) E.YN E.FG (aJ (vE nm hd (by rw [Fy, ZN])) cU) (hlk s h hl).1 (hlc s h)) rfl) (Qc ..)
 refine bE E.g E.xZ (dG (aE (FH (s := (A0, B0, [])) hG0 (ah8 _) E.kI.1 rfl) bA) (ay rfl)) ?_
 refine bE E.g E.x6 (dG bA (ah8 _)) ?_
 refine bE E.g E.uN (dG bA (ah8 _)) ?_
 obtain ⟨s0, Ul⟩ : ∃ s0 : HK, s0 = (A0, B0, []) := ⟨_, rfl⟩
 have htl := Uv a 16 30
 have YQ : ∀ ns : List Str, (∀ x ∈ ns, PyData.strOk x = true) -> zG bs.length n (cy R hh s0 ns) := fun ns h => UI hG (by rw [Ul]; exact hG0) ns h
 have hlen : ∀ ns : List Str, (cy R hh s0 ns).2.2.length = ns.length := fun ns => by rw [Ul]; exact hlen ns
 refine t9 E.g E.vH (fun j δ => ∃ (ns : List Str) (o8 o9 : Option T), (ns.length <= j /\ ∀ x ∈ ns, PyData.strOk x = true) /\ δ = [some (.sh (.lst (a.map .int))), some Q.D, some (.sh Q.E), some (.sh (.lst (b7 (dM (jg R))))), some Q.H, some (.lst ((qP R hh s0 r0 ns).map T.sh)), some (.lst (((cy R hh s0 ns).2.2.map fun q => L3.D.lst q.2.2).map T.sh)), some (.lst ((ns.map .str).map T.sh)), o8, o9, none, none])
   (qm (kN (ds := (ZK a 16 30).map .int) (cP (c_ ((a, 16, 30)) E.UM E.DH (aJ (cC E.bQ) (aJ (ao au) (aJ (ao au) cU))) (by dsimp only [oh]; exact (⟨by omega, by decide, by decide, by decide⟩)) (jv _)) rfl))) ⟨[], _, _, ⟨Nat.le_refl _, fun x hx => absurd hx List.not_mem_nil⟩, by rw [Ul]; rfl⟩ (fun j δ ⟨_, _, _, _, e⟩ => by subst e; exact Nat.le_of_ble_eq_true rfl) ?turn ?fin
 case turn =>
   rintro j d δ hj ⟨ns, o8, o9, ⟨ZO, Gp⟩, rfl⟩
   obtain ⟨c, rfl, _, hcm, Um, _, _⟩ := N4 hj
   have afz : ns.length <= 63 := by omega
   have hdP : ∀ ns : List Str, (∀ x ∈ ns, PyData.strOk x = true) -> gI 60 (.lst ((cy R hh s0 ns).2.2.map fun q => L3.D.lst q.2.2)) := fun ns h => .lst fun d hd => by
     obtain ⟨q, hq, rfl⟩ := ahS.mp hd
     exact .lst fun d hd => ((YQ ns h).c q hq).2.2 d hd
   refine aaU (fun δ => ∃ (ns : List Str) (o9 : Option T), (ns.length <= j + 1 /\ ∀ x ∈ ns, PyData.strOk x = true) /\ δ = [some (.sh (.lst (a.map .int))), some Q.D, some (.sh Q.E), some (.sh (.lst (b7 (dM (jg R))))), some Q.H, some (.lst ((qP R hh s0 r0 ns).map T.sh)), some (.lst (((cy R hh s0 ns).2.2.map fun q => L3.D.lst q.2.2).map T.sh)), some (.lst ((ns.map .str).map T.sh)), some (.sh (.int c)), o9, none, none]) (R3 (Gy (vh (ao (mX (cC E.vH) (ao au) Q.b)) (ao au)).1 (fun _ => Cv (NS E.u (vL E.x6.1) (vn (ds := []) (dG bA (ah8 _))) (hdP ns Gp) (Pa [])).1))) (fun hp => ?b1) (fun hp => ?b2) ?tail
   case b1 =>
     rw [ah0] at hp
     have hz : ns = [] := by
       have h2 := hp.2
       rw [Qq] at h2
       have h2 := congrArg List.length (ahX h2)
       rw [ahx, hlen] at h2
       exact ajL.mp h2
     subst hz
     refine iu (Nz (Ny (cP (c_ (TD, .int (s0.1 : Nat), s0.2.1, some r0) E.LQ E.zH (aJ (vE E.kI.1 rfl (by rw [Fy]; show L3.D.ins "FlatRun" (iw TD _ (jX s0.2.2) _ _) = _; rw [Ul]; rfl)) cU) trivial rfl) (t2 := .sh (.bl true)) rfl))) (fun hp => by cases hp) (fun _ => aF (aF ⟨[], o9, ⟨by omega, Gp⟩, rfl⟩))
   case b2 =>
     refine iu (vh (ao (mX (cC E.vH) (ao au) Q.b)) (ao au)).1 (fun hc => ?c1) (fun hc => ?c2)
     case c1 =>
       have hne : ns ≠ [] := by
         rintro rfl
         rw [hc, Bool.true_and, Qq, show (cy R hh s0 []).2.2 = [] by rw [Ul]; rfl] at hp
         cases hp
       obtain ⟨ns, sg, rfl⟩ : ∃ l x, ns = l ++ [x] := ⟨ns.dropLast, ns.getLast hne, (List.dropLast_concat_getLast hne).symm⟩
       have Qu : ∀ x ∈ ns, PyData.strOk x = true := fun x hx => Gp x (ahy _ hx)
       have bY := YQ ns Qu
       have ag4 : ns.length + 1 <= j := by rw [ahL] at ZO; exact ZO
       have Ro := hlen ns
       have hdr : gI 60 (.lst (su R hh ([sg], (cy R hh s0 ns).1, (cy R hh s0 ns).2.1))) := YK (.lst (DE hG bY.a bY.b fun x hx => Gp x (ahu _ hx))) Q.b
       show cH X CL b _ [some (.sh (.lst (a.map .int))), some Q.D, some (.sh Q.E), some (.sh (.lst (b7 (dM (jg R))))), some (.ins "FlatRun" (b8 TD (.int (cy R hh s0 (ns ++ [sg])).1) (dw (cy R hh s0 (ns ++ [sg])).2.2) (cy R hh s0 (ns ++ [sg])).2.1 (nT (some r0)))), some (.lst ((qP R hh s0 r0 (ns ++ [sg])).map T.sh)), some (.lst (((cy R hh s0 (ns ++ [sg])).2.2.map fun q => L3.D.lst q.2.2).map T.sh)), some (.lst (((ns ++ [sg]).map .str).map T.sh)), some (.sh (.int c)), o9, none, none] _
       rw [B3, vR, ahD (l₁ := qP R hh s0 r0 ns), ahD (l₁ := ns), ahD (l₁ := ns.map L3.D.str)]
       unfold FD
       dsimp only
       rw [ahD (l₁ := (cy R hh s0 ns).2.2), ahD (l₁ := (cy R hh s0 ns).2.2.map fun q => L3.D.lst q.2.2)]
       generalize kG : cy R hh s0 ns = st at bY Ro hdr ⊢
       obtain ⟨A, B, L⟩ := st
       dsimp only at bY Ro hdr ⊢
       refine xE (xG (p := []) (t := .sh (.str sg)) (tl := (ns.map L3.D.str).map T.sh) (bO E.uN.1 rfl) rfl rfl) ?_
       refine xE (xG (p := []) (tl := (qP R hh s0 r0 ns).map T.sh) (t := .sh _) (bO E.xZ.1 rfl) rfl rfl) ?_
       refine gM E.g E.cQ (qM0 (fun z => (z, TD, .int (Eg R hh ([sg], A, B)), L, (A, B, su R hh ([sg], A, B)), Eh R hh ([sg], A, B), some r0)) (.ins "FlatRun" (b8 TD (.int A) (dw L) B (nT (some r0)))) E.sG E.kI.1 (.own rfl) (fun z _ => by show L.length <= 1000; omega) (t := .lst ((su R hh ([sg], A, B)).map T.sh)) (fun z _ => rfl) (fun z _ => ⟨rfl, .inl rfl, trivial⟩) (xK Q.a Q.a Q.a Q.a Q.a) (fun z _ => rfl)) ?_
       refine VP (TJ E.u E.cQ.1 rfl (xG (p := []) (tl := (L.map fun q => L3.D.lst q.2.2).map T.sh) (t := .sh (.lst (su R hh ([sg], A, B)))) (bO E.x6.1 rfl) rfl rfl) rfl (bX _) rfl hdr hdr) (fun hp => absurd hp (V1 hdr)) (fun _ => aF ?_)
       have ag5 : (su R hh ([sg], A, B)).length <= 33 := (vD hG (cs := [sg]) bY.a bY.b).1
       refine sf E.cQ.1 rfl (cI (ds := [.str "sign", .str "more"]) (aW bW (aW bW e7)) (ay rfl)) rfl (by rw [ahx]; omega) (aF (aF ⟨ns, some (.lst ((su R hh ([sg], A, B)).map T.sh ++ [.sh (.tup [.str "sign", .str "more"])])), ⟨by omega, Qu⟩, ?_⟩))
       rw [kG]
       rfl
     case c2 =>
       have c1 := ah7 (c / 3) (b := 3) Q.b
       have c2 := ahZ (c / 3) (b := 3) Q.b
       refine sf E.uN.1 rfl (cP (fk (oM (vn (CG (xD (l := sgL) rfl) (ay rfl))) (ao (mX (ao (Ja (cC E.vH) (ao au) ⟨by decide, by decide⟩)) (ao au) Q.b)) (yx Str.empty (l := sgL) c1 (show c / 3 % 3 < 3 from c2))) rfl) (t2 := .sh (.str (sgN c))) rfl) rfl (by rw [ahx, ahx]; omega) ?_
       have ZM := YL c
       generalize sgN c = sg at ZM ⊢
       have aeJ : ∀ x ∈ [sg], PyData.strOk x = true := fun x hx => by rw [ail.mp hx]; exact ZM
       have Qu : ∀ x ∈ ns ++ [sg], PyData.strOk x = true := fun x hx => by
         rcases ahB.mp hx with z | z
         . exact Gp x z
         . exact aeJ x z
       have bY := YQ ns Gp
       have HL := YQ _ Qu
       have Ro := hlen ns
       have ab1 := hlen (ns ++ [sg])
       have V5 := vR (R := R) (hs := hh) (s0 := s0) ns sg
       have hls := B3 (R := R) (hs := hh) (s0 := s0) (r := r0) ns sg
       have Xl := Qo (R := R) (hs := hh) (s0 := s0) (r := r0) ns
       rw [ahL, aiB] at ab1
       generalize GF : cy R hh s0 (ns ++ [sg]) = WD at HL ab1 V5 hls
       show cH X CL b _ [some (.sh (.lst (a.map .int))), some Q.D, some (.sh Q.E), some (.sh (.lst (b7 (dM (jg R))))), some Q.H, some (.lst ((qP R hh s0 r0 ns).map T.sh)), some (.lst (((cy R hh s0 ns).2.2.map fun q => L3.D.lst q.2.2).map T.sh)), some (.lst ((ns.map L3.D.str).map T.sh ++ [T.sh (.str sg)])), some (.sh (.int c)), o9, none, none] _
       have ena : (ns.map L3.D.str).map T.sh ++ [T.sh (.str sg)] = ((ns ++ [sg]).map L3.D.str).map T.sh := by rw [ahD, ahD]; rfl
       rw [ena]
       generalize kG : cy R hh s0 ns = st at bY Ro V5 ⊢
       obtain ⟨A, B, L⟩ := st
       dsimp only at bY Ro ⊢
       have SW := vD hG (cs := [sg]) bY.a bY.b
       unfold FD at V5
       dsimp only at V5
       generalize qP R hh s0 r0 ns = lk at hls Xl ⊢
       refine gM E.g E.cQ (qM (dl := [.str sg]) (fun z => (z, bs.length, n, bs.map qd, xs.map It.d, (List.range n).map mh, hh, R, A, L, B, some r0, sg)) (.ins "FlatRun" (b8 TD (.int (Eg R hh ([sg], A, B))) (dw (L ++ [(A, B, su R hh ([sg], A, B))])) (Eh R hh ([sg], A, B)) (nT (some r0)))) E.sH E.kI.1 (.own rfl) (aE (fk (oM (vL (ds := (ns ++ [sg]).map .str) E.uN.1) (ao (yu (ao au))) (by rw [List.map_append]; exact yj)) rfl) bA) (fun z _ => by dsimp only [dX]; exact ⟨hG, bY.a, bY.b, by omega⟩) (t := .lst ((su R hh ([sg], A, B)).map T.sh)) (fun z _ => rfl) (fun z _ => ⟨rfl, .inl (by rw [ZN]), trivial⟩) (xK Q.a Q.a Q.a Q.a Q.a) (fun z _ => by rw [ZN]; rfl)) ?_
       rw [show Eg R hh ([sg], A, B) = WD.1 by rw [V5], show Eh R hh ([sg], A, B) = WD.2.1 by rw [V5]]
       have eL : L ++ [(A, B, su R hh ([sg], A, B))] = WD.2.2 := by rw [V5]
       have eP : (L.map fun q => L3.D.lst q.2.2).map T.sh ++ [T.sh (.lst (su R hh ([sg], A, B)))] = (WD.2.2.map fun q => L3.D.lst q.2.2).map T.sh := by rw [← eL, ahD, ahD]; rfl
       rw [eL]
       generalize su R hh ([sg], A, B) = fr at SW eP ⊢
       clear eL V5
       refine sf E.x6.1 rfl (kN (eZ E.cj (vL E.cQ.1) SW.2 E.cB bu)) rfl (by rw [ahx, ahx]; omega) ?_
       rw [eP]
       refine sf E.cQ.1 rfl (cI (ds := [.str "sign", .str "more"]) (aW bW (aW bW e7)) (ay rfl)) rfl (by rw [ahx]; have := SW.1; omega) ?_
       refine sf E.xZ.1 rfl (FH (s := WD) HL Q.c E.kI.1 rfl) rfl (by rw [ahx]; omega) (aF (aF ⟨ns ++ [sg], some (.lst (fr.map T.sh ++ [.sh (.tup [.str "sign", .str "more"])])), ⟨by rw [ahL, aiB]; omega, Qu⟩, ?_⟩))
       rw [GF, hls, ahD (l₁ := lk)]
       rfl
   case tail =>
     rintro δ ⟨ns, o9, ⟨ZO, Gp⟩, rfl⟩
     have bY := YQ ns Gp
     obtain ⟨l, hl⟩ := LD (R := R) (hs := hh) (s0 := s0) (r := r0) ns
     have YR := (hlk _ bY (by rw [hlen]; omega)).2
     refine iu (GJ E.u (d1 := UJ r0 (cy R hh s0 ns)) (d2 := UJ r0 (cy R hh s0 ns)) (ao (FH (s := cy R hh s0 ns) bY (by rw [hlen]; omega) E.kI.1 rfl)) (oM (vL (ds := qP R hh s0 r0 ns) E.xZ.1) (ao (yu (ao au))) (by rw [hl]; exact yj)) YR YR).1 (fun hp => absurd hp (V1 YR)) (fun _ => aF (aF ⟨ns, _, _, ⟨ZO, Gp⟩, rfl⟩))
 case fin =>
   rintro δ ⟨ns, o8, o9, ⟨ZO, Gp⟩, rfl⟩
   rw [ahx] at ZO
   have bY := YQ ns Gp
   refine bE E.g E.DF (ZL E.ez rfl) ?_
   refine VL (i := 7) (d := .lst (ns.map .str)) rfl (bX _) ?_
   refine t9 E.g E.lH (fun j δ => ∃ o, δ = [some (.sh (.lst (a.map .int))), some Q.D, some (.sh Q.E), some (.sh (.lst (b7 (dM (jg R))))), some Q.H, some (.lst ((qP R hh s0 r0 ns).map T.sh)), some (.lst (((cy R hh s0 ns).2.2.map fun q => L3.D.lst q.2.2).map T.sh)), some (.sh (.lst (ns.map .str))), o8, o9, some (.ins "FlatRun" (b8 TD (.int (cy R hh s0 (ns.take j)).1) (dw (cy R hh s0 (ns.take j)).2.2) (cy R hh s0 (ns.take j)).2.1 (nT (some r0)))), o]) (qm (v_ E.uN.1)) ⟨_, by rw [Ul]; rfl⟩ (fun j δ ⟨_, e⟩ => by subst e; exact ahA rfl) ?Fl ?fin2
   case Fl =>
     rintro j d δ hj ⟨o, rfl⟩
     rw [ahW] at hj
     obtain ⟨sg, ZM, rfl⟩ := aif.mp hj
     have Zx : ns.take (j + 1) = ns.take j ++ [sg] := by rw [aiV, ZM]; rfl
     have HL := YQ (ns.take j) fun x hx => Gp x (ajr hx)
     have Ro := hlen (ns.take j)
     have ag7 : (ns.take j).length <= 63 := by rw [aio]; omega
     show cH X CL b _ _ { nx := fun δ => ∃ o, δ = [some (.sh (.lst (a.map .int))), some Q.D, some (.sh Q.E), some (.sh (.lst (b7 (dM (jg R))))), some Q.H, some (.lst ((qP R hh s0 r0 ns).map T.sh)), some (.lst (((cy R hh s0 ns).2.2.map fun q => L3.D.lst q.2.2).map T.sh)), some (.sh (.lst (ns.map .str))), o8, o9, some (.ins "FlatRun" (b8 TD (.int (cy R hh s0 (ns.take (j + 1))).1) (dw (cy R hh s0 (ns.take (j + 1))).2.2) (cy R hh s0 (ns.take (j + 1))).2.1 (nT (some r0)))), o], rt := _, bk := _, ct := _ }
     rw [Zx, vR]
     unfold FD
     dsimp only
     generalize cy R hh s0 (ns.take j) = st at HL Ro ⊢
     obtain ⟨A, B, L⟩ := st
     dsimp only at HL Ro ⊢
     exact xE (qM (dl := [.str sg]) (fun z => (z, bs.length, n, bs.map qd, xs.map It.d, (List.range n).map mh, hh, R, A, L, B, some r0, sg)) (.ins "FlatRun" (b8 TD (.int (Eg R hh ([sg], A, B))) (dw (L ++ [(A, B, su R hh ([sg], A, B))])) (Eh R hh ([sg], A, B)) (nT (some r0)))) E.sH E.DF.1 (.own rfl) (aE (v_ E.lH.1) bA) (fun z _ => by dsimp only [dX]; exact ⟨hG, HL.a, HL.b, by omega⟩) (t := .lst ((su R hh ([sg], A, B)).map T.sh)) (fun z _ => rfl) (fun z _ => ⟨rfl, .inl (by rw [ZN]), trivial⟩) (xK Q.a Q.a Q.a Q.a Q.a) (fun z _ => by rw [ZN]; rfl)) (aF ⟨_, rfl⟩)
   case fin2 =>
     rintro δ ⟨o, rfl⟩
     rw [ahx, aiv]
     have YR := (hlk _ bY (by rw [hlen]; omega)).2
     refine iu (R3 (aaH (GJ E.u (d1 := UJ r0 (cy R hh s0 ns)) (d2 := UJ r0 (cy R hh s0 ns)) (ao (FH (s := cy R hh s0 ns) bY (by rw [hlen]; omega) E.DF.1 rfl)) (ao (FH (s := cy R hh s0 ns) bY (by rw [hlen]; omega) E.kI.1 rfl)) YR YR).1 (fun _ => Xh (GJ E.u (d1 := .lst [.lst (bs.map qd), .lst (hh.map .str), .lst ((List.range n).map mh)]) (d2 := .lst [.lst (bs.map qd), .lst (hh.map .str), .lst ((List.range n).map mh)]) (ao (Sd (ds := [.lst (bs.map qd), .lst (hh.map .str), .lst ((List.range n).map mh)]) (aW (gK E.bB E.bL (v_ E.ez.1) qy) (aW (gK E.bB E.fK (v_ E.ez.1) qz) (aW (gK E.bB E.fL (v_ E.ez.1) qA) e7))))) (cC E.FE) d3 d3).1))) (fun hp => absurd hp (Yp YR d3)) (fun _ => aF ?_)
     refine cO (cP (NS E.u (d1 := .lst (b7 (dM (jg R)))) (d2 := .lst (b7 (dM (jg R)))) (vn (cP (E5 (parts := part2) (p := fun _ => true) (g := T.sh) (Jg (xs := ["spot", "rows"]) .nil Q.a) E.g.calm (gK E.bB E.fq (v_ E.ez.1) sW) (.inr rfl) (fun C s0 H0 f0 b' => ⟨Jf (by show List.Nodup (["spot", "rows"] : List Str); decide +kernel) E.g.calm (yE rfl Q.a) (yE rfl Q.a), fun d hd => ?aeL⟩) hkl) (by rw [ig]))) (cC E.wL) dk dk).2 (t2 := .sh (.bl true)) (by rw [uc dk])) rfl
     case aeL =>
       obtain ⟨p, hp, rfl⟩ := ahS.mp hd
       exact ⟨_, rfl, rfl, rfl, fun _ => cI (aW (v_ (j7 (i := 0) rfl Q.a)) (aW (v_ (j7 (i := 1) rfl Q.a)) e7)) (ay rfl)⟩
theorem fQ : qa (ak JK) ([("script", aA), ("table", aA), ("fields", aA), ("kept_rows", aA), ("run", aA), ("looks", aA), ("parts", aA), ("named", aA), ("cell", aA), ("heard", aA), ("fresh", aA), ("sign", aA), ("_law_table", aK), ("list", aK), ("FlatRun", aK), ("_law_look", aK), ("_law_turns", aK), ("_law_refused", aK)]) = true := Q.j
theorem Qv : aP ["script", "table", "fields", "kept_rows", "run", "looks", "parts", "named", "cell", "heard", "fresh", "sign"] ["script"] (ak JK) := bz
def cl (ai ah aq av : Addr) : Str -> Addr := fun c => if c = "Runner" then ai else if c = "FlatRun" then ah else if c = "Table" then aq else if c = "NoStep" then av else 0
variable {ai ah aq av : Addr}
theorem jA : cl ai ah aq av "Runner" = ai := by unfold cl; rw [ahN rfl]
theorem aH : cl ai ah aq av "FlatRun" = ah := by unfold cl; rw [ahC Q.a]; rw [ahN rfl]
theorem jZ : cl ai ah aq av "Table" = aq := by unfold cl; rw [ahC Q.a]; rw [ahC Q.a]; rw [ahN rfl]
theorem jB : cl ai ah aq av "NoStep" = av := by unfold cl; rw [ahC Q.a]; rw [ahC Q.a]; rw [ahC Q.a]; rw [ahN rfl]
theorem YS (h : IW x = true) : cl ai ah aq av x = 0 := by unfold cl; rw [ahC (fun e => by rw [e] at h; exact absurd h Q.a)]; rw [ahC (fun e => by rw [e] at h; exact absurd h Q.a)]; rw [ahC (fun e => by rw [e] at h; exact absurd h Q.a)]; rw [ahC (fun e => by rw [e] at h; exact absurd h Q.a)]
theorem all_mk {l : PySem.W.OpenLaw} {w : World} {K : Q.h} {h : Heap} {mg : Q.p} {fa B4 HM HN DI zI Qw FI kZ JL g9 gG iY iZ k6 f_look JM gV B5 JN sI FJ Qx zJ wM JQ zK f7 i6 gW i7 jR V6 : Addr} (XX : K.In h) (G : h.Ns mainGlobals mg) (hfa : mg "law" = some (.ref fa))
   {LR YT YV UN Qy YW Qz DJ UO xm vS zL zM DK YX UQ A2 LV pD m8 zA Hz tD jY Dy tE uO zN A3 zO A4 V7 : FuncData}
   (zP : uW K "Runner" ai) (vU : PySem.W.plainGet K ai Str.empty = true) (vV : PySem.W.hasDictIn K ai = true) (vW : PySem.W.plainOver K ai = true) (vX : PySem.W.findIn K (.ref ai) "__setattr__" = some (some (.builtin "object.__setattr__"))) (B6 : PySem.W.makesIn K ai = true) (B7 : PySem.W.keepIn K (.ref ai) = true)
   (lM : PySem.W.findIn K (.ref ai) "place" = some none)
   (ng : PySem.W.findIn K (.ref ai) "past" = some none)
   (lN : PySem.W.findIn K (.ref ai) "boxes" = some none)
   (gP : PySem.W.findIn K (.ref ai) "first_rows" = some none)
   (vY : uW K "FlatRun" ah) (tF : PySem.W.plainGet K ah Str.empty = true) (tG : PySem.W.hasDictIn K ah = true) (tH : PySem.W.plainOver K ah = true) (tK : PySem.W.findIn K (.ref ah) "__setattr__" = some (some (.builtin "object.__setattr__"))) (tL : PySem.W.makesIn K ah = true) (tM : PySem.W.keepIn K (.ref ah) = true)
   (kr : PySem.W.findIn K (.ref ah) "table" = some none)
   (ku : PySem.W.findIn K (.ref ah) "place" = some none)
   (lO : PySem.W.findIn K (.ref ah) "past" = some none)
   (kB : PySem.W.findIn K (.ref ah) "boxes" = some none)
   (gk : PySem.W.findIn K (.ref ah) "first_rows" = some none)
   (DL : uW K "Table" aq) (zQ : PySem.W.plainGet K aq Str.empty = true) (zR : PySem.W.hasDictIn K aq = true) (zS : PySem.W.plainOver K aq = true) (zT : PySem.W.findIn K (.ref aq) "__setattr__" = some (some (.builtin "object.__setattr__"))) (zU : PySem.W.makesIn K aq = true) (zV : PySem.W.keepIn K (.ref aq) = true)
   (nh : PySem.W.findIn K (.ref aq) "boxes" = some none)
   (ni : PySem.W.findIn K (.ref aq) "signs" = some none)
   (nj : PySem.W.findIn K (.ref aq) "begin" = some none)
   (nk : PySem.W.findIn K (.ref aq) "flats" = some none)
   (pJ : PySem.W.findIn K (.ref aq) "rows" = some none)
   (zW : uW K "NoStep" av)
   {LW LX : Str} {zX : Addr} {LY B8 LZ : List Value} {L0 L1 : Bool} {L5 : List Str} {HP : Option Bool} {L6 : Option Addr} {L7 L8 Ma Mb Mf : Option Value} (vZ : K.lookup av = some (excClassObj LW LX av zX LY B8 L0 L5 LZ L1 HP L6 L7 L8 Ma Mb Mf "ValueError.__new__")) (v5 : PySem.W.nsOkIn K zX = true) (v7 : PySem.W.nsIn K zX "__init__" = some none) (v8 : PySem.W.tailIn K CM B8 = true)
   (jC : PySem.W.exmOne K (.ref av) (.ref av) = some true)
   (v9 : uW K "_law_cell_at" B4) (Mg : nG K "_law_cell_at" "_law_cell_at" rm B4 LR)
   (HQ : uW K "_law_take" HM) (tN : nG K "_law_take" "_law_take" C7 HM YT)
   (HR : uW K "_law_term" HN) (DM : nG K "_law_term" "_law_term" Dc HN YV)
   (DN : uW K "_law_piece" DI) (DP : nG K "_law_piece" "_law_piece" xN DI UN)
   (zY : uW K "_law_script" zI) (uP : nG K "_law_script" "_law_script" um zI Qy)
   (HS : uW K "_law_rows" Qw) (YY : nG K "_law_rows" "_law_rows" Df Qw YW)
   (zZ : uW K "_law_pieces" FI) (QB : nG K "_law_pieces" "_law_pieces" uy FI Qz)
   (pK : PySem.W.findIn K (.ref aq) "__init__" = some (some (.ref kZ))) (pL : PySem.W.isFn K (.ref kZ) = true) (uQ : nG K "__init__" "Table.__init__" kQ kZ DJ)
   (DQ : uW K "_law_table" JL) (UR : nG K "_law_table" "_law_table" xQ JL UO)
   (kC : PySem.W.findIn K (.ref ah) "moods" = some (some (.ref g9))) (kD : PySem.W.isFn K (.ref g9) = true) (kE : nG K "moods" "FlatRun.moods" gY g9 xm)
   (jD : PySem.W.findIn K (.ref ah) "numbers" = some (some (.ref gG))) (jE : PySem.W.isFn K (.ref gG) = true) (jF : nG K "numbers" "Runner.numbers" gy gG vS)
   (lP : PySem.W.findIn K (.ref ah) "story" = some (some (.ref iY))) (lQ : PySem.W.isFn K (.ref iY) = true) (lR : nG K "story" "Runner.story" iK iY zL)
   (lS : PySem.W.findIn K (.ref ah) "flat" = some (some (.ref iZ))) (lT : PySem.W.isFn K (.ref iZ) = true) (lU : nG K "flat" "FlatRun.flat" iM iZ zM)
   (pM : PySem.W.findIn K (.ref ah) "fed" = some (some (.ref k6))) (pN : PySem.W.isFn K (.ref k6) = true) (pO : nG K "fed" "Runner.fed" kR k6 DK)
   (HV : uW K "_law_look" f_look) (YZ : nG K "_law_look" "_law_look" Dn f_look YX)
   (DR : uW K "_law_turns" JM) (UT : nG K "_law_turns" "_law_turns" xS JM UQ)
   (fM : PySem.W.findIn K (.ref ah) "back" = some (some (.ref gV))) (fN : PySem.W.isFn K (.ref gV) = true) (eU : nG K "back" "Runner.back" gS gV A2)
   (wc : uW K "_law_refused" B5) (Mh : nG K "_law_refused" "_law_refused" rJ B5 LV)
   (DS : uW K "value" JN) (UU : nG K "value" "value" xU JN pD)
   (nq : uW K "with_number" sI) (A5 : nG K "with_number" "with_number" jL sI m8)
   (z6 : uW K "redone" FJ) (QC : nG K "redone" "redone" uD FJ zA)
   (HW : uW K "done" Qx) (Y0 : nG K "done" "done" Du Qx Hz)
   (tO : uW K "all_done" zJ) (HX : nG K "all_done" "all_done" pF zJ tD)
   (qQ : uW K "performed" wM) (FL : nG K "performed" "performed" mQ wM jY)
   (DT : uW K "holds" JQ) (UW : nG K "holds" "holds" xX JQ Dy)
   (tP : uW K "all_hold" zK) (HY : nG K "all_hold" "all_hold" pH zK tE)
   (i9 : PySem.W.findIn K (.ref ah) "step_at" = some (some (.ref f7))) (ja : PySem.W.isFn K (.ref f7) = true) (jb : nG K "step_at" "FlatRun.step_at" fZ f7 uO)
   (jc : PySem.W.findIn K (.ref ah) "dealt" = some (some (.ref i6))) (jd : PySem.W.isFn K (.ref i6) = true) (je : nG K "dealt" "Runner.dealt" iV i6 zN)
   (sJ : PySem.W.findIn K (.ref ai) "__init__" = some (some (.ref gW))) (sL : PySem.W.isFn K (.ref gW) = true) (nu : nG K "__init__" "Runner.__init__" jN gW A3)
   (lV : PySem.W.specialIn K (.ref ai) "__getattribute__" = some (some (.builtin "type.__getattribute__"))) (lW : PySem.W.readsIn K ai (.type "type") = true) (lX : PySem.W.findCls K (.ref ai) (.type "type") "__init__" = some (.val (.ref gW)))
   (lY : PySem.W.findIn K (.ref ah) "__init__" = some (some (.ref i7))) (lZ : PySem.W.isFn K (.ref i7) = true) (qR : nG K "__init__" "FlatRun.__init__" iX i7 zO)
   (ny : PySem.W.findIn K (.ref ah) "feed" = some (some (.ref jR))) (nA : PySem.W.isFn K (.ref jR) = true) (nB : nG K "feed" "Runner.feed" jP jR A4)
   (JR : uW K "law" V6) (QD : nG K "law" "law" JK V6 V7)
   (QF : PySem.W.nsIn K mainGlobals "len" = some none)
   (QG : PySem.W.nsIn K mainGlobals "str" = some none)
   (DU : PySem.W.nsIn K mainGlobals "tuple" = some none)
   (DV : PySem.W.nsIn K mainGlobals "range" = some none)
   (HZ : PySem.W.nsIn K mainGlobals "list" = some none)
   (QH : PySem.W.nsIn K mainGlobals "min" = some none)
   (QI : PySem.W.nsIn K mainGlobals "max" = some none)
   (QJ : PySem.W.nsIn K mainGlobals "sum" = some none)
   {QK : Tok} (DW : PySem.W.nsIn K mainGlobals "AFTER" = some (some (.int 3 QK)))
   {JS : Addr} {QL : Option Addr} {xW : Nat} {QM : Array (Option Value)} {Ic Ie Ig Ih : Tok} (DX : PySem.W.nsIn K mainGlobals "MARKS" = some (some (.ref JS))) (z7 : K.lookup JS = some ⟨.type "tuple", QL, .seq #[.str "out" Ic, .str "keep" Ie, .str "way" Ig, .str "in" Ih] xW, QM⟩)
   {A6 : Tok} (pP : PySem.W.nsIn K mainGlobals "MOST_SIGNS" = some (some (.int 8 A6)))
   : ∃ fd : FuncData, (∀ (s : Shared) (v : Value), BindsTo s fd ⟨[v], []⟩ [("script", v)]) /\ ∀ base : Heap, K.In base -> base.Ns mainGlobals mg -> cJ l.prog w K mg base lu 11 fa fd ["script"] (AG K (fun _ => 0) 1 rR rS rT) := by
 have e := hfa.symm.trans (aip XX G JR)
 cases e
 have z8 := aip XX G HQ
 have z9 := tN.binds (ps := ["pot", "many"]) Q.F
 have QN := aip XX G HR
 have QO := DM.binds (ps := ["pot", "many"]) Q.F
 have UX := aip XX G DN
 have UY := DP.binds (ps := ["pot", "many", "heard"]) fun _ _ _ _ _ _ => by refine fP ?_; exact fun _ _ _ => rfl
 have FN := aip XX G zY
 have FP := uP.binds (ps := ["pot", "many", "heard"]) fun _ _ _ _ _ _ => by refine fP ?_; exact fun _ _ _ => rfl
 have DY := uQ.binds (ps := ["self", "boxes", "signs", "begin", "flats", "rows"]) fun _ _ _ _ _ _ => by refine fP ?_; exact fun _ _ _ _ _ _ => rfl
 have xo := kE.binds (ps := ["self"]) Q.C
 have wg := jF.binds (ps := ["self"]) Q.C
 have Aa := lR.binds (ps := ["self"]) Q.C
 have Ab := lU.binds (ps := ["self"]) Q.C
 have DZ := pO.binds (ps := ["self"]) Q.C
 have jS := eU.binds (ps := ["self"]) Q.C
 have uR := jb.binds (ps := ["self", "sign"]) Q.F
 have qS := je.binds (ps := ["self", "called"]) Q.F
 have A7 := nu.binds (ps := ["self", "boxes", "place", "script"]) fun _ _ _ _ _ _ => by refine fP ?_; exact fun _ _ _ _ => rfl
 have Ac := qR.binds (ps := ["self", "table"]) Q.F
 have A8 := nB.binds (ps := ["self", "sign"]) Q.F
 have afA := aip XX G JR
 have afB := QD.binds (ps := ["script"]) Q.C
 have QS := aip XX G zP
 have QT : j5 K ai := ⟨vU, vV, vW, vX⟩
 have ab2 : j5 K ((cl ai ah aq av) "Runner") := by rw [jA]; exact QT
 have QV : aG K ((cl ai ah aq av) "Runner") "place" := by rw [jA]; exact lM
 have Rp : aG K ((cl ai ah aq av) "Runner") "past" := by rw [jA]; exact ng
 have QW : aG K ((cl ai ah aq av) "Runner") "boxes" := by rw [jA]; exact lN
 have F6 : aG K ((cl ai ah aq av) "Runner") "first_rows" := by rw [jA]; exact gP
 have Mi := aip XX G vY
 have az : j5 K ah := ⟨tF, tG, tH, tK⟩
 have cY : j5 K ((cl ai ah aq av) "FlatRun") := by rw [aH]; exact az
 have kF : aG K ((cl ai ah aq av) "FlatRun") "table" := by rw [aH]; exact kr
 have cE : aG K ((cl ai ah aq av) "FlatRun") "place" := by rw [aH]; exact ku
 have fj : aG K ((cl ai ah aq av) "FlatRun") "past" := by rw [aH]; exact lO
 have bM : aG K ((cl ai ah aq av) "FlatRun") "boxes" := by rw [aH]; exact kB
 have j0 : aG K ((cl ai ah aq av) "FlatRun") "first_rows" := by rw [aH]; exact gk
 have UZ := aip XX G DL
 have bB : j5 K aq := ⟨zQ, zR, zS, zT⟩
 have jf : j5 K ((cl ai ah aq av) "Table") := by rw [jZ]; exact bB
 have cz : aG K ((cl ai ah aq av) "Table") "boxes" := by rw [jZ]; exact nh
 have nE : aG K ((cl ai ah aq av) "Table") "signs" := by rw [jZ]; exact ni
 have sM : aG K ((cl ai ah aq av) "Table") "begin" := by rw [jZ]; exact nj
 have nF : aG K ((cl ai ah aq av) "Table") "flats" := by rw [jZ]; exact nk
 have pQ : aG K ((cl ai ah aq av) "Table") "rows" := by rw [jZ]; exact pJ
 have Ad := aip XX G zW
 have wj : yI K av := ⟨⟨_, _, _, _, _, _, _, _, _, _, _, _, _, _, _, _, vZ, v5, v7, v8⟩⟩
 have wO := aiH XX G QF
 have V8 := aiH XX G QG
 have D0 := aiH XX G DU
 have x8 := aiH XX G DV
 have l0 := aiH XX G HZ
 have ab3 := aiH XX G QH
 have ab4 := aiH XX G QI
 have ab5 := aiH XX G QJ
 have U0 : ∃ u, mg "AFTER" = some (.int 3 u) := ⟨_, aip XX G DW⟩
 have U1 := aip XX G DX
 have D3 : ∃ u, mg "MOST_SIGNS" = some (.int 8 u) := ⟨_, aip XX G pP⟩
 refine ⟨V7, ?bind, fun base _ _ => ?_⟩
 case bind =>
   obtain ⟨oc, od, kV, doc, pm, an, gn, ct, Rf, rfl, lk, j3⟩ := QD.ex
   exact fun s v => .of_eq rfl
 have q := @X4 l.prog w mg base K h (cl ai ah aq av) XX G
 have Mj := q 0 mD mE mF Mg Hu v9 fun _ _ _ _ _ _ _ _ hr u p => Lq (by exact ⟨u, bT sX 0, bT sX 1, gX sX 2, wO⟩) p
 have Ae : cJ l.prog w K mg base lu 1 HM _ ["pot", "many"] (F2 K (cl ai ah aq av) 2 iE pre_take iF gR) := qw tN JB (fun a hp => by
   obtain ⟨p0, p1, p2⟩ := a; dsimp only [iE, gR]
   repeat (first | exact trivial | refine ⟨rfl, ?_⟩)) fun gn Ar outer s H E b a hr hp => by
   obtain ⟨p0, p1, p2⟩ := a; refine Ys ?_ p0 p1 p2 hp
   exact ⟨⟨⟨JB.nd, rfl, .never⟩, hr.units⟩, bT C9 0, bT C9 1, bT C9 2⟩
 have QX : cJ l.prog w K mg base lu 2 HN _ ["pot", "many"] (F2 K (cl ai ah aq av) 2 nV qC nW lE) := qw DM JC (fun a hp => by
   obtain ⟨p0, p1, p2⟩ := a; dsimp only [nV, lE]
   repeat (first | exact trivial | refine ⟨rfl, ?_⟩)) fun gn Ar outer s H E b a hr hp => by
   obtain ⟨p0, p1, p2⟩ := a; refine Yu ?_ p0 p1 p2 hp
   exact ⟨⟨⟨JC.nd, rfl, .never⟩, hr.units⟩, bT xM 0, bT xM 1, bT xM 2, gX xM 3, ⟨⟨_, _, _, Ae, z8, tN.kp, z9⟩, hr.mono Q.b⟩⟩
 have U3 : cJ l.prog w K mg base lu 3 DI _ ["pot", "many", "heard"] (F2 K (cl ai ah aq av) 3 nX rz nY k9) := qw DP Fj (fun a hp => by
   obtain ⟨p0, p1, p2, p3⟩ := a; dsimp only [nX, k9]
   repeat (first | exact trivial | refine ⟨rfl, ?_⟩)) fun gn Ar outer s H E b a hr hp => by
   obtain ⟨p0, p1, p2, p3⟩ := a; refine Uh ?_ p0 p1 p2 p3 hp
   exact ⟨⟨⟨Fj.nd, rfl, .never⟩, hr.units⟩, bT iG 0, bT iG 1, bT iG 2, bT iG 3, bT iG 4, gX iG 5, gX iG 6, gX iG 7, gX iG 8, ⟨⟨_, _, _, Ae, z8, tN.kp, z9⟩, hr.mono Q.b⟩, ⟨⟨_, _, _, QX, QN, DM.kp, QO⟩, hr.mono Q.b⟩, V8, wO⟩
 have FQ : cJ l.prog w K mg base lu 4 zI _ ["pot", "many", "heard"] (F2 K (cl ai ah aq av) 3 jx lF jy ia) := qw uP BV (fun a hp => by
   obtain ⟨p0, p1, p2, p3⟩ := a; dsimp only [jx, ia]
   repeat (first | exact trivial | refine ⟨rfl, ?_⟩)) fun gn Ar outer s H E b a hr hp => by
   obtain ⟨p0, p1, p2, p3⟩ := a; refine P5 ?_ p0 p1 p2 p3 hp
   exact ⟨⟨⟨BV.nd, rfl, .never⟩, hr.units⟩, XD gw 0, jG gw 0 rfl, XD gw 1, jG gw 1 rfl, XD gw 2, jG gw 2 rfl, gX gw 3, gX gw 4, gX gw 5, D0, x8, ⟨⟨_, _, _, Ae, z8, tN.kp, z9⟩, hr.mono Q.b⟩, ⟨⟨_, _, _, U3, UX, DP.kp, UY⟩, hr.mono Q.b⟩⟩
 have Y3 := q 4 uv qD uw YY Uk HS fun _ _ _ _ _ _ _ _ hr u p => Yy (by exact ⟨u, bT dZ 0, bT dZ 1, bT dZ 2, bT dZ 3, bT dZ 4, bT dZ 5, bT dZ 6, bT dZ 7, bT dZ 8, bT dZ 9, bT dZ 10, bT dZ 11, gX dZ 12, gX dZ 13, gX dZ 14, gX dZ 15, gX dZ 16, x8, ⟨⟨_, _, _, Ae, z8, tN.kp, z9⟩, hr.mono Q.b⟩, ⟨⟨_, _, _, QX, QN, DM.kp, QO⟩, hr.mono Q.b⟩, ⟨⟨_, _, _, FQ, FN, uP.kp, FP⟩, hr.mono Q.b⟩, D0⟩) p
 have QY := q 5 oY oZ pe QB Lr zZ fun _ _ _ _ _ _ _ _ hr u p => P7 (by exact ⟨u, XD bU 0, jG bU 0 rfl, bT bU 1, bT bU 2, bT bU 3, bT bU 4, bT bU 5, bT bU 6, bT bU 7, bT bU 8, bT bU 9, bT bU 10, gX bU 11, gX bU 12, gX bU 13, gX bU 14, gX bU 15, gX bU 16, qv Mj hr, ⟨⟨_, _, _, Ae, z8, tN.kp, z9⟩, hr.mono Q.b⟩, x8, wO, qv Y3 hr, ⟨⟨_, _, _, FQ, FN, uP.kp, FP⟩, hr.mono Q.b⟩, V8⟩) p
 have D4 : cJ l.prog w K mg base lu 1 kZ _ ["self", "boxes", "signs", "begin", "flats", "rows"] (Zu K (cl ai ah aq av) "Table" 6 qF qG qH) := Je uQ sA fun gn Ar outer s H E b a y hr hp => by
   obtain ⟨p0, p1, p2, p3, p4⟩ := a; refine Di ?_ p0 p1 p2 p3 p4 y hp
   exact ⟨⟨⟨sA.nd, rfl, .never⟩, hr.units⟩, bT cR 0, bT cR 1, bT cR 2, bT cR 3, bT cR 4, bT cR 5, bT cR 6, gX cR 7, gX cR 8, l0, D0, cY, jf, bM, cz, nE, sM, nF, pQ⟩
 have U4 := q 6 rC rD rE UR Qa DQ fun _ _ _ _ _ _ _ _ hr u p => Us (by exact ⟨u, bT uz 0, bT uz 1, gX uz 2, gX uz 3, qv QY hr, ⟨⟨_, _, _, by rw [jZ]; exact ⟨zU, pK, pL, zV⟩, D4, by rw [jZ]; exact UZ, DY⟩, hr.mono Q.b⟩⟩) p
 have xq : cJ l.prog w K mg base lu 1 g9 _ ["self"] (AG K (cl ai ah aq av) 1 fW fX fY) := mw kE n9 fun gn Ar outer s H E b a hr hp => by
   refine xg ?_ hp
   exact ⟨⟨⟨n9.nd, rfl, .never⟩, hr.units⟩, bT n5 0, gX n5 1, l0, cY, jf, nF, cE, kF⟩
 have wk : cJ l.prog w K mg base lu 1 gG _ ["self"] (AG K (cl ai ah aq av) 1 fu fz fB) := mw jF mK fun gn Ar outer s H E b a hr hp => by
   refine vK ?_ hp
   exact ⟨⟨⟨mK.nd, rfl, .never⟩, hr.units⟩, bT mJ 0, gX mJ 1, l0, cY, jf, bM, cz⟩
 have Af : cJ l.prog w K mg base lu 1 iY _ ["self"] (AG K (cl ai ah aq av) 1 gB e9 gC) := mw lR pU fun gn Ar outer s H E b a hr hp => by
   refine zk ?_ hp
   exact ⟨⟨⟨pU.nd, rfl, .never⟩, hr.units⟩, bT g4 0, bT g4 1, bT g4 2, gX g4 3, l0, cY, fj, j0⟩
 have Ag : cJ l.prog w K mg base lu 1 iZ _ ["self"] (AG K (cl ai ah aq av) 1 gD gE gF) := mw lU pV fun gn Ar outer s H E b a hr hp => by
   refine zm ?_ hp
   exact ⟨⟨⟨pV.nd, rfl, .never⟩, hr.units⟩, bT xh 0, cY, cE⟩
 have D5 : cJ l.prog w K mg base lu 1 k6 _ ["self"] (AG K (cl ai ah aq av) 1 iO iP iQ) := mw pO sE fun gn Ar outer s H E b a hr hp => by
   refine Dm ?_ hp
   exact ⟨⟨⟨sE.nd, rfl, .never⟩, hr.units⟩, bT sC 0, gX sC 1, wO, cY, fj⟩
 have Y4 := q 1 uA qI uB YZ Uu HV fun _ _ _ _ _ _ _ _ hr u p => YD (by exact ⟨u, bT xR 0, bT xR 1, bT xR 2, gX xR 3, l0, ⟨⟨_, _, _, by rw [aH]; exact ⟨kC, kD, kE.kp⟩, xq, xo⟩, hr.mono Q.b, by rw [aH]; exact az⟩, ⟨⟨_, _, _, by rw [aH]; exact ⟨jD, jE, jF.kp⟩, wk, wg⟩, hr.mono Q.b, by rw [aH]; exact az⟩, ⟨⟨_, _, _, by rw [aH]; exact ⟨lP, lQ, lR.kp⟩, Af, Aa⟩, hr.mono Q.b, by rw [aH]; exact az⟩, ⟨⟨_, _, _, by rw [aH]; exact ⟨lS, lT, lU.kp⟩, Ag, Ab⟩, hr.mono Q.b, by rw [aH]; exact az⟩, ⟨⟨_, _, _, by rw [aH]; exact ⟨pM, pN, pO.kp⟩, D5, DZ⟩, hr.mono Q.b, by rw [aH]; exact az⟩⟩) p
 have U5 := q 0 rG oh rH UT Qf DR fun _ _ _ _ _ _ _ _ hr u p => Uy (by exact ⟨u, XD gi 0, jG gi 0 rfl, XD gi 1, jG gi 1 rfl, XD gi 2, jG gi 2 rfl, bT gi 3, gX gi 4, gX gi 5, gX gi 6, gX gi 7, ab3, ab4, wO, x8, ab5⟩) p
 have sN : cJ l.prog w K mg base lu 1 gV _ ["self"] (F2 K (cl ai ah aq av) 1 dR fD dS cZ) := qw eU iR (fun a hp => by
   obtain ⟨p0, p1, p2, p3, p4, p5, p6⟩ := a; dsimp only [dR, cZ]
   repeat (first | exact trivial | refine ⟨rfl, ?_⟩)) fun gn Ar outer s H E b a hr hp => by
   obtain ⟨p0, p1, p2, p3, p4, p5, p6⟩ := a; refine AQ ?_ p0 p1 p2 p3 p4 p5 p6 hp
   exact ⟨⟨⟨iR.nd, rfl, .never⟩, hr.units⟩, bT cX 0, bT cX 1, gX cX 2, gX cX 3, wO, by rw [jB]; exact Ad, by rw [jB]; exact wj, cY, jf, cE, bM, cz, fj⟩
 have qT : cJ l.prog w K mg base (Zy l.prog w) 1 gV _ ["self"] (spR K (cl ai ah aq av) 1 d7 d8 d9) := XJ eU iR fun gn Ar outer s H E b a hr hp hE => by
   obtain ⟨p0, p1, p2, p3⟩ := a; refine zx ?_ p0 p1 p2 p3 hp hE
   exact ⟨⟨⟨iR.nd, rfl, SY rfl rfl⟩, hr.units⟩, bT cX 0, bT cX 1, gX cX 2, gX cX 3, wO, by rw [jB]; exact Ad, by rw [jB]; exact wj, cY, jf, cE, bM, cz, fj⟩
 have Ml := q 1 mL mO mP Mh Hw wc fun _ _ _ _ _ _ _ _ hr u p => Lx (by exact ⟨u, bT tu 0, bT tu 1, gX tu 2, by rw [jB]; exact Ad, by rw [jB]; exact wj, ⟨⟨_, _, _, by rw [aH]; exact ⟨fM, fN, eU.kp⟩, qT, jS⟩, hr.mono Q.b, by rw [aH]; exact az⟩, ⟨⟨_, _, _, by rw [aH]; exact ⟨fM, fN, eU.kp⟩, sN, jS⟩, hr.mono Q.b, by rw [aH]; exact az⟩, rfl, rfl, rfl, by rw [jB]; exact jC⟩) p
 have JT := q 0 oj om oq UU Qg DS fun _ _ _ _ _ _ _ _ hr u p => UA (by exact ⟨u, bT uC 0, bT uC 1, bT uC 2, bT uC 3⟩) p
 have A9 := q 0 g6 g7 g8 A5 zy nq fun _ _ _ _ _ _ _ _ hr u p => AV (by exact ⟨u, bT gj 0, bT gj 1, bT gj 2, bT gj 3, gX gj 4, l0⟩) p
 have QZ := q 1 pA pB pC QC Ly z6 fun _ _ _ _ _ _ _ _ hr u p => Qi (by exact ⟨u, bT rM 0, bT rM 1, gX rM 2, gX rM 3, qv A9 hr, U0⟩) p
 have Y5 := q 2 uF uG uH Y0 UD HW fun _ _ _ _ _ _ _ _ hr u p => YH (by exact ⟨u, bT rN 0, bT rN 1, bT rN 2, bT rN 3, gX rN 4, gX rN 5, qv JT hr, qv QZ hr⟩) p
 have Ii := q 3 kU iS iT HX Ft tO fun _ _ _ _ _ _ _ _ hr u p => HB (by exact ⟨u, bT eu 0, bT eu 1, bT eu 2, bT eu 3, bT eu 4, bT eu 5, bT eu 6, gX eu 7, gX eu 8, l0, qv Y5 hr⟩) p
 have wQ := q 4 gT eS gU FL Dw qQ fun _ _ _ _ _ _ _ _ hr u p => Fw (by exact ⟨u, bT cS 0, bT cS 1, bT cS 2, bT cS 3, bT cS 4, bT cS 5, bT cS 6, gX cS 7, gX cS 8, gX cS 9, l0, aa4 U1 z7 (ay rfl) (.cons ⟨_, rfl⟩ (.cons ⟨_, rfl⟩ (.cons ⟨_, rfl⟩ (.cons ⟨_, rfl⟩ (.nil))))), qv Ii hr⟩) p
 have U6 := q 1 rO rP rQ UW Qk DT fun _ _ _ _ _ _ _ _ hr u p => UG (by exact ⟨u, bT ou 0, bT ou 1, bT ou 2, bT ou 3, bT ou 4, gX ou 5, qv JT hr⟩) p
 have Ij := q 2 kW kX kY HY Fx tP fun _ _ _ _ _ _ _ _ hr u p => HF (by exact ⟨u, bT mS 0, bT mS 1, bT mS 2, gX mS 3, qv U6 hr⟩) p
 have uS : cJ l.prog w K mg base lu 4 f7 _ ["self", "sign"] (AG K (cl ai ah aq av) 2 eX dh eY) := mw jb lI fun gn Ar outer s H E b a hr hp => by
   refine uL ?_ hp
   exact ⟨⟨⟨lI.nd, rfl, .never⟩, hr.units⟩, bT fC 0, bT fC 1, bT fC 2, gX fC 3, qv Ij hr, cY, jf, nE, cE, kF, pQ, bM, cz⟩
 have qU : cJ l.prog w K mg base lu 6 i6 _ ["self", "called"] (F2 K (cl ai ah aq av) 2 dz cN dB cM) := qw je pW (fun a hp => by
   obtain ⟨p0, p1, p2, p3, p4, p5, p6, p7, p8, p9, p10, p11, p12⟩ := a; dsimp only [dz, cM]
   repeat (first | exact trivial | refine ⟨rfl, ?_⟩)) fun gn Ar outer s H E b a hr hp => by
   obtain ⟨p0, p1, p2, p3, p4, p5, p6, p7, p8, p9, p10, p11, p12⟩ := a; refine zC ?_ p0 p1 p2 p3 p4 p5 p6 p7 p8 p9 p10 p11 p12 hp
   exact ⟨⟨⟨pW.nd, rfl, .never⟩, hr.units⟩, bT bq 0, bT bq 1, bT bq 2, bT bq 3, bT bq 4, bT bq 5, bT bq 6, bT bq 7, gX bq 8, gX bq 9, gX bq 10, gX bq 11, l0, D3, qv wQ hr, wO, ⟨⟨_, _, _, by rw [aH]; exact ⟨i9, ja, jb.kp⟩, uS, uR⟩, hr.mono Q.b, by rw [aH]; exact az⟩, cY, jf, cE, bM, cz⟩
 have Ba : cJ l.prog w K mg base lu 7 gW _ ["self", "boxes", "place", "script"] (F2 K (cl ai ah aq av) 4 fE fF fG dU) := qw nu qN (fun a hp => by
   obtain ⟨p0, p1, p2, p3, p4, p5, p6, p7, p8, p9⟩ := a; dsimp only [fE, dU]
   repeat (first | exact trivial | refine ⟨rfl, ?_⟩)) fun gn Ar outer s H E b a hr hp => by
   obtain ⟨p0, p1, p2, p3, p4, p5, p6, p7, p8, p9⟩ := a; refine AY ?_ p0 p1 p2 p3 p4 p5 p6 p7 p8 p9 hp
   exact ⟨⟨⟨qN.nd, rfl, .never⟩, hr.units⟩, bT fc 0, bT fc 1, bT fc 2, bT fc 3, bT fc 4, gX fc 5, qv wQ hr, ⟨⟨_, _, _, by rw [aH]; exact ⟨jc, jd, je.kp⟩, qU, qS⟩, hr.mono Q.b, by rw [aH]; exact az⟩, cY, jf, cE, fj, bM, cz, j0⟩
 have Ah : cJ l.prog w K mg base lu 9 i7 _ ["self", "table"] (Zu K (cl ai ah aq av) "FlatRun" 2 oz jz oA) := Je qR pX fun gn Ar outer s H E b a y hr hp => by
   obtain ⟨p0, p1, p2, p3, p4, p5⟩ := a; refine zF ?_ p0 p1 p2 p3 p4 p5 y hp
   exact ⟨⟨⟨pX.nd, rfl, .never⟩, hr.units⟩, bT ko 0, bT ko 1, gX ko 2, ⟨⟨_, _, _, by rw [jA]; exact ⟨lV, lW, lX, nu.kp⟩, Ba, by rw [jA]; exact QS, A7⟩, hr.mono Q.b⟩, cY, jf, kF, sM, bM, cz⟩
 have Bb : cJ l.prog w K mg base lu 7 jR _ ["self", "sign"] (F2 K (cl ai ah aq av) 2 fH dX fJ dW) := qw nB qO (fun a hp => by
   obtain ⟨p0, p1, p2, p3, p4, p5, p6, p7, p8, p9, p10, p11, p12⟩ := a; dsimp only [fH, dW]
   repeat (first | exact trivial | refine ⟨rfl, ?_⟩)) fun gn Ar outer s H E b a hr hp => by
   obtain ⟨p0, p1, p2, p3, p4, p5, p6, p7, p8, p9, p10, p11, p12⟩ := a; refine A1 ?_ p0 p1 p2 p3 p4 p5 p6 p7 p8 p9 p10 p11 p12 hp
   exact ⟨⟨⟨qO.nd, rfl, .never⟩, hr.units⟩, bT fh 0, bT fh 1, bT fh 2, bT fh 3, bT fh 4, gX fh 5, l0, ⟨⟨_, _, _, by rw [aH]; exact ⟨jc, jd, je.kp⟩, qU, qS⟩, hr.mono Q.b, by rw [aH]; exact az⟩, cY, jf, cE, bM, cz, fj⟩
 have ab9 : cJ l.prog w K mg base lu 11 _ _ ["script"] (AG K (cl ai ah aq av) 1 rR rS rT) := mw QD Qv fun gn Ar outer s H E b a hr hp => by
   refine abX ?_ hp
   exact ⟨⟨⟨Qv.nd, rfl, .never⟩, hr.units⟩, bT fQ 0, bT fQ 1, bT fQ 2, bT fQ 3, bT fQ 4, bT fQ 5, bT fQ 6, bT fQ 7, bT fQ 8, bT fQ 9, bT fQ 10, bT fQ 11, gX fQ 12, gX fQ 13, gX fQ 14, gX fQ 15, gX fQ 16, gX fQ 17, qv U4 hr, l0, ⟨⟨_, _, _, by rw [aH]; exact ⟨tL, lY, lZ, tM⟩, Ah, by rw [aH]; exact Mi, Ac⟩, hr.mono Q.b⟩, qv Y4 hr, qv U5 hr, qv Ml hr, ⟨⟨_, _, _, by rw [aH]; exact ⟨ny, nA, nB.kp⟩, Bb, A8⟩, hr.mono Q.b, by rw [aH]; exact az⟩, ⟨⟨_, _, _, by rw [aH]; exact ⟨fM, fN, eU.kp⟩, qT, jS⟩, hr.mono Q.b, by rw [aH]; exact az⟩, ⟨⟨_, _, _, by rw [aH]; exact ⟨fM, fN, eU.kp⟩, sN, jS⟩, hr.mono Q.b, by rw [aH]; exact az⟩, cY, jf, bM, cz, nE, nF, pQ⟩
 exact ab9.imp (Xx (fun _ => rfl) (fun _ => rfl) fun x hx => YS hx)
theorem walk {l : PySem.W.OpenLaw} {q : Program} {loose : List Str} {XP : Q.p -> Heap -> Prop} {YP : World -> Heap -> Prop} {d : DefRec} {K : Params -> PySem.W.Frag} (hn : l.most = some 63) (hdf : d.params.defaults = [])
   (hY : ∀ (w : World) (h : Heap), YP w h -> (K w.params).In h)
   (F : ∀ (w : World) (mg : Q.p) (fa : Addr) (h : Heap), (K w.params).In h -> h.Ns mainGlobals mg -> mg d.name = some (.ref fa) →
     ∃ fd : FuncData, (∀ (s : Shared) (u : Value), BindsTo s fd ⟨[u], []⟩ [("script", u)]) /\ ∀ base : Heap, (K w.params).In base -> base.Ns mainGlobals mg -> cJ l.prog w (K w.params) mg base lu 11 fa fd ["script"] (AG (K w.params) (fun _ => 0) 1 rR rS rT)) :
   PySem.W.WalkO q loose XP YP l.row.toRowW d [] (fun f vs => PySem.call f vs) :=
 L2.RV (n := 63) (k := 11) (x := "script") (CX := fun _ => lu) (sp := fun w => AG (K w.params) (fun _ => 0) 1 rR rS rT) hn Q.b hdf ⟨rfl, by decide, by decide⟩ hY F (fun _ _ a ns hl _ hS => Xr rfl hl rfl hS) fun _ _ _ _ _ z => z
end Law
end
namespace PySem.W.Fast
 def tw11902750910632409094 := 0
 def tw3317343179310908649 := 0
 def tw16691414527681718428 := 0
 def tw10833900188987426948 := 0
 def tw16559165870315597892 := 0
 def tw12568223817548573266 := 0
 def tw17035840079529764290 := 0
 def tw15377660667311223314 := 0
 def tw6753274980661226525 := 0
 def tw3749506746025813769 := 0
 def tw7313303516339040058 := 0
 def tw7205890244583538597 := 0
 def tw5865197127444480900 := 0
 def tw7488317003551920514 := 0
 def tw16856710997274694078 := 0
 def tw9401524034751326559 := 0
 def tw2871697138383298522 := 0
 def tw10386430247503856557 := 0
 def tw18104127512526546101 := 0
 def tw8419399886452566690 := 0
 def tw7009980929217202073 := 0
 def tw4271809911131322104 := 0
 def tw14124591572510264749 := 0
 def tw11300111661349694734 := 0
 def tw8522777903148535570 := 0
 def tw3255006627379517955 := 0
 def tw740104611533618094 := 0
 def tw12329457520185695196 := 0
 def tw8395264645434854950 := 0
 def tw12998139587601989381 := 0
 def tw10342518604322715941 := 0
 def tw12251881921363208235 := 0
 def tw5606209931711488133 := 0
 def tw7364007846575489791 := 0
 def tw6168455292917001177 := 0
 def tw16449219377689158389 := 0
 def tw10285731976603432058 := 0
 def tw3820367411339516287 := 0
 def tw1622911131969647674 := 0
 def tw2321946383945676455 := 0
 def tw4420028441476335039 := 0
 def tw14023043003179312188 := 0
 def tw5982877782501902265 := 0
 def tw17229040667904599393 := 0
 def tw8919103137132410019 := 0
 def tw1527117801126089887 := 0
end PySem.W.Fast
open PySem PySem.W PyProof.Rows
set_option maxRecDepth 100000 in
set_option maxHeartbeats 0 in
theorem PySem.Challenge.cw_moodtree_k54_flat_steps_back_holds : PySem.Challenge.rw_moodtree_k54_flat_steps_back.Holds := by
 w_on; o_law; k_head; (case hw => w_witness2)
 k_fill
 refine Law.walk (l := PySem.Challenge.rw_moodtree_k54_flat_steps_back) rfl rfl (fun w h Y => PySem.W.kIn_of Y) ?F
 case F =>
   intro w mg fa h KX G W4
   refine' Law.all_mk KX G W4 ?zP ?vU ?vV ?vW ?vX ?B6 ?B7 ?lM ?ng ?lN ?gP ?vY ?tF ?tG ?tH ?tK ?tL ?tM ?kr ?ku ?lO ?kB ?gk ?DL ?zQ ?zR ?zS ?zT ?zU ?zV ?nh ?ni ?nj ?nk ?pJ ?zW ?vZ ?v5 ?v7 ?v8 ?jC ?v9 (L2.bV ?Mm ?Mp ?Mq) ?HQ (L2.bV ?Y6 ?Y7 ?Y8) ?HR (L2.bV ?Dt ?Y9 ?Za) ?DN (L2.bV ?rA ?U7 ?U8) ?zY (L2.bV ?bQ ?Q0 ?qE) ?HS (L2.bV ?bD ?Zb ?Zc) ?zZ (L2.bV ?Q5 ?Q6 ?Q7) ?pK ?pL (L2.bV ?D6 ?D7 ?D8) ?DQ (L2.bV ?ez ?U9 ?Va) ?kC ?kD (L2.bV ?xr ?xu ?xx) ?jD ?jE (L2.bV ?wm ?wo ?wu) ?lP ?lQ (L2.bV ?Ai ?Aj ?Ak) ?lS ?lT (L2.bV ?Al ?Am ?An) ?pM ?pN (L2.bV ?D9 ?Ea ?Eb) ?HV (L2.bV ?Dq ?Zd ?Ze) ?DR (L2.bV ?Vb ?Vc ?Vd) ?fM ?fN (L2.bV ?Bc ?Bd ?Be) ?wc (L2.bV ?oi ?Mr ?Ms) ?DS (L2.bV ?Ve ?Vf ?Vg) ?nq (L2.bV ?Bf ?Bg ?Bh) ?z6 (L2.bV ?Q8 ?Q9 ?Ra) ?HW (L2.bV ?Zf ?Zg ?Zh) ?tO (L2.bV ?Ik ?Il ?Im) ?qQ (L2.bV ?FT ?FU ?FW) ?DT (L2.bV ?Vh ?Vi ?Vj) ?tP (L2.bV ?Io ?Ip ?Iq) ?i9 ?ja (L2.bV ?uT ?uU ?uV) ?jc ?jd (L2.bV ?Ao ?Aq ?As) ?sJ ?sL (L2.bV ?Bj ?Bk ?m9) ?lV ?lW ?lX ?lY ?lZ (L2.bV ?Au ?Av ?Aw) ?ny ?nA (L2.bV ?Bl ?Bm ?Bo) ?JR (L2.bV ?acd ?ace ?acf) ?QF ?QG ?DU ?DV ?HZ ?QH ?QI ?QJ ?DW ?DX ?z7 ?pP
   case zP | vU | vV | vW | vX | B6 | B7 | lM | ng | lN | gP | vY | tF | tG | tH | tK | tL | tM | kr | ku | lO | kB | gk | DL | zQ | zR | zS | zT | zU | zV | nh | ni | nj | nk | pJ | zW | vZ => (try delta L3.uW); k_is
   case v5 => kernel_rfl
   case v7 => (try delta L3.uW); k_is
   case v8 => kernel_rfl
   case jC => kts_exm
   case v9 | Mm | Mp | Mq | HQ | Y6 | Y7 | Y8 | HR | Dt | Y9 | Za | DN | rA | U7 | U8 | zY | bQ | Q0 | qE | HS | bD | Zb | Zc | zZ | Q5 | Q6 | Q7 | pK | pL | D6 | D7 | D8 | DQ | ez | U9 | Va | kC | kD | xr | xu | xx | jD | jE | wm | wo | wu | lP | lQ | Ai | Aj | Ak | lS | lT | Al | Am | An | pM | pN | D9 | Ea | Eb | HV | Dq | Zd | Ze | DR | Vb | Vc | Vd | fM | fN | Bc | Bd | Be | wc | oi | Mr | Ms | DS | Ve | Vf | Vg | nq | Bf | Bg | Bh | z6 | Q8 | Q9 | Ra | HW | Zf | Zg | Zh | tO | Ik | Il | Im | qQ | FT | FU | FW | DT | Vh | Vi | Vj | tP | Io | Ip | Iq | i9 | ja | uT | uU | uV | jc | jd | Ao | Aq | As | sJ | sL | Bj | Bk | m9 | lV | lW | lX | lY | lZ | Au | Av | Aw | ny | nA | Bl | Bm | Bo | JR | acd | ace | acf | QF | QG | DU | DV | HZ | QH | QI | QJ | DW | DX | z7 | pP => (try delta L3.uW); k_is
